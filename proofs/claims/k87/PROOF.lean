import PyProof.Rows.All
import Wide.All
import OpenK.AllK
import Wide.FinOn
import Lean
import PyProof.EqAt
import PyProof.EqKinds
import PyProof.TupleCall
import PyProof.NeKinds
import PyProof.EnumFor
import PyProof.EnumMake
import PyProof.Rows.EnumRows
import PyProof.Rows.Range3
import PyProof.NoPylong
import PyProof.ListRange
import PyProof.TupleOfSeq
import PyProof.TupleOfStr
import PyProof.Draws
import PyProof.ZipIter
import PyProof.Rows.ZipGen
import PyProof.Rows.SortStr
import PyProof.Rows.TupAdd
import PyProof.SetRoads
import PyProof.Rows.SetFrom
import PyProof.StrWalks
import PyProof.CollectWalk
import KE.KDictList
import PyProof.Tail
import PyProof.TupleIter
import PyProof.AttrMiss
import KE.KDictOf
import OpenK.KTop
import PyProof.Rows.SortRev
import PyProof.Rows.CallKwBuiltin
import PyProof.Rows.CallKw2
import KE.KRevIter
import PyProof.SumWalkG
import Wide.Seal
import PyProof.AttrMissHeap
import PyProof.TupleKey
import PyProof.StrCalls2
import PyProof.Rows.StrKeys3
import PyProof.Conv_int
import PyProof.ExcBaseAll.ValueError
import KE.KTryMore
import PyProof.ExcArgsOwn
import KE.KIsAll
import KE.RegKTryMore
import KE.RegKIsAll
import PySem.Challenge.RW_lassoscribe_k87_runs_written_and_read
open Option renaming bind_eq_some_iff → qaA, bind_assoc → qdB
open PySem renaming wpAny_bind → qbA, wpAny_pure → qcA, sizeLine_eq → qcB
open List renaming length_map → qdA, length_append → qeA, length_cons → qfA, length_singleton → qgA, mem_cons → qhA, mem_map → qiA, mem_singleton → qjA, mem_cons_self → qkA, mem_cons_of_mem → qmA, mem_range → qnA, mem_of_getElem? → qoA, getElem?_eq_some_iff → qpA, getElem?_eq_getElem → qqA, getElem?_map → qrA, map_cons → qsA, append_assoc → qtA, append_nil → quA, size_toArray → qiB, mem_append_right → qrB
open Nat renaming le_refl → qvA, le_trans → qwA, lt_irrefl → qxA, ne_of_lt → qpB, lt_of_lt_of_le → qqB, zero_le → qsB
open Option.some renaming inj → qyA
open PySem.Heap renaming lt_size → qzA, get?_push_of_some → qaB, get?_push_size → qbB
open Int renaming eq_ofNat_of_zero_le → qeB, emod_nonneg → qfB, emod_lt_of_pos → qgB
open Bool renaming false_ne_true → qhB
open PySem.W renaming nsIn → qjB, mg_of → qkB, keepIn → qmB, fnOf → qnB
open Array renaming length_toList → qoB
noncomputable section
set_option Elab.async false
set_option linter.all false
set_option maxRecDepth 100000
set_option maxHeartbeats 4000000
local macro_rules
 | `(tactic| clear $n:num $rs*) => do
  let i := fun (n : Lean.Name) => Lean.mkIdent n
  match n.getNat with
  | 7 => let l := #[`G1, `s1, `c, `hc, `H, `sH, `Q, `k].map i; `(tactic| intro $l:ident*)
  | 8 => `(tactic| refine $(rs[0]!) $(i `G1) $(i `s1) $(rs[1]!) $(rs[2]!) $(i `H) $(i `sH) _ fun $(i `v) $(i `G2) $(i `H2) $(i `x2) $(i `r2) => ?_)
  | _ => Lean.Macro.throwUnsupported
theorem bE {α β : Type} {o : Option α} {f : α -> Option β} {b : β} {C : Prop} (h : o.bind f = some b) (k : ∀ a, o = some a -> f a = some b -> C) : C := by
 obtain ⟨a, h1, h2⟩ := qaA.mp h;exact k a h1 h2
abbrev FZ9 := PySem.W.Frag
namespace L2
open PySem PySem.Spec PyProof.Rows
abbrev Key:=Sum Int Str
def keyIs:Key->Value->Bool
 | .inl k,v=>Value.isInt k v
 | .inr x,v=>Value.isStrOf x v
def keyH (w:World):Key->Int
 | .inl k=>hashInt k
 | .inr x=>hashStr w x
theorem B6:∀ {k:Key}{v:Value},keyIs k v=true->(∃ i t,k=Sum.inl i/\v=Value.int i t)\/(∃ x t,k=Sum.inr x/\v=Value.str x t)
 | .inl i,v,h=>by
  obtain ⟨t,e⟩:=Value.isInt_shape (k:=i) (v:=v) h;exact .inl ⟨i,t,rfl,e⟩
 | .inr x,v,h=>by
  obtain ⟨t,e⟩:=Value.isStrOf_shape (x:=x) (v:=v) h;exact .inr ⟨x,t,rfl,e⟩
theorem key_ll (a b:Int):decide ((Sum.inl a:Key)=Sum.inl b)=(a == b):=by
 by_cases e:a=b
 ·subst e;simp
 ·have h:¬ (Sum.inl a:Key)=Sum.inl b:=fun q=>e (Sum.inl.inj q);rw [decide_eq_false h];exact (beq_eq_false_iff_ne.mpr e).symm
theorem key_rr (a b:Str):decide ((Sum.inr a:Key)=Sum.inr b)=decide (a=b):=by
 by_cases e:a=b
 ·subst e;simp
 ·have h:¬ (Sum.inr a:Key)=Sum.inr b:=fun q=>e (Sum.inr.inj q);rw [decide_eq_false h,decide_eq_false e]
theorem key_lr (a:Int)(b:Str):decide ((Sum.inl a:Key)=Sum.inr b)=false:=decide_eq_false (fun q=>nomatch q)
theorem key_rl (a:Str)(b:Int):decide ((Sum.inr a:Key)=Sum.inl b)=false:=decide_eq_false (fun q=>nomatch q)
def Hi (prog:Program)(w:World):PySem.KeyKind prog w Key where
 is:=keyIs
 hash:=keyH w
 inj:=fun v a b ha hb=>by
  rcases B6 ha with ⟨i,t,rfl,rfl⟩ | ⟨x,t,rfl,rfl⟩
  ·rcases B6 hb with ⟨j,u,rfl,e⟩ | ⟨y,u,rfl,e⟩
   ·injection e with e1 _;rw [e1]
   ·exact nomatch e
  ·rcases B6 hb with ⟨j,u,rfl,e⟩ | ⟨y,u,rfl,e⟩
   ·exact nomatch e
   ·injection e with e1 _;rw [e1]
 byValue:=fun k v h=>by
  rcases B6 h with ⟨i,t,rfl,rfl⟩ | ⟨x,t,rfl,rfl⟩<;>rfl
 pyHash:=fun hv h=>by
  rcases B6 hv with ⟨i,t,rfl,rfl⟩ | ⟨x,t,rfl,rfl⟩
  ·exact wpAny_pyHash_int h
  ·exact wpAny_pyHash_str h
 eqBool:=fun hu hv h=>by
  rcases B6 hu with ⟨i,t,rfl,rfl⟩ | ⟨x,t,rfl,rfl⟩
  ·rcases B6 hv with ⟨j,u,rfl,rfl⟩ | ⟨y,u,rfl,rfl⟩
   ·rw [key_ll] at h;exact wpAny_eqBool_int h
   ·rw [key_lr] at h;exact SeqAt.EqAt.int_str i t y u _ _ _ _ h
  ·rcases B6 hv with ⟨j,u,rfl,rfl⟩ | ⟨y,u,rfl,rfl⟩
   ·rw [key_rl] at h;exact SeqAt.EqAt.str_int x t j u _ _ _ _ h
   ·rw [key_rr] at h;exact wpAny_eqBool_str h
 «strs»:=fun k x t v h=>by
  rcases B6 h with ⟨i,u,rfl,e⟩ | ⟨y,u,rfl,e⟩
  ·exact nomatch e
  ·injection e with e1 _
   subst e1;cases v<;>rfl
inductive V where
 | non|bl (b:Bool)|int (i:Int)|str (x:Str)|byt (b:Array UInt8)|flt (b:UInt64)|ref (a:Addr)|ty (n:String)
 deriving DecidableEq
def RelV:V->Value->Prop
 | .non,u=>u=Value.none
 | .bl b,u=>u=Value.bool b
 | .int i,u=>∃ t,u=Value.int i t
 | .str x,u=>∃ t,u=Value.str x t
 | .byt b,u=>∃ t,u=Value.bytes b t
 | .flt b,u=>∃ t,u=Value.float b t
 | .ref a,u=>u=Value.ref a
 | .ty n,u=>u=Value.type n
abbrev Vals:List V->List Value->Prop:=Paired RelV
theorem Vals.length {xs:List V}{us:List Value}(r:Vals xs us):xs.length=us.length:=Paired.length r
theorem Vals.get:∀ {xs:List V}{us:List Value}{i:Nat}{x:V},Vals xs us->xs[i]? = some x->∃ u,us[i]? = some u/\RelV x u
 | _,_,_,_,.nil,e=>by simp at e
 | _,_,0,_,.cons r _,e=>by simp at e;subst e;exact ⟨_,rfl,r⟩
 | _,_,i+1,x,.cons _ t,e=>by
  obtain ⟨u,h1,h2⟩:=Vals.get (i:=i) (x:=x) t (by simpa using e);exact ⟨u,by simpa using h1,h2⟩
theorem Vals.append:∀ {xs ys:List V}{us ws:List Value},Vals xs us->Vals ys ws->Vals (xs++ys) (us++ws)
 | _,_,_,_,.nil,s=>s
 | _,_,_,_,.cons r t,s=>.cons r (Vals.append t s)
theorem Vals.take:∀ {xs:List V}{us:List Value}(n:Nat),Vals xs us->Vals (xs.take n) (us.take n)
 | _,_,0,_=>.nil
 | _,_,_+1,.nil=>.nil
 | _,_,n+1,.cons r t=>.cons r (Vals.take n t)
theorem Vals.drop:∀ {xs:List V}{us:List Value}(n:Nat),Vals xs us->Vals (xs.drop n) (us.drop n)
 | _,_,0,r=>r
 | _,_,_+1,.nil=>.nil
 | _,_,n+1,.cons _ t=>Vals.drop n t
def RelO:Option V->Option Value->Prop
 | some v,some u=>RelV v u
 | none,none=>True
 | _,_=>False
def KV {κ:Type}:List (κ × V)->List (κ × Value)->Prop:=Paired fun (p:κ × V) (q:κ × Value)=>p.1=q.1/\RelV p.2 q.2
def kV:Key->V
 | .inl i=>.int i
 | .inr x=>.str x
inductive HO where
 | lst (xs:List V)
 | tup (xs:List V)
 | dK (kvs:List (Key × V))|dT (kvs:List (List Key × V))
 | set (S:Int->Bool) (n:Nat)
 | ins (C dx:Addr) (fs:List (Str × V))
 | own (x:Addr)
 | xd (fs:List (Str × V))
 | met (f x:Addr)
 | rng (lo hi:Int)
 | frz (o:Obj) (u:HO)
 | tbl (ps:Array Value)
 | ext (φ:Heap->Prop)
abbrev Hp:=Addr->Option HO
def upd (H:Hp)(a:Addr)(o:HO):Hp:=fun b=>if b=a then some o else H b
theorem AM {H:Hp}{a:Addr}{o:HO}:upd H a o a=some o:=by unfold upd;rw [if_pos rfl]
theorem AK {H:Hp}{a b:Addr}{o:HO}(h:b≠a):upd H a o b=H b:=by unfold upd;rw [if_neg h]
theorem BK {H:Hp}{a b:Addr}{o:HO}(h:H a=some o)(h':H b=none):a≠b:=by
 intro e;subst e;rw [h] at h';cases h'
section
variable (P:Program)(w:World)
def ObjOk (H:Hp)(h:Heap)(a:Addr):HO->Prop
 | .lst xs=>xs.length<=sizeLine/\∃ (its:List Value) (n:Nat),Vals xs its/\h.get? a=some { cls:=.type "list",data:=.seq its.toArray n }
 | .tup xs=>xs.length<=sizeLine/\∃ its:List Value,Vals xs its/\IsTup h a its.toArray
 | .dK kvs=>kvs.length<=sizeLine/\(a == sysModules)=false/\∃ vs,KV kvs vs/\h.DictOf (Hi P w) a vs
 | .dT kvs=>kvs.length<=sizeLine/\(a == sysModules)=false/\∃ xs:List (List Key × Addr × Value),
   Paired (fun (p:List Key × V) (q:List Key × Addr × Value)=>p.1=q.1/\H q.2.1=some (.tup (p.1.map kV))/\RelV p.2 q.2.2) kvs xs /\
   ∃ o es ep,h.get? a=some o/\o.ExactDict/\o.data = .dict es ep/\es.toList=xs.map (entryOfKey (tupleKind (Hi P w)))/\(xs.map (·.1)).Nodup
 | .set S n=>h.SetOf (intKind P w) a S n
 | .ins C dx fs=>H dx=some (.own a)/\fs.length<=1000/\dx≠a/\h.get? a=some (PySem.W.instObj C dx) /\
   ∃ mA,h.Ns1 dx mA/\(∀ f,RelO (fs.lookup f) (mA f))/\PySem.Within mA (fs.map (·.1))
 | .own _=>∃ o,h.get? a=some o
 | .xd fs=>∃ mA,h.Ns1 a mA/\∀ f,RelO (fs.lookup f) (mA f)
 | .rng lo hi=>∃ t u v,h.get? a=some { cls:=.type "range",data:=.fields #[.int lo t,.int hi u,.int 1 v] }
 | .frz o u=>h.get? a=some o/\ObjOk H h a u
 | .tbl ps=>h.get? a=some { cls:=.none,data:=.fields ps }
 | .met f x=>h.get? a=some (PySem.W.methodObj (.ref f) (.ref x))
 | .ext φ=>φ h/\(∃ o,h.get? a=some o)/\∀ h1 h2:Heap,φ h1->(∀ o,h1.get? a=some o->h2.get? a=some o)->φ h2
def HOk (H:Hp)(h:Heap):Prop:=∀ a o,H a=some o->ObjOk P w H h a o
end
section
variable {P:Program}{w:World}{H H':Hp}{h h':Heap}{a:Addr}{o:HO}
theorem ObjOk.lt (x:ObjOk P w H h a o):a<h.objs.size:=by
 cases o with
 | lst xs=>obtain ⟨_,_,_,_,e⟩:=x;exact qzA e
 | tup xs=>obtain ⟨_,_,_,p⟩:=x;exact p.lt
 | dK kvs=>obtain ⟨_,_,_,_,o,_,_,e,_⟩:=x;exact qzA e
 | dT kvs=>obtain ⟨_,_,_,_,o,_,_,e,_⟩:=x;exact qzA e
 | set S n=>obtain ⟨o,_,_,_,e,_⟩:=x;exact qzA e
 | ins C dx fs=>obtain ⟨_,_,_,e,_⟩:=x;exact qzA e
 | own y=>obtain ⟨_,e⟩:=x;exact qzA e
 | xd fs=>obtain ⟨_,⟨_,_,_,e,_⟩,_⟩:=x;exact qzA e
 | rng lo hi=>obtain ⟨_,_,_,e⟩:=x;exact qzA e
 | frz ob u=>obtain ⟨e,_⟩:=x;exact qzA e
 | tbl ps=>exact qzA (show h.get? a=some _ from x)
 | met f y=>exact qzA (show h.get? a=some _ from x)
 | ext φ=>obtain ⟨_,⟨_,e⟩,_⟩:=x;exact qzA e
theorem Paired.mapP {α β:Type}{F G:α->β->Prop}:∀ {l₁:List α}{l₂:List β},Paired F l₁ l₂->(∀ a b,F a b->G a b)->Paired G l₁ l₂
 | _,_,.nil,_=>.nil
 | _,_,.cons r t,f=>.cons (f _ _ r) (Paired.mapP t f)
theorem Paired.imp' {α β:Type}{F G:α->β->Prop}(f:∀ a b,F a b->G a b){l₁:List α}{l₂:List β}(r:Paired F l₁ l₂):Paired G l₁ l₂:=Paired.mapP r f
theorem ObjOk.stay (x:ObjOk P w H h a o)(k:∀ b u,(b=a\/H b=some (.own a))->h.get? b=some u->h'.get? b=some u)
  (ho:∀ b,H b=some (.own a)->H' b=some (.own a)) (ht:∀ b xs,H b=some (.tup xs)->H' b=some (.tup xs)):ObjOk P w H' h' a o:=by
 induction o with
 | lst xs=>obtain ⟨z,its,n,r,e⟩:=x;exact ⟨z,its,n,r,k _ _ (.inl rfl) e⟩
 | tup xs=>obtain ⟨z,its,r,ob,e,c⟩:=x;exact ⟨z,its,r,ob,k _ _ (.inl rfl) e,c⟩
 | dK kvs=>obtain ⟨z,y,vs,r,ob,es,ep,e,c⟩:=x;exact ⟨z,y,vs,r,ob,es,ep,k _ _ (.inl rfl) e,c⟩
 | dT kvs =>
  obtain ⟨z,y,xs,r,ob,es,ep,e,c⟩:=x;exact ⟨z,y,xs,Paired.mapP r fun p q z=>⟨z.1,ht _ _ z.2.1,z.2.2⟩,ob,es,ep,k _ _ (.inl rfl) e,c⟩
 | set S n=>obtain ⟨ob,es,ep,t,e,c⟩:=x;exact ⟨ob,es,ep,t,k _ _ (.inl rfl) e,c⟩
 | ins C dx fs =>
  obtain ⟨d,z,ne,e,mA,⟨od,es,ep,e2,c⟩,r⟩:=x;exact ⟨ho _ d,z,ne,k _ _ (.inl rfl) e,mA,⟨od,es,ep,k _ _ (.inr d) e2,c⟩,r⟩
 | own y=>obtain ⟨ob,e⟩:=x;exact ⟨ob,k _ _ (.inl rfl) e⟩
 | xd fs=>obtain ⟨mA,⟨od,es,ep,e,c⟩,r⟩:=x;exact ⟨mA,⟨od,es,ep,k _ _ (.inl rfl) e,c⟩,r⟩
 | rng lo hi=>obtain ⟨t,u,v,e⟩:=x;exact ⟨t,u,v,k _ _ (.inl rfl) e⟩
 | frz ob u ih=>obtain ⟨e,q⟩:=x;exact ⟨k _ _ (.inl rfl) e,ih q⟩
 | tbl ps =>
  have e:h.get? a=some { cls:=.none,data:=.fields ps }:=x;show h'.get? a=some { cls:=.none,data:=.fields ps };exact k a _ (.inl rfl) e
 | met f y =>
  have e:h.get? a=some (PySem.W.methodObj (.ref f) (.ref y)):=x;show h'.get? a=some (PySem.W.methodObj (.ref f) (.ref y));exact k a _ (.inl rfl) e
 | ext φ=>obtain ⟨p,⟨o,e⟩,st⟩:=x;exact ⟨st _ _ p fun o q=>k _ _ (.inl rfl) q,⟨o,k _ _ (.inl rfl) e⟩,st⟩
theorem HOk.lt (x:HOk P w H h)(e:H a=some o):a<h.objs.size:=(x a o e).lt
theorem HOk.fresh (x:HOk P w H h)(e:h.objs.size<=a):H a=none:=by
 cases q:H a with
 | none=>rfl
 | some u=>exact absurd (qqB (x.lt q) e) (qxA _)
theorem HOk.kept (x:HOk P w H h)(k:∀ b u,h.get? b=some u->h'.get? b=some u):HOk P w H h':=fun a o e =>
 (x a o e).stay (fun b u _ q=>k b u q) (fun _ q=>q) fun _ _ q=>q
theorem HOk.laid (x:HOk P w H h)(k:∀ b u,h.get? b=some u->h'.get? b=some u)(hp:h.objs.size<=a)(new:ObjOk P w (upd H a o) h' a o):HOk P w (upd H a o) h':=fun b u e=>by
 have hn:=x.fresh hp;by_cases hb:b=a
 ·subst hb;rw [AM] at e;cases e;exact new
 ·rw [AK hb] at e;exact (x b u e).stay (fun c v _ q=>k c v q) (fun c q=>by rw [AK (BK q hn)];exact q) fun c xs q=>by rw [AK (BK q hn)];exact q
end
def Rd (H:Hp)(a:Addr)(u:HO):Prop:=H a=some u\/∃ o,H a=some (.frz o u)
theorem Rd.ok {P:Program}{w:World}{H:Hp}{h:Heap}{a:Addr}{u:HO}(r:Rd H a u)(x:HOk P w H h):ObjOk P w H h a u:=by
 rcases r with r | ⟨o,r⟩
 ·exact x a u r
 ·obtain ⟨_,q⟩:=x a _ r;exact q
def Mut:Option HO->Prop
 | some (.lst _)=>True
 | some (.dK _)=>True
 | some (.dT _)=>True
 | some (.set _ _)=>True
 | some (.ins _ _ _)=>True
 | some (.ext _)=>True
 | _=>False
section
variable {P:Program}{w:World}{H:Hp}{h h':Heap}{x e:Addr}{o':HO}
theorem HOk.write (ok:HOk P w H h)(mu:Mut (H x))(he:e=x\/H e=some (.own x))(k:∀ b u,b≠e->h.get? b=some u->h'.get? b=some u)(heo:∃ u,h'.get? e=some u)
  (new:ObjOk P w (upd H x o') h' x o'):HOk P w (upd H x o') h':=fun b u q=>by
 have nown:∀ c y,H c=some (.own y)->c≠x:=fun c y r z=>by subst z;rw [r] at mu;exact mu
 have ntup:∀ c xs,H c=some (.tup xs)->c≠x:=fun c xs r z=>by subst z;rw [r] at mu;exact mu
 by_cases hb:b=x
 ·subst hb;rw [AM] at q;cases q;exact new
 ·rw [AK hb] at q;by_cases hbe:b=e
  ·have q':H b=some (.own x):=by
    rcases he with z|z
    ·exact absurd (hbe.trans z) hb
    ·rw [hbe];exact z
   rw [q] at q';cases q';obtain ⟨v,hv⟩:=heo;exact ⟨v,by rw [hbe];exact hv⟩
  ·refine (ok b u q).stay (fun c v hc r=>k c v ?_ r) (fun c r=>by rw [AK (nown c b r)];exact r) fun c xs r=>by rw [AK (ntup c xs r)];exact r
   rcases hc with rfl|hc
   ·exact hbe
   ·rintro rfl;rcases he with z|z
    ·exact nown c b hc z
    ·rw [hc] at z;cases z;exact hb rfl
end
structure Un (fs ex:List Addr)(H H':Hp)(h h':Heap):Prop where
 keep:∀ b o,h.get? b=some o->H b=none->b ∉ fs->b ∉ ex->h'.get? b=some o
 slot:∀ b o,h.get? b=some o->H b=none->b∈fs->b ∉ ex->∃ sl,h'.get? b=some { o with slots:=sl }
 free:∀ b o,h.get? b=some o->H b=none->b ∉ ex->H' b=none
 there:∀ b o,h.get? b=some o->b ∉ ex->∃ o',h'.get? b=some o'
 tups:∀ b xs,H b=some (.tup xs)->H' b=some (.tup xs)
 frzs:∀ b o u,H b=some (.frz o u)->H' b=some (.frz o u)
 tbls:∀ b ps,H b=some (.tbl ps)->∃ more,H' b=some (.tbl (ps++more))
section
variable {fs fs' ex ex':List Addr}{H H1 H2:Hp}{h h1 h2 h':Heap}{a x e:Addr}{o:HO}
theorem Un.any (u:Un fs ex H H1 h h1){b:Addr}{ob:Obj}(q:h.get? b=some ob)(n:H b=none)(hx:b ∉ ex):∃ sl,h1.get? b=some { ob with slots:=sl }:=by
 by_cases hb:b∈fs
 ·exact u.slot b ob q n hb hx
 ·exact ⟨ob.slots,u.keep b ob q n hb hx⟩
theorem Un.kept (k:∀ b u,h.get? b=some u->h'.get? b=some u):Un fs ex H H h h' :=
 ⟨fun b ob q _ _ _=>k b ob q,fun b ob q _ _ _=>⟨ob.slots,k b ob q⟩,fun _ _ _ n _=>n,fun b ob q _=>⟨ob,k b ob q⟩,fun _ _ q=>q,fun _ _ _ q=>q,fun _ ps q=>⟨#[],by rw [q];simp⟩⟩
theorem Un.refl:Un fs ex H H h h:=Un.kept fun _ _ q=>q
theorem Un.laid (k:∀ b u,h.get? b=some u->h'.get? b=some u)(hp:h.objs.size<=a)(hn:H a=none):Un fs ex H (upd H a o) h h' where
 keep:=fun b u q _ _ _=>k b u q
 slot:=fun b u q _ _ _=>⟨u.slots,k b u q⟩
 free:=fun b u q n _=>by rw [AK (qpB (qqB (qzA q) hp))];exact n
 there:=fun b u q _=>⟨u,k b u q⟩
 tups:=fun b xs q=>by rw [AK (BK q hn)];exact q
 frzs:=fun b u xs q=>by rw [AK (BK q hn)];exact q
 tbls:=fun b ps q=>⟨#[],by rw [AK (BK q hn),q];simp⟩
theorem Un.write (mu:Mut (H x))(he:e=x\/H e=some (.own x))(k:∀ b u,b≠e->h.get? b=some u->h'.get? b=some u)(heo:∃ u,h'.get? e=some u):Un fs ex H (upd H x o) h h':=by
 have hx:∀ b,H b=none->b≠x:=fun b n z=>by subst z;rw [n] at mu;exact mu
 have hb:∀ b,H b=none->b≠e:=fun b n z=>by
  subst z;rcases he with r|r
  ·exact hx b n r
  ·rw [n] at r;cases r
 have hm:∀ b u,H b=some u->¬ Mut (some u)->b≠x:=fun b u q nm z=>by subst z;rw [q] at mu;exact nm mu
 refine ⟨fun b u q n _ _=>k b u (hb b n) q,fun b u q n _ _=>⟨u.slots,k b u (hb b n) q⟩,fun b u q n _=>by rw [AK (hx b n)];exact n,fun b u q _=>?_,
  fun b xs q=>by rw [AK (hm b _ q fun z=>z)];exact q,fun b u xs q=>by rw [AK (hm b _ q fun z=>z)];exact q,fun b ps q=>⟨#[],by rw [AK (hm b _ q fun z=>z),q];simp⟩⟩
 by_cases hbe:b=e
 ·subst hbe;exact heo
 ·exact ⟨u,k b u hbe q⟩
end
def trk (h:Heap)(H:Hp):List Addr:=(List.range h.objs.size).filter fun a=>(H a).isSome
def HZ (h:Heap)(H:Hp):Heap:=PySem.W.hideAll h (trk h H)
theorem K5 (h:Heap)(H:Hp):(HZ h H).objs.size=h.objs.size:=PySem.W.hideAll_size _ _
theorem hidT_get {h:Heap}{H:Hp}{b:Addr}{o:Obj}(e:h.get? b=some o)(n:H b=none):(HZ h H).get? b=some o :=
 PySem.W.hideAll_get _ e fun hm=>by
  have q:(H b).isSome=true:=(List.mem_filter.mp hm).2;rw [n] at q;simp at q
theorem of_hidT {h:Heap}{H:Hp}{b:Addr}{o:Obj}(e:(HZ h H).get? b=some o):h.get? b=some o/\H b=none:=by
 have e':h.get? b=some o:=PySem.W.of_hideAll (trk h H) e;refine ⟨e',?_⟩
 cases q:H b with
 | none=>rfl
 | some x =>
  have hm:b∈trk h H:=List.mem_filter.mpr ⟨qnA.mpr (qzA e'),by simp [q]⟩;have z:(HZ h H).get? b=none:=PySem.W.hideAll_none (trk h H) hm;rw [z] at e;cases e
structure Mod (K:FZ9)(mg:Str->Option Value)(base:Heap):Prop where
 kin:K.In base
 glob:base.Ns mainGlobals mg
 blt:∃ mb,base.Ns builtinsNs mb/\∀ x:Str,x ≠ "__name__" -> mb x=bootBuiltins x
 nolimit:base.NoLimit
structure Cx where
 prog:Program
 w:World
 K:FZ9
 mg:Str->Option Value
 base:Heap
 A:Around
 N:List Str
 s₀:Shared
 H₀:Hp
 env:Env
 outer:List Env
 stack:List Env
 ex:List Addr
 fn:Str->Bool
 calm:Bool
 pn:List (Addr × Obj)
 xe:Value->Shared->Prop
def frs (l:List Env):List Addr:=l.filterMap (·.frame)
abbrev Cx.fs (X:Cx):List Addr:=frs X.outer
def Vis (sc:Scope)(x:Str):Prop:=sc.names.lookup x=some .local \/ sc.names.lookup x=some .cell\/sc.names.lookup x=some .free
def Loc (sc:Scope)(x:Str):Prop:=sc.names.lookup x=some .local \/ sc.names.lookup x=some .cell
def Look (env:Env)(h:Heap)(m:Str->Option Value)(x:Str)(u:Value):Prop :=
 (env.kindOf x=some .local /\ m x=some u)\/((env.kindOf x=some .cell\/env.kindOf x=some .free)/\∃ c,env.cells.lookup x=some c/\h.IsCell c (some u))
structure Cx.Ok (X:Cx):Prop where
 mod:Mod X.K X.mg X.base
 kind:X.env.scope.kind = .function
 glob:X.env.globals=mainGlobals
 blt:X.env.builtins=builtinsNs
 above:X.s₀.heap.objs.size<=X.env.locals
 inj:∀ x y c,X.env.cells.lookup x=some c->X.env.cells.lookup y=some c->x=y
 has:∀ x,(X.env.kindOf x=some .cell\/X.env.kindOf x=some .free)->∃ c,X.env.cells.lookup x=some c
 cab:∀ x c,X.fn x=true->X.env.cells.lookup x=some c->X.s₀.heap.objs.size<=c
 hd:X.calm=true->X.A.handled=none
 frames:X.A.frames=some X.stack
 stk:X.stack=X.outer\/(X.stack=X.env::X.outer/\X.env.frame=some X.env.locals)
 exf:∀ b∈X.ex,b≠X.env.locals/\∀ x c,X.env.cells.lookup x=some c->c≠b
 bs:∀ b o,X.base.get? b=some o->X.s₀.heap.get? b=some o/\X.H₀ b=none
 bsz:X.base.objs.size<=X.s₀.heap.objs.size
 noex:∀ b o,X.base.get? b=some o->b ∉ X.ex
 exfs:∀ b∈X.ex,b ∉ X.fs
 funs:X.s₀.heap.FunFrames X.base X.outer
 frf:∀ b∈X.fs,X.H₀ b=none
structure Inv (X:Cx)(pins:List (Addr × Obj))(σ:List (Option V))(H:Hp)(s:Shared):Prop where
 ok:X.Ok
 os:s.os=X.s₀.os
 bare:AllBare s.gens
 base:Un X.fs X.ex X.H₀ H X.s₀.heap s.heap
 loc:∃ m,s.heap.Ns X.env.locals m/\∀ (i:Nat) (x:Str) (v:V),X.N[i]? = some x->σ[i]? = some (some v)->Vis X.env.scope x->∃ u,RelV v u/\Look X.env s.heap m x u
 cell:∀ x c,X.env.cells.lookup x=some c->∃ v,s.heap.IsCell c v
 free:H X.env.locals=none
 freeC:∀ x c,X.env.cells.lookup x=some c->H c=none
 pin:∀ p∈X.pn++pins,s.heap.get? p.1=some p.2/\H p.1=none/\p.1≠X.env.locals/\p.1 ∉ X.fs/\∀ v,p.2.data ≠ .cell v
 hok:HOk X.prog X.w H s.heap
 len:σ.length=X.N.length
section
variable {X:Cx}{pins:List (Addr × Obj)}{σ:List (Option V)}{H H':Hp}{s:Shared}{h':Heap}
theorem Cx.Ok.nofr (ok:X.Ok){b:Addr}{o:Obj}(e:X.base.get? b=some o):b ∉ X.fs:=fun hb=>by
 have:=(ok.funs.mem hb).1;rw [e] at this;cases this
theorem Inv.bs (I:Inv X pins σ H s):∀ b o,X.base.get? b=some o->s.heap.get? b=some o/\H b=none:=fun b o e =>
 ⟨I.base.keep b o (I.ok.bs b o e).1 (I.ok.bs b o e).2 (I.ok.nofr e) (I.ok.noex b o e),I.base.free b o (I.ok.bs b o e).1 (I.ok.bs b o e).2 (I.ok.noex b o e)⟩
theorem Inv.bk (I:Inv X pins σ H s):∀ b o,X.base.get? b=some o->s.heap.get? b=some o:=fun b o e=>(I.bs b o e).1
theorem Inv.mod (I:Inv X pins σ H s):Mod X.K X.mg X.base:=I.ok.mod
theorem Inv.kIn (I:Inv X pins σ H s):X.K.In s.heap:=I.ok.mod.kin.keeps I.bk
theorem Inv.lt (I:Inv X pins σ H s):X.env.locals<s.heap.objs.size:=let ⟨_,hn,_⟩:=I.loc;hn.lt
theorem Inv.sz (I:Inv X pins σ H s):X.s₀.heap.objs.size<=s.heap.objs.size:=qwA I.ok.above (Nat.le_of_lt I.lt)
theorem Inv.nofs (I:Inv X pins σ H s){a:Addr}(h:s.heap.objs.size<=a):a ∉ X.fs:=fun hb=>by
 obtain ⟨_,o,ho,_⟩:=I.ok.funs.mem hb;exact absurd (qqB (qzA ho) (qwA I.sz h)) (qxA _)
theorem Inv.cne (I:Inv X pins σ H s):∀ x c,X.env.cells.lookup x=some c->c≠X.env.locals:=fun x c e z=>by
 obtain ⟨v,o,ho,hd⟩:=I.cell x c e;obtain ⟨m,⟨o',es,ep,ho',hd',_⟩,_⟩:=I.loc;rw [z,ho'] at ho;cases ho;rw [hd'] at hd;cases hd
theorem Inv.funs (I:Inv X pins σ H s):s.heap.FunFrames X.base X.outer:=by
 have all:∀ (l:List Env),(∀ b∈frs l,b∈X.fs)->X.s₀.heap.FunFrames X.base l->s.heap.FunFrames X.base l:=by
  intro l
  induction l with
  | nil=>intro _ _;trivial
  | cons env r ih =>
   intro hs hl;obtain ⟨hk,⟨L,o,hf,hn,ho,hd⟩,hr⟩:=hl;have hL:L∈X.fs:=hs L (by unfold frs;rw [List.filterMap_cons,hf];exact qkA);obtain ⟨sl,e⟩:=I.base.slot L o ho (I.ok.frf L hL) hL fun z=>I.ok.exfs L z hL;exact ⟨hk,⟨L,_,hf,hn,e,hd⟩,ih (fun b hb=>hs b (by unfold frs;rw [List.filterMap_cons,hf];exact qmA _ hb)) hr⟩
 exact all X.outer (fun _ hb=>hb) I.ok.funs
theorem Inv.stack (I:Inv X pins σ H s):s.heap.FunFrames X.base X.stack:=by
 rcases I.ok.stk with e | ⟨e,hf⟩
 ·rw [e];exact I.funs
 ·rw [e];obtain ⟨m,hn,_⟩:=I.loc;refine .cons (by rw [I.ok.kind];decide) hf hn ?_ I.funs;exact Heap.get?_none_of_le (qwA I.ok.bsz I.ok.above)
theorem Inv.stkSub (I:Inv X pins σ H s):∀ b∈frs X.stack,b∈X.env.locals::X.fs:=fun b hb=>by
 rcases I.ok.stk with e | ⟨e,hf⟩
 ·rw [e] at hb;exact qmA _ hb
 ·rw [e] at hb;unfold frs at hb;rw [List.filterMap_cons,hf] at hb;exact hb
theorem Inv.stkFree (I:Inv X pins σ H s):∀ b∈frs X.stack,H b=none:=fun b hb=>by
 rcases qhA.mp (I.stkSub b hb) with e|hb
 ·rw [e];exact I.free
 ·obtain ⟨_,o,ho,_⟩:=I.ok.funs.mem hb;exact I.base.free b o ho (I.ok.frf b hb) fun z=>I.ok.exfs b z hb
theorem Inv.step {g':Array GenState}{t':Nat}{d':Drawn}{ch:List Addr}(I:Inv X pins σ H s)
  (hch:∀ b∈ch,(b∈X.ex\/X.s₀.heap.objs.size<=b)/\b≠X.env.locals/\(∀ x c,X.env.cells.lookup x=some c->c≠b)/\∀ p∈X.pn++pins,p.1≠b)
  (keep:∀ b o,b≠X.env.locals->b ∉ X.fs->b ∉ ch->s.heap.get? b=some o->H b=none->h'.get? b=some o)
  (slot:∀ b o,b≠X.env.locals->b∈X.fs->b ∉ ch->s.heap.get? b=some o->H b=none->∃ sl,h'.get? b=some { o with slots:=sl }) (free:∀ b o,b ∉ ch->s.heap.get? b=some o->H b=none->H' b=none)
  (there:∀ b o,b ∉ ch->s.heap.get? b=some o->∃ o',h'.get? b=some o')
  (tups:∀ b xs,H b=some (.tup xs)->H' b=some (.tup xs)) (frzs:∀ b o u,H b=some (.frz o u)->H' b=some (.frz o u)) (tbls:∀ b ps,H b=some (.tbl ps)->∃ more,H' b=some (.tbl (ps++more)))
  (ns:∀ m,s.heap.Ns X.env.locals m->h'.Ns X.env.locals m) (hok:HOk X.prog X.w H' h') (hg:AllBare g') :
  Inv X pins σ H' { s with heap:=h',gens:=g',drawn:=d',toks:=t' }:=by
 have neL:∀ b o,X.s₀.heap.get? b=some o->b≠X.env.locals:=fun b o e=>qpB (qqB (qzA e) I.ok.above)
 have neC:∀ b o,X.s₀.heap.get? b=some o->b ∉ X.ex->b ∉ ch:=fun b o e hx hb=>by
  rcases (hch b hb).1 with z|z
  ·exact hx z
  ·exact absurd (qqB (qzA e) z) (qxA _)
 have cellK:∀ x c,X.env.cells.lookup x=some c->∀ v,s.heap.IsCell c v->h'.IsCell c v:=fun x c e v ⟨o,ho,hd⟩=>by
  have nch:c ∉ ch:=fun z=>(hch c z).2.2.1 x c e rfl;by_cases hc:c∈X.fs
  ·obtain ⟨sl,q⟩:=slot c o (I.cne x c e) hc nch ho (I.freeC x c e);exact ⟨_,q,hd⟩
  ·exact ⟨o,keep c o (I.cne x c e) hc nch ho (I.freeC x c e),hd⟩
 refine ⟨I.ok,I.os,hg,⟨fun b o e n hb hx=>?_,fun b o e n hb hx=>?_,fun b o e n hx=>?_,fun b o e hx=>?_,fun b xs e=>tups b xs (I.base.tups b xs e),fun b o xs e=>frzs b o xs (I.base.frzs b o xs e),fun b ps e=>?_⟩,?_,fun x c e=>?_,?_,fun x c e=>?_,fun p hp=>?_,hok,I.len⟩
 ·exact keep b o (neL b o e) hb (neC b o e hx) (I.base.keep b o e n hb hx) (I.base.free b o e n hx)
 ·obtain ⟨sl,e1⟩:=I.base.slot b o e n hb hx;obtain ⟨sl',e2⟩:=slot b _ (neL b o e) hb (neC b o e hx) e1 (I.base.free b o e n hx);exact ⟨sl',e2⟩
 ·obtain ⟨o',e1⟩:=I.base.there b o e hx;exact free b o' (neC b o e hx) e1 (I.base.free b o e n hx)
 ·obtain ⟨o',e1⟩:=I.base.there b o e hx;exact there b o' (neC b o e hx) e1
 ·obtain ⟨m1,e1⟩:=I.base.tbls b ps e;obtain ⟨m2,e2⟩:=tbls b _ e1;exact ⟨m1++m2,by rw [e2,Array.append_assoc]⟩
 ·obtain ⟨m,hn,hl⟩:=I.loc;refine ⟨m,ns m hn,fun i x v e1 e2 e3=>?_⟩;obtain ⟨u,r,l⟩:=hl i x v e1 e2 e3;refine ⟨u,r,?_⟩;rcases l with l | ⟨k,c,e,z⟩
  ·exact .inl l
  ·exact .inr ⟨k,c,e,cellK x c e _ z⟩
 ·obtain ⟨v,z⟩:=I.cell x c e;exact ⟨v,cellK x c e v z⟩
 ·obtain ⟨m,⟨o,_,_,ho,_⟩,_⟩:=I.loc;exact free _ o (fun z=>(hch _ z).2.1 rfl) ho I.free
 ·obtain ⟨v,o,ho,hd⟩:=I.cell x c e;exact free c o (fun z=>(hch c z).2.2.1 x c e rfl) ho (I.freeC x c e)
 ·obtain ⟨e,n,ne,nf,d⟩:=I.pin p hp;have nch:p.1 ∉ ch:=fun z=>(hch p.1 z).2.2.2 p hp rfl;exact ⟨keep p.1 p.2 ne nf nch e n,free p.1 p.2 nch e n,ne,nf,d⟩
theorem Inv.un {t':Nat}(I:Inv X pins σ H s)(u:Un X.fs [] H H' s.heap h')(hok:HOk X.prog X.w H' h'):Inv X pins σ H' { s with heap:=h',toks:=t' }:=by
 obtain ⟨m,⟨o,es,ep,ho,r⟩,_⟩:=id I.loc;obtain ⟨sl,hL⟩:=u.any ho I.free (by simp)
 exact I.step (g':=s.gens) (d':=s.drawn) (ch:=[]) (fun _ z=>nomatch z) (fun b o _ hb _ e n=>u.keep b o e n hb (by simp)) (fun b o _ hb _ e n=>u.slot b o e n hb (by simp)) (fun b o _ e n=>u.free b o e n (by simp)) (fun b o _ e=>u.there b o e (by simp)) u.tups u.frzs u.tbls (fun m' hm=>by
  obtain ⟨o',es',ep',ho',r'⟩:=hm;rw [ho] at ho';cases ho'
  exact ⟨_,es',ep',hL,r'⟩) hok I.bare
theorem Inv.call {g':Array GenState}{t':Nat}{d':Drawn}{ch:List Addr}(I:Inv X pins σ H s)(u:Un (frs X.stack) ch H H' s.heap h')(hok:HOk X.prog X.w H' h')(hg:AllBare g')
  (hch:∀ b∈ch,(b∈X.ex\/X.s₀.heap.objs.size<=b)/\b≠X.env.locals/\(∀ x c,X.env.cells.lookup x=some c->c≠b)/\∀ p∈X.pn++pins,p.1≠b) :
  Inv X pins σ H' { s with heap:=h',gens:=g',drawn:=d',toks:=t' }:=by
 obtain ⟨m,⟨o,es,ep,ho,r⟩,_⟩:=id I.loc;obtain ⟨sl,hL⟩:=u.any ho I.free fun z=>(hch _ z).2.1 rfl
 exact I.step (ch:=ch) hch (fun b o hL hb hc e n=>u.keep b o e n (fun z=>(qhA.mp (I.stkSub b z)).elim hL hb) hc) (fun b o _ _ hc e n=>u.any e n hc) (fun b o hc e n=>u.free b o e n hc) (fun b o hc e=>u.there b o e hc) u.tups u.frzs u.tbls (fun m' hm=>by
  obtain ⟨o',es',ep',ho',r'⟩:=hm;rw [ho] at ho';cases ho'
  exact ⟨_,es',ep',hL,r'⟩) hok hg
theorem Inv.turned {t':Nat}{it:Addr}(I:Inv X pins σ H s)(k:∀ b o,b≠it->s.heap.get? b=some o->h'.get? b=some o)(hn:H it=none)(hL:it≠X.env.locals)
  (h1:it∈X.ex\/X.s₀.heap.objs.size<=it) (h2:∀ x c,X.env.cells.lookup x=some c->c≠it) (h3:∀ p∈X.pn++pins,p.1≠it):Inv X pins σ H { s with heap:=h',toks:=t' }:=by
 have nit:∀ b u,H b=some u->b≠it:=fun b u e z=>by rw [z,hn] at e;cases e
 refine I.step (g':=s.gens) (d':=s.drawn) (ch:=[it]) (fun b hb=>?_) (fun b o _ _ hc e _=>k b o (fun z=>hc (by simp [z])) e) (fun b o _ _ hc e _=>⟨o.slots,k b o (fun z=>hc (by simp [z])) e⟩) (fun _ _ _ _ n=>n)
  (fun b o hc e=>⟨o,k b o (fun z=>hc (by simp [z])) e⟩) (fun _ _ e=>e) (fun _ _ _ e=>e) (fun b ps e=>⟨#[],by rw [e];simp⟩) (fun m hm=>?_) (fun b u e=>?_) I.bare
 ·have e:b=it:=by simpa using hb
  subst e;exact ⟨h1,hL,h2,h3⟩
 ·obtain ⟨o,es,ep,ho,r⟩:=hm;exact ⟨o,es,ep,k _ o (Ne.symm hL) ho,r⟩
 ·refine (I.hok b u e).stay (fun c v hc q=>k c v ?_ q) (fun _ q=>q) fun _ _ q=>q;rcases hc with z|z
  ·rw [z];exact nit b u e
  ·exact nit c _ z
theorem Inv.tok (I:Inv X pins σ H s)(t:Nat):Inv X pins σ H { s with toks:=t }:=I.un (h':=s.heap) (t':=t) Un.refl I.hok
theorem Inv.kept {t':Nat}(I:Inv X pins σ H s)(k:∀ b u,s.heap.get? b=some u->h'.get? b=some u):Inv X pins σ H { s with heap:=h',toks:=t' }:=I.un (Un.kept k) (I.hok.kept k)
theorem Inv.laid {a:Addr}{o:HO}{t':Nat}(I:Inv X pins σ H s)(k:∀ b u,s.heap.get? b=some u->h'.get? b=some u)(hp:s.heap.objs.size<=a)(new:ObjOk X.prog X.w (upd H a o) h' a o) :
  Inv X pins σ (upd H a o) { s with heap:=h',toks:=t' }:=I.un (Un.laid k hp (I.hok.fresh hp)) (I.hok.laid k hp new)
theorem Inv.write {x e:Addr}{o:HO}{t':Nat}(I:Inv X pins σ H s)(mu:Mut (H x))(he:e=x\/H e=some (.own x))(k:∀ b u,b≠e->s.heap.get? b=some u->h'.get? b=some u)(heo:∃ u,h'.get? e=some u)
  (new:ObjOk X.prog X.w (upd H x o) h' x o):Inv X pins σ (upd H x o) { s with heap:=h',toks:=t' }:=I.un (Un.write mu he k heo) (I.hok.write mu he k heo new)
theorem Inv.weak {σ':List (Option V)}(I:Inv X pins σ H s)(hl:σ'.length=σ.length)(w:∀ (i:Nat) v,σ'[i]? = some (some v)->σ[i]? = some (some v)):Inv X pins σ' H s :=
 ⟨I.ok,I.os,I.bare,I.base,let ⟨m,hn,hl'⟩:=I.loc;⟨m,hn,fun i x v e1 e2 e3=>hl' i x v e1 (w i v e2) e3⟩,I.cell,I.free,I.freeC,I.pin,I.hok,hl.trans I.len⟩
theorem Inv.pins_of {pins':List (Addr × Obj)}(I:Inv X pins σ H s)(h:∀ p∈pins',s.heap.get? p.1=some p.2/\H p.1=none/\p.1≠X.env.locals/\p.1 ∉ X.fs/\∀ v,p.2.data ≠ .cell v):Inv X pins' σ H s :=
 ⟨I.ok,I.os,I.bare,I.base,I.loc,I.cell,I.free,I.freeC,fun p hp=>(List.mem_append.mp hp).elim (fun z=>I.pin p (List.mem_append_left _ z)) (h p),I.hok,I.len⟩
theorem GH {N:List Str}(hN:N.Nodup){i j:Nat}{x:Str}(a:N[i]? = some x)(b:N[j]? = some x):i=j:=by
 obtain ⟨h1,e1⟩:=qpA.mp a;obtain ⟨h2,e2⟩:=qpA.mp b;exact (List.getElem_inj hN).mp (e1.trans e2.symm)
theorem F6 {M:Model}{A:Around}{E:Value->Shared->Prop}{i:Nat}{x:Str}{v:V}{u:Value}{Q:Unit->Shared->Prop}(I:Inv X pins σ H s)(hN:X.N.Nodup)(hi:X.N[i]? = some x)(hx:Loc X.env.scope x)(r:RelV v u)
  (h:∀ s',Inv X pins (σ.set i (some v)) H s'->(∃ a,Heap.SameBut a s.heap s'.heap/\(a=X.env.locals\/X.env.cells.lookup x=some a))->Q () s') (hf:X.fn x=true\/X.env.scope.names.lookup x=some .local := by first|exact .inl rfl|exact .inr rfl|assumption):wpAny M A (storeName X.env x u) Q E s:=by
 obtain ⟨m,hn,hl⟩:=id I.loc;have hcls:(X.env.scope.kind == .class || (X.env.scope.kind == .module && X.env.locals != X.env.globals))=false:=by rw [I.ok.kind];rfl
 have hiσ:i<σ.length:=by rw [I.len];exact (qpA.mp hi).1
 have cne:=I.cne
 have tracked:∀ {a:Addr}{h':Heap},(∃ o,s.heap.get? a=some o/\H a=none)->Heap.SameBut a s.heap h'->HOk X.prog X.w H h':=fun {a h'} ha hs b ob e=>by
  obtain ⟨_,_,hfree⟩:=ha;refine (I.hok b ob e).stay (fun c w' hc q=>(hs.2 c ?_).trans q) (fun _ q=>q) fun _ _ q=>q;rintro rfl;rcases hc with rfl|hc
  ·rw [hfree] at e;cases e
  ·rw [hfree] at hc;cases hc
 rcases hx with hk|hk
 ·refine wpAny_storeName_local hk hn (fun h' hn' hs=>?_) hcls;obtain ⟨oL,_,_,hoL,_⟩:=id hn;refine h _ ⟨I.ok,I.os,I.bare,⟨fun b o e n hb hx=>?_,fun b o e n hb hx=>?_,I.base.free,fun b o e hx=>?_,I.base.tups,I.base.frzs,I.base.tbls⟩,⟨_,hn',fun j y v' e1 e2 e3=>?_⟩,fun y c e=>?_,I.free,I.freeC,fun p hp=>?_,tracked ⟨oL,hoL,I.free⟩ hs,by simpa using I.len⟩ ⟨_,hs,.inl rfl⟩
  ·exact (hs.2 b (qpB (qqB (qzA e) I.ok.above))).trans (I.base.keep b o e n hb hx)
  ·obtain ⟨sl,e1⟩:=I.base.slot b o e n hb hx;exact ⟨sl,(hs.2 b (qpB (qqB (qzA e) I.ok.above))).trans e1⟩
  ·obtain ⟨o',e1⟩:=I.base.there b o e hx;exact ⟨o',(hs.2 b (qpB (qqB (qzA e) I.ok.above))).trans e1⟩
  ·by_cases hj:j=i
   ·subst hj;rw [hi] at e1;cases e1;rw [List.getElem?_set_self hiσ] at e2;cases e2;exact ⟨u,r,.inl ⟨hk,by simp⟩⟩
   ·rw [List.getElem?_set_ne (Ne.symm hj)] at e2;obtain ⟨u',r',q⟩:=hl j y v' e1 e2 e3;refine ⟨u',r',?_⟩;rcases q with ⟨k,e⟩ | ⟨k,c,e,z⟩
    ·refine .inl ⟨k,?_⟩;have:y≠x:=fun e=>hj (GH hN e1 (e ▸ hi));simp [this,e]
    ·exact .inr ⟨k,c,e,z.sameBut hs (cne y c e)⟩
  ·obtain ⟨w',z⟩:=I.cell y c e;exact ⟨w',z.sameBut hs (cne y c e)⟩
  ·obtain ⟨e,n,ne,nf,d⟩:=I.pin p hp;exact ⟨(hs.2 p.1 ne).trans e,n,ne,nf,d⟩
 ·have hfn:X.fn x=true:=by
   rcases hf with z|z
   ·exact z
   ·rw [z] at hk;cases hk
  obtain ⟨c,hc⟩:=I.ok.has x (.inl hk);obtain ⟨w',z⟩:=I.cell x c hc;refine wpAny_storeName_cell I.ok.kind hk hc z (fun h' hc' hs=>?_);obtain ⟨oc,hoc,hocd⟩:=id z;refine h { s with heap:=h' } ⟨I.ok,I.os,I.bare,⟨fun b o e n hb hx=>?_,fun b o e n hb hx=>?_,I.base.free,fun b o e hx=>?_,I.base.tups,I.base.frzs,I.base.tbls⟩,⟨m,hn.sameBut hs (Ne.symm (cne x c hc)),fun j y v' e1 e2 e3=>?_⟩,fun y c' e=>?_,I.free,I.freeC,fun p hp=>?_,tracked ⟨oc,hoc,I.freeC x c hc⟩ hs,by simpa using I.len⟩ ⟨c,hs,.inr hc⟩
  ·exact (hs.2 b (qpB (qqB (qzA e) (I.ok.cab x c hfn hc)))).trans (I.base.keep b o e n hb hx)
  ·obtain ⟨sl,e1⟩:=I.base.slot b o e n hb hx;exact ⟨sl,(hs.2 b (qpB (qqB (qzA e) (I.ok.cab x c hfn hc)))).trans e1⟩
  ·obtain ⟨o',e1⟩:=I.base.there b o e hx;exact ⟨o',(hs.2 b (qpB (qqB (qzA e) (I.ok.cab x c hfn hc)))).trans e1⟩
  ·by_cases hj:j=i
   ·subst hj;rw [hi] at e1;cases e1;rw [List.getElem?_set_self hiσ] at e2;cases e2;exact ⟨u,r,.inr ⟨.inl hk,c,hc,hc'⟩⟩
   ·rw [List.getElem?_set_ne (Ne.symm hj)] at e2;obtain ⟨u',r',q⟩:=hl j y v' e1 e2 e3;refine ⟨u',r',?_⟩;rcases q with q | ⟨k,c',e,z'⟩
    ·exact .inl q
    ·refine .inr ⟨k,c',e,z'.sameBut hs ?_⟩;rintro rfl;exact hj (GH hN e1 (I.ok.inj _ _ _ e hc ▸ hi))
  ·by_cases hcc:c'=c
   ·subst hcc;exact ⟨_,hc'⟩
   ·obtain ⟨w2,z2⟩:=I.cell y c' e;exact ⟨w2,z2.sameBut hs hcc⟩
  ·obtain ⟨e,n,ne,nf,d⟩:=I.pin p hp;refine ⟨(hs.2 p.1 ?_).trans e,n,ne,nf,d⟩;intro q;rw [q,hoc] at e;have q':oc=p.2:=qyA e;exact d w' (by rw [<- q'];exact hocd)
theorem Dk {M:Model}{A:Around}{E:Value->Shared->Prop}{i:Nat}{x:Str}{v:V}{u:Value}{Q:Unit->Shared->Prop}(I:Inv X pins σ H s)(hN:X.N.Nodup)(hi:X.N[i]? = some x)(hx:Loc X.env.scope x)(r:RelV v u)
  (h:∀ s',Inv X pins (σ.set i (some v)) H s'->Q () s') (hf:X.fn x=true\/X.env.scope.names.lookup x=some .local := by first|exact .inl rfl|exact .inr rfl|assumption):wpAny M A (storeName X.env x u) Q E s :=
 F6 I hN hi hx r (fun s' I' _=>h s' I') hf
theorem Inv.call' {s':Shared}{ch:List Addr}(I:Inv X pins σ H s)(ho:s'.os=s.os)(u:Un (frs X.stack) ch H H' s.heap s'.heap)(hok:HOk X.prog X.w H' s'.heap)(hg:AllBare s'.gens)
  (hch:∀ b∈ch,(b∈X.ex\/X.s₀.heap.objs.size<=b)/\b≠X.env.locals/\(∀ x c,X.env.cells.lookup x=some c->c≠b)/\∀ p∈X.pn++pins,p.1≠b):Inv X pins σ H' s':=by
 obtain ⟨h',g',d',t',o'⟩:=s';have e:o'=s.os:=ho;subst e;exact I.call (g':=g') (t':=t') (d':=d') u hok hg hch
end
abbrev XK:=Value->Option Addr->Hp->Prop
abbrev St:=List (Option V)
abbrev VK:=V->Hp->Prop
abbrev TE:=St->Hp->VK->Prop
abbrev TT:=St->Hp->(Bool->Hp->Prop)->Prop
abbrev TA:=St->Hp->(List V->Hp->Prop)->Prop
structure Ends where
 nx:St->Hp->Prop
 rt:VK
 bk:St->Hp->Prop:=fun _ _=>False
 ct:St->Hp->Prop:=fun _ _=>False
abbrev TS:=Ends->St->Hp->Prop
def EP (X:Cx)(pins:List (Addr × Obj))(σ:St)(Q:VK)(u:Value)(s':Shared):Prop:=∃ v H',Inv X pins σ H' s'/\RelV v u/\Q v H'
def TP (X:Cx)(pins:List (Addr × Obj))(σ:St)(Q:Bool->Hp->Prop)(b:Bool)(s':Shared):Prop:=∃ H',Inv X pins σ H' s'/\Q b H'
def AP (X:Cx)(pins:List (Addr × Obj))(σ:St)(Q:List V->Hp->Prop)(us:List Value)(s':Shared):Prop:=∃ vs H',Inv X pins σ H' s'/\Vals vs us/\Q vs H'
def SP (X:Cx)(pins:List (Addr × Obj))(D:Ends)(f:Flow)(s':Shared):Prop :=
 match f with
 | .next=>∃ σ' H',Inv X pins σ' H' s'/\D.nx σ' H'
 | .brk=>∃ σ' H',Inv X pins σ' H' s'/\D.bk σ' H'
 | .cont=>∃ σ' H',Inv X pins σ' H' s'/\D.ct σ' H'
 | .ret u=>∃ v σ' H',Inv X pins σ' H' s'/\RelV v u/\D.rt v H'
def PE (X:Cx)(e:Expr)(t:TE):Prop :=
 ∀ (pins:List (Addr × Obj)) (s:Shared) (σ:St) (H:Hp) (Q:VK),Inv X pins σ H s->t σ H Q->wpAny (model X.prog X.w) X.A (eval e X.env) (EP X pins σ Q) X.xe s
def PT (X:Cx)(e:Expr)(t:TT):Prop :=
 ∀ (pins:List (Addr × Obj)) (s:Shared) (σ:St) (H:Hp) (Q:Bool->Hp->Prop),Inv X pins σ H s->t σ H Q->wpAny (model X.prog X.w) X.A (isTrue e X.env (eval e X.env)) (TP X pins σ Q) X.xe s
def PW (X:Cx)(e:Expr)(t:TT):Prop :=
 ∀ (whole:Sem Value) (pins:List (Addr × Obj)) (s:Shared) (σ:St) (H:Hp) (Q:Bool->Hp->Prop),Inv X pins σ H s->t σ H Q->wpAny (model X.prog X.w) X.A (isTrue e X.env whole) (TP X pins σ Q) X.xe s
theorem PW.pt {X:Cx}{e:Expr}{t:TT}(h:PW X e t):PT X e t:=h _
def PA (X:Cx)(es:List Expr)(t:TA):Prop :=
 ∀ (pos:Pos) (pins:List (Addr × Obj)) (s:Shared) (σ:St) (H:Hp) (Q:List V->Hp->Prop),Inv X pins σ H s->t σ H Q->wpAny (model X.prog X.w) X.A (spliced (backTo pos (starEach es X.env))) (AP X pins σ Q) X.xe s
def PS (X:Cx)(st:Stmt)(t:TS):Prop :=
 ∀ (pins:List (Addr × Obj)) (s:Shared) (σ:St) (H:Hp) (D:Ends),Inv X pins σ H s->t D σ H->wpAny (model X.prog X.w) X.A (exec st X.env) (SP X pins D) X.xe s
def PSs (X:Cx)(st:List Stmt)(t:TS):Prop :=
 ∀ (pins:List (Addr × Obj)) (s:Shared) (σ:St) (H:Hp) (D:Ends),Inv X pins σ H s->t D σ H->wpAny (model X.prog X.w) X.A (execs st X.env) (SP X pins D) X.xe s
theorem thn {α:Type}{t:Sem α}{Q Q':α->Shared->Prop}{M:Model}{A:Around}{E:Value->Shared->Prop}{s:Shared}(h:wpAny M A t Q E s)(hQ:∀ a s,Q a s->Q' a s):wpAny M A t Q' E s:=wpAny_mono h hQ fun _ _ x=>x
section
variable {X:Cx}
abbrev GG (i:Nat):TE:=fun σ H Q=>∃ v,σ[i]? = some (some v)/\Q v H
abbrev tC (v:V):TE:=fun _ H Q=>Q v H
theorem pe_var {i:Nat}{x:Str}{pos:Pos}(hN:X.N[i]? = some x)(hv:Vis X.env.scope x)(hd:(x == ("__debug__" : Str))=false:=by decide)(hcd:(x == ("__classdict__" : Str))=false:=by decide):PE X (.Name x pos) (GG i):=by
 intro pins s σ H Q I h;obtain ⟨v,e,h⟩:=h;obtain ⟨m,hn,hl⟩:=I.loc;obtain ⟨u,r,l⟩:=hl i x v hN e hv;have fin:EP X pins σ Q u s:=⟨v,H,I,r,h⟩;rcases l with ⟨hk,hm⟩ | ⟨hk,c,hc,hcell⟩
 ·exact wpAny_Name (wpAny_loadName_local I.ok.kind hk hn hm fin) hd
 ·rcases hk with hk|hk
  ·exact wpAny_Name (wpAny_loadName_cell I.ok.kind hk hc hcell fin) hd
  ·exact wpAny_Name (wpAny_loadName_free I.ok.kind hk hc hcell fin hcd) hd
theorem A8 {i j pos}:PE X (.Constant (.int i) j pos) (tC (.int i)):=fun _ _ _ H _ I h=>wpAny_Constant_int ⟨.int i,H,I.tok _,⟨_,rfl⟩,h⟩
theorem C3 {b j pos}:PE X (.Constant (.bool b) j pos) (tC (.bl b)):=fun _ _ _ H _ I h=>Constant_bool ⟨.bl b,H,I,rfl,h⟩
theorem D6 {j pos}:PE X (.Constant .none j pos) (tC .non):=fun _ _ _ H _ I h=>Constant_none ⟨.non,H,I,rfl,h⟩
theorem AQ {x j pos}:PE X (.Constant (.str x) j pos) (tC (.str x)):=fun _ _ _ H _ I h=>Calls.Constant_str ⟨.str x,H,I.tok _,⟨_,rfl⟩,h⟩
def Gl (X:Cx)(x:Str):Prop:=X.env.kindOf x=some .globalImplicit
theorem Dx {E:Value->Shared->Prop}{pins:List (Addr × Obj)}{s:Shared}{σ:St}{H:Hp}{x:Str}{u:Value}{pos:Pos}{Q:Value->Shared->Prop}(I:Inv X pins σ H s)(hg:Gl X x)(hm:X.mg x=some u)(h:Q u s)
  (hd:(x == ("__debug__" : Str))=false:=by decide):wpAny (model X.prog X.w) X.A (eval (.Name x pos) X.env) Q E s :=
 Calls.Name_function_global I.ok.kind hg (Calls.loadGlobal_global (by rw [I.ok.glob];exact I.mod.glob.keeps I.bk) hm h) hd
theorem Ht {E:Value->Shared->Prop}{pins:List (Addr × Obj)}{s:Shared}{σ:St}{H:Hp}{x:Str}{u:Value}{pos:Pos}{Q:Value->Shared->Prop}(I:Inv X pins σ H s)(hg:Gl X x)(hm:X.mg x=none)(hv:bootBuiltins x=some u)(h:Q u s)
  (hn:x ≠ "__name__" := by decide) (hd:(x == ("__debug__" : Str))=false:=by decide):wpAny (model X.prog X.w) X.A (eval (.Name x pos) X.env) Q E s:=by
 obtain ⟨mb,h1,h2⟩:=I.mod.blt;exact Calls.Name_function_global I.ok.kind hg (Calls.loadGlobal_builtin (by rw [I.ok.glob];exact I.mod.glob.keeps I.bk) hm (by rw [I.ok.blt];exact h1.keeps I.bk) ((h2 x hn).trans hv) h) hd
theorem CS {x:Str}{v:V}{u:Value}{pos:Pos}(hg:Gl X x)(hm:X.mg x=some u)(r:RelV v u)(hd:(x == ("__debug__" : Str))=false:=by decide):PE X (.Name x pos) (tC v) :=
 fun _ _ _ H _ I h=>Dx I hg hm ⟨v,H,I,r,h⟩ hd
theorem Bc {x:Str}{v:V}{u:Value}{pos:Pos}(hg:Gl X x)(hm:X.mg x=none)(hv:bootBuiltins x=some u)(r:RelV v u)(hn:x ≠ "__name__" := by decide)(hd:(x == ("__debug__" : Str))=false:=by decide):PE X (.Name x pos) (tC v) :=
 fun _ _ _ H _ I h=>Ht I hg hm hv ⟨v,H,I,r,h⟩ hn hd
variable {a b:Expr}{ta tb:TE}{pos:Pos}
variable {tA tB':TT}{rest:List Expr}
abbrev tAnd (t u:TT):TT:=fun σ H Q=>t σ H fun c H1=>if c=true then u σ H1 Q else Q false H1
abbrev tOr (t u:TT):TT:=fun σ H Q=>t σ H fun c H1=>if c=true then Q true H1 else u σ H1 Q
abbrev tNot (t:TT):TT:=fun σ H Q=>t σ H fun c H1=>Q (!c) H1
theorem Ju (ha:PT X a tA):PW X (.BoolOp .And [a] pos) tA:=by
 intro wh pins s σ H Q I h;refine isTrue_and (thn (ha pins s σ H Q I h) fun c s1 e=>?_)
 cases c with
 | true=>exact isTrue_and_nil e
 | false=>exact e
theorem Cc (ha:PT X a tA):PW X (.BoolOp .Or [a] pos) tA:=by
 intro wh pins s σ H Q I h;refine isTrue_or (thn (ha pins s σ H Q I h) fun c s1 e=>?_)
 cases c with
 | false=>exact isTrue_or_nil e
 | true=>exact e
theorem pw_and (ha:PT X a tA)(hb:PW X (.BoolOp .And (b::rest) pos) tB'):PW X (.BoolOp .And (a::b::rest) pos) (tAnd tA tB'):=by
 intro wh pins s σ H Q I h;refine isTrue_and (thn (ha pins s σ H _ I h) fun c s1 ⟨H1,I1,q1⟩=>?_)
 cases c with
 | true=>exact hb wh pins s1 σ H1 Q I1 q1
 | false=>exact ⟨H1,I1,q1⟩
theorem CM (ha:PT X a tA)(hb:PW X (.BoolOp .Or (b::rest) pos) tB'):PW X (.BoolOp .Or (a::b::rest) pos) (tOr tA tB'):=by
 intro wh pins s σ H Q I h;refine isTrue_or (thn (ha pins s σ H _ I h) fun c s1 ⟨H1,I1,q1⟩=>?_)
 cases c with
 | true=>exact ⟨H1,I1,q1⟩
 | false=>exact hb wh pins s1 σ H1 Q I1 q1
theorem Bp (ha:PT X a tA):PT X (.UnaryOp .Not a pos) (tNot tA):=by
 intro pins s σ H Q I h;exact isTrue_not (ha pins s σ H (fun c H1=>Q (!c) H1) I h)
abbrev tAndV (ta tb:TE):TE:=fun σ H Q=>ta σ H fun x H1=>∃ c,x = .bl c/\if c=true then tb σ H1 Q else Q (.bl false) H1
theorem pe_one {op}{t:TE}(h:PE X a t):PE X (.BoolOp op [a] pos) t:=fun pins s σ H Q I hw=>BoolOp_one (h pins s σ H Q I hw)
theorem JI (ha:PE X a ta)(hb:PE X (.BoolOp .And (b::rest) pos) tb):PE X (.BoolOp .And (a::b::rest) pos) (tAndV ta tb):=by
 intro pins s σ H Q I h;refine BoolOp_and (thn (ha pins s σ H _ I h) fun v s1 ⟨x,H1,I1,r1,q1⟩=>?_);obtain ⟨c,rfl,q1⟩:=q1;cases r1;refine wpAny_truthy_bool ?_
 cases c with
 | true=>exact hb pins s1 σ H1 Q I1 q1
 | false=>exact ⟨.bl false,H1,I1,rfl,q1⟩
def tIf (t:TT)(ta tb:TE):TE:=fun σ H Q=>t σ H fun c H1=>if c=true then ta σ H1 Q else tb σ H1 Q
theorem Ia {c:Expr}(hc:PT X c tA)(ha:PE X a ta)(hb:PE X b tb):PE X (.IfExp c a b pos) (tIf tA ta tb):=by
 intro pins s σ H Q I h;refine wpAny_IfExp (thn (hc pins s σ H _ I h) fun d s1 ⟨H1,I1,q1⟩=>?_)
 cases d with
 | true=>exact ha pins s1 σ H1 Q I1 q1
 | false=>exact hb pins s1 σ H1 Q I1 q1
end
def SqL (K:FZ9)(H:Hp)(a:Addr)(xs:List V):Prop :=
 Rd H a (.lst xs) \/
  ∃ (o:Obj) (its:Array Value) (n:Nat),K.lookup a=some o/\o.cls = .type "list" /\ o.dict=none/\o.data = .seq its n/\its.size<=sizeLine/\Vals xs its.toList
def SqT (K:FZ9)(H:Hp)(a:Addr)(xs:List V):Prop :=
 Rd H a (.tup xs) \/
  ∃ (o:Obj) (its:Array Value) (n:Nat),K.lookup a=some o/\o.cls = .type "tuple" /\ o.data = .seq its n/\its.size<=sizeLine/\Vals xs its.toList
def absV:Value->Option V
 | .none=>some .non
 | .bool b=>some (.bl b)
 | .int i _=>some (.int i)
 | .str x _=>some (.str x)
 | .bytes b _=>some (.byt b)
 | .float b _=>some (.flt b)
 | .ref a=>some (.ref a)
 | .type n=>some (.ty n)
 | _=>none
theorem RelV.abs {x:V}{u:Value}(r:RelV x u):absV u=some x:=by
 cases x with
 | non=>cases r;rfl
 | bl _=>cases r;rfl
 | int _=>obtain ⟨t,rfl⟩:=r;rfl
 | str _=>obtain ⟨t,rfl⟩:=r;rfl
 | byt _=>obtain ⟨t,rfl⟩:=r;rfl
 | flt _=>obtain ⟨t,rfl⟩:=r;rfl
 | ref _=>cases r;rfl
 | ty _=>cases r;rfl
theorem RelV.inj {x y:V}{u:Value}(r:RelV x u)(q:RelV y u):x=y:=qyA (r.abs.symm.trans q.abs)
theorem Vals.inj:∀ {xs ys:List V}{us:List Value},Vals xs us->Vals ys us->xs=ys
 | _,_,_,.nil,.nil=>rfl
 | _,_,_,.cons r t,.cons r' t'=>by rw [r.inj r',Vals.inj t t']
section
variable {X:Cx}{pins:List (Addr × Obj)}{σ:St}{H:Hp}{s:Shared}{a:Addr}{xs ys:List V}
theorem SqL.of {K:FZ9}(h:H a=some (.lst xs)):SqL K H a xs:=.inl (.inl h)
theorem SqT.of {K:FZ9}(h:H a=some (.tup xs)):SqT K H a xs:=.inl (.inl h)
theorem Inv.list (I:Inv X pins σ H s)(h:SqL X.K H a xs):∃ its:List Value,Vals xs its/\PlainL s.heap a its.toArray/\xs.length<=sizeLine:=by
 rcases h with h | ⟨o,its,n,hk,hc,hd,hs,hz,r⟩
 ·obtain ⟨z,its,n,r,e⟩:=h.ok I.hok;exact ⟨its,r,⟨_,n,e,rfl,rfl,rfl⟩,z⟩
 ·refine ⟨its.toList,r,⟨o,n,I.kIn a o hk,hc,hd,by simpa using hs⟩,?_⟩;have e:=r.length;simp only [qoB] at e;omega
theorem Inv.tuple (I:Inv X pins σ H s)(h:SqT X.K H a xs):∃ its:List Value,Vals xs its/\IsTup s.heap a its.toArray/\xs.length<=sizeLine:=by
 rcases h with h | ⟨o,its,n,hk,hc,hs,hz,r⟩
 ·obtain ⟨z,its,r,p⟩:=h.ok I.hok;exact ⟨its,r,p,z⟩
 ·refine ⟨its.toList,r,⟨o,I.kIn a o hk,hc,n,by simpa using hs⟩,?_⟩;have e:=r.length;simp only [qoB] at e;omega
theorem Inv.list_inj (I:Inv X pins σ H s)(h:SqL X.K H a xs)(h':SqL X.K H a ys):xs=ys:=by
 obtain ⟨its,r,⟨o,n,e,_,_,d⟩,_⟩:=I.list h;obtain ⟨its',r',⟨o',n',e',_,_,d'⟩,_⟩:=I.list h';rw [e] at e';cases e';rw [d] at d';injection d' with d1 _
 have:its=its':=by simpa using congrArg Array.toList d1
 subst this;exact r.inj r'
theorem Inv.tuple_inj (I:Inv X pins σ H s)(h:SqT X.K H a xs)(h':SqT X.K H a ys):xs=ys:=by
 obtain ⟨its,r,⟨o,e,_,n,d⟩,_⟩:=I.tuple h;obtain ⟨its',r',⟨o',e',_,n',d'⟩,_⟩:=I.tuple h';rw [e] at e';cases e';rw [d] at d';injection d' with d1 _
 have:its=its':=by simpa using congrArg Array.toList d1
 subst this;exact r.inj r'
end
abbrev Cx.wish (X:Cx)(E:Value->Shared->Prop):Cx:={ X with xe:=E }
abbrev Cx.nox (X:Cx):Cx:=X.wish fun _ _=>False
theorem Cx.Ok.wish {X:Cx}(ok:X.Ok)(E:Value->Shared->Prop):(X.wish E).Ok :=
 ⟨ok.mod,ok.kind,ok.glob,ok.blt,ok.above,ok.inj,ok.has,ok.cab,ok.hd,ok.frames,ok.stk,ok.exf,ok.bs,ok.bsz,ok.noex,ok.exfs,ok.funs,ok.frf⟩
theorem Cx.Ok.unwish {X:Cx}{E:Value->Shared->Prop}(ok:(X.wish E).Ok):X.Ok :=
 ⟨ok.mod,ok.kind,ok.glob,ok.blt,ok.above,ok.inj,ok.has,ok.cab,ok.hd,ok.frames,ok.stk,ok.exf,ok.bs,ok.bsz,ok.noex,ok.exfs,ok.funs,ok.frf⟩
section
variable {X:Cx}{pins:List (Addr × Obj)}{σ:St}{H:Hp}{s:Shared}{E:Value->Shared->Prop}
theorem Inv.wish (I:Inv X pins σ H s)(E:Value->Shared->Prop):Inv (X.wish E) pins σ H s:=⟨I.ok.wish E,I.os,I.bare,I.base,I.loc,I.cell,I.free,I.freeC,I.pin,I.hok,I.len⟩
theorem Inv.unwish (I:Inv (X.wish E) pins σ H s):Inv X pins σ H s:=⟨I.ok.unwish,I.os,I.bare,I.base,I.loc,I.cell,I.free,I.freeC,I.pin,I.hok,I.len⟩
theorem SP.unwish {D:Ends}{f:Flow}{s':Shared}(h:SP (X.wish E) pins D f s'):SP X pins D f s':=by
 cases f with
 | next=>obtain ⟨σ',H',I,q⟩:=h;exact ⟨σ',H',I.unwish,q⟩
 | brk=>obtain ⟨σ',H',I,q⟩:=h;exact ⟨σ',H',I.unwish,q⟩
 | cont=>obtain ⟨σ',H',I,q⟩:=h;exact ⟨σ',H',I.unwish,q⟩
 | ret u=>obtain ⟨v,σ',H',I,r,q⟩:=h;exact ⟨v,σ',H',I.unwish,r,q⟩
theorem PSs.nox {st:List Stmt}{t:TS}(h:PSs X.nox st t):PSs X st t:=fun pins s σ H D I hw =>
 wpAny_mono (h pins s σ H D (I.wish _) hw) (fun _ _ q=>q.unwish) fun _ _ z=>False.elim z
end
section
variable {X:Cx}{st:Stmt}{rest:List Stmt}{t u:TS}{e:Expr}{te:TE}{pos:Pos}
abbrev BV:TS:=fun D σ H=>D.nx σ H
abbrev DA (t u:TS):TS:=fun D σ H=>t { D with nx:=u D } σ H
theorem A4:PSs X [] BV:=fun _ _ σ H _ I h=>wpAny_execs_nil ⟨σ,H,I,h⟩
theorem A3 (h1:PS X st t)(h2:PSs X rest u):PSs X (st::rest) (DA t u):=by
 intro pins s σ H D I h;refine wpAny_execs_cons (thn (h1 pins s σ H { D with nx:=u D } I h) fun f s1 q=>?_)
 cases f with
 | next =>
  obtain ⟨σ',H',I',q⟩:=q;exact h2 pins s1 σ' H' D I' q
 | ret v=>exact q
 | brk=>exact q
 | cont=>exact q
theorem Inv.quiet {pins:List (Addr × Obj)}{σ:St}{H:Hp}{s:Shared}(I:Inv X pins σ H s):interactive X.env=false:=by simp [interactive,I.ok.kind]
abbrev GS (te:TE):TS:=fun D σ H=>te σ H fun _ H1=>D.nx σ H1
theorem DQ (he:PE X e te)(hs:swapsWith e none pos.line X.env=pure false:=by rfl):PS X (.Expr e pos) (GS te):=by
 intro pins s σ H D I h;exact wpAny_Expr_any (thn (he pins s σ H _ I h) fun v s1 ⟨x,H1,I1,r1,q1⟩=>⟨σ,H1,I1,q1⟩) I.quiet hs
abbrev tRet (te:TE):TS:=fun D σ H=>te σ H D.rt
theorem AO (he:PE X e te):PS X (.Return (some e) pos) (tRet te):=by
 intro pins s σ H D I h;exact wpAny_Return_some (thn (he pins s σ H _ I h) fun v s1 ⟨x,H1,I1,r1,q1⟩=>⟨x,σ,H1,I1,r1,q1⟩)
abbrev Gd (c:TT)(t u:TS):TS:=fun D σ H=>c σ H fun b H1=>if b=true then t D σ H1 else u D σ H1
theorem Ap {c:Expr}{a b:List Stmt}{tc:TT}(hc:PT X c tc)(ha:PSs X a t)(hb:PSs X b u):PS X (.If c a b pos) (Gd tc t u):=by
 intro pins s σ H D I h;refine wpAny_If (thn (hc pins s σ H _ I h) fun d s1 ⟨H1,I1,q1⟩=>?_)
 cases d with
 | true=>exact ha pins s1 σ H1 D I1 q1
 | false=>exact hb pins s1 σ H1 D I1 q1
end
abbrev TG:=V->St->Hp->(St->Hp->Prop)->Prop
def PG (X:Cx)(target:Expr)(t:TG):Prop :=
 ∀ (pins:List (Addr × Obj)) (s:Shared) (σ:St) (H:Hp) (v:V) (u:Value) (Q:St->Hp->Prop),Inv X pins σ H s->RelV v u->t v σ H Q ->
  wpAny (model X.prog X.w) X.A (assign target X.env u) (fun _ s'=>∃ σ' H',Inv X pins σ' H' s'/\Q σ' H') X.xe s
section
variable {X:Cx}{pos:Pos}
abbrev Cp (i:Nat):TG:=fun v σ H Q=>Q (σ.set i (some v)) H
theorem pg_name {i:Nat}{x:Str}(hN:X.N.Nodup)(hi:X.N[i]? = some x)(hx:Loc X.env.scope x)(hf:X.fn x=true\/X.env.scope.names.lookup x=some .local := by first|exact .inl rfl|exact .inr rfl|assumption):PG X (.Name x pos) (Cp i):=by
 intro pins s σ H v u Q I r h;exact wpAny_assign_Name (Dk I hN hi hx r (fun s' I'=>⟨_,H,I',h⟩) hf)
abbrev Hd (te:TE)(g:TG):TS:=fun D σ H=>te σ H fun x H1=>g x σ H1 D.nx
theorem HP {i:Nat}{x:Str}{e:Expr}{te:TE}{pos':Pos}(hN:X.N.Nodup)(hi:X.N[i]? = some x)(hx:Loc X.env.scope x)(he:PE X e te)(hs:swapsWith e (some (.Name x pos')) pos.line X.env=pure false:=by rfl)(hf:X.fn x=true\/X.env.scope.names.lookup x=some .local := by first|exact .inl rfl|exact .inr rfl|assumption) :
  PS X (.Assign [.Name x pos'] e pos) (Hd te (Cp i)):=by
 intro pins s σ H D I h;refine wpAny_Assign_Name (thn (he pins s σ H _ I h) fun v s1 ⟨y,H1,I1,r1,q1⟩=>?_) hs;exact Dk I1 hN hi hx r1 (fun s2 I2=>⟨_,H1,I2,q1⟩) hf
end
structure It where
 go:Nat->Hp->Prop
 yld:Nat->Hp->V->Hp->Prop
 stop:Nat->Hp->Prop
def ED (X:Cx)(pins:List (Addr × Obj))(H:Hp)(b:Addr):Prop :=
 H b=none/\b≠X.env.locals/\b ∉ X.fs/\(b∈X.ex\/X.s₀.heap.objs.size<=b)/\(∀ x c,X.env.cells.lookup x=some c->c≠b)/\∀ p∈X.pn++pins,p.1≠b
theorem Inv.fpOk {X:Cx}{pins:List (Addr × Obj)}{σ:St}{H H':Hp}{s:Shared}{b:Addr}(I:Inv X pins σ H s)(hb:s.heap.objs.size<=b)(hn:H' b=none):ED X pins H' b:=by
 refine ⟨hn,Nat.ne_of_gt (qqB I.lt hb),I.nofs hb,.inr (qwA I.sz hb),fun x c e z=>?_,fun p hp z=>?_⟩
 ·obtain ⟨v,q⟩:=I.cell x c e;exact absurd (qqB q.lt (by rw [z];exact hb)) (qxA _)
 ·exact absurd (qqB (qzA (I.pin p hp).1) (by rw [z];exact hb)) (qxA _)
structure Turn (P:Program)(w:World)(K:FZ9)(tg:Expr)(J:It)(fp:List Addr)(it:Addr)(tn:Nat->Heap->Prop):Prop where
 mem:it∈fp
 obj:∀ i h,tn i h->∀ b∈fp,∃ o,h.get? b=some o/\∀ v,o.data ≠ .cell v
 keep:∀ i h h',tn i h->(∀ b∈fp,∀ o,h.get? b=some o->h'.get? b=some o)->tn i h'
 item:∀ (X:Cx),X.prog=P->X.w=w->X.K=K->X.calm=true->∀ (i:Nat) (pins:List (Addr × Obj)) (s:Shared) (σ:St) (H:Hp) (E:Value->Shared->Prop),Inv X pins σ H s->(∀ b∈fp,ED X pins H b)->tn i s.heap->J.go i H ->
  wpAny (model P w) X.A (pyNext (.ref it)) (fun r s1=>∃ u,r=some u /\
   wpAny (model P w) X.A (letOwnedTupleGo tg (.ref it) u) (fun _ s2=>∃ x H',Inv X pins σ H' s2/\RelV x u/\J.yld i H x H'/\tn (i+1) s2.heap/\∀ b∈fp,H' b=none) E s1) E s
 done:∀ (X:Cx),X.prog=P->X.w=w->X.K=K->X.calm=true->∀ (i:Nat) (pins:List (Addr × Obj)) (s:Shared) (σ:St) (H:Hp) (E:Value->Shared->Prop),Inv X pins σ H s->(∀ b∈fp,ED X pins H b)->tn i s.heap->J.stop i H ->
  wpAny (model P w) X.A (pyNext (.ref it)) (fun r s1=>r=none/\Inv X pins σ H s1) E s
 self:∀ (A:Around) (i:Nat) (s:Shared) (Q:Value->Shared->Prop) (E:Value->Shared->Prop),tn i s.heap->Q (.ref it) s->wpAny (model P w) A (pyIter (.ref it)) Q E s
abbrev TI:=St->Hp->(It->Hp->Prop)->Prop
def PIE (X:Cx)(pins:List (Addr × Obj))(σ:St)(tg:Expr)(R:It->Hp->Prop)(itv:Value)(s2:Shared):Prop :=
 ∃ (it:Addr) (fp:List Addr) (tn:Nat->Heap->Prop) (J:It) (H':Hp),itv = .ref it/\Inv X pins σ H' s2/\Turn X.prog X.w X.K tg J fp it tn/\tn 0 s2.heap/\(∀ b∈fp,ED X pins H' b)/\R J H'
def PI (X:Cx)(tg iter:Expr)(wi:TI):Prop :=
 ∀ (pins:List (Addr × Obj)) (s:Shared) (σ:St) (H:Hp) (R:It->Hp->Prop),Inv X pins σ H s->wi σ H R ->
  wpAny (model X.prog X.w) X.A (eval iter X.env) (fun v s1=>wpAny (model X.prog X.w) X.A (pyIter v) (PIE X pins σ tg R) X.xe s1) X.xe s
theorem IG {M:Model}{A:Around}{E:Value->Shared->Prop}{s:Shared}{tg:Expr}{it:Addr}{u:Value}{o:Obj}{n:String}{vs:Array Value}{Q:Unit->Shared->Prop}(ho:s.heap.get? it=some o)(hc:o.cls = .type n)(hd:o.data = .fields vs)
  (hn:["enumerate","zip","dict_itemiterator","dict_reverseitemiterator","odict_iterator","itertools.zip_longest","itertools.pairwise"].contains n=false) (hQ:Q () s):wpAny M A (letOwnedTupleGo tg (.ref it) u) Q E s:=by
 unfold letOwnedTupleGo
 cases tg<;>first
  | exact qcA hQ
  | (cases u<;>first
    | exact qcA hQ
    | (refine qbA (wpAny_load ho ?_)
       rw [hc,hd];show wpAny M A (if (["enumerate","zip","dict_itemiterator","dict_reverseitemiterator","odict_iterator","itertools.zip_longest","itertools.pairwise"].contains n && vs[0]? == some (rawInt _))=true then _ else _) Q E s;rw [if_neg (by intro h;rw [hn,Bool.false_and] at h;cases h)]
       exact qcA hQ))
def Itl (K:FZ9)(a:Addr):It :=
 ⟨fun i H=>∃ xs x,SqL K H a xs/\xs[i]? = some x,fun i H x H'=>H'=H/\∀ xs,SqL K H a xs->xs[i]? = some x,fun i H=>∃ xs,SqL K H a xs/\xs.length<=i⟩
def Itt (K:FZ9)(a:Addr):It :=
 ⟨fun i H=>∃ xs x,SqT K H a xs/\xs[i]? = some x,fun i H x H'=>H'=H/\∀ xs,SqT K H a xs->xs[i]? = some x,fun i H=>∃ xs,SqT K H a xs/\xs.length<=i⟩
def Itr (lo:Int)(n:Nat):It:=⟨fun i _=>i<n,fun i H x H'=>H'=H/\x = .int (lo+i),fun i _=>n<=i⟩
theorem KC {P:Program}{w:World}{K:FZ9}{tg:Expr}(a it:Addr):Turn P w K tg (Itl K a) [it] it (fun i h=>h.IsListIter it a i) where
 mem:=by simp
 obj:=fun i h st b hb=>by
  have e:b=it:=by simpa using hb
  subst e;obtain ⟨o,e,c,d⟩:=st;exact ⟨o,e,fun v z=>by rw [d] at z;cases z⟩
 keep:=fun i h h' st k=>st.at fun o e=>k it (by simp) o e
 item:=by
  intro X hP hw hK hc i pins s σ H E I hf st hg;subst hP hw hK;obtain ⟨xs,x,hq,hx⟩:=hg;obtain ⟨its,rv,p,hz⟩:=I.list hq;obtain ⟨u,hu,ru⟩:=rv.get hx;obtain ⟨f0,f1,f2,f3,f4,f5⟩:=hf it (by simp);refine wpAny_pyNext_list_item st p.isList (x:=u) (by simpa using hu) fun h' st' sb=>?_;have I1:Inv X pins σ H { s with heap:=h' }:=I.turned (t':=s.toks) (fun b o hb e=>(sb.2 b hb).trans e) f0 f1 f3 f4 f5;obtain ⟨o,e,c,d⟩:=id st';exact ⟨u,rfl,IG (s:={ s with heap:=h' }) e c d (by decide) ⟨x,H,I1,ru,⟨rfl,fun ys hy=>by rw [I.list_inj hy hq];exact hx⟩,st',fun b hb=>(hf b hb).1⟩⟩
 done:=by
  intro X hP hw hK hc i pins s σ H E I hf st hg;subst hP hw hK;obtain ⟨xs,hq,hx⟩:=hg;obtain ⟨its,rv,p,hz⟩:=I.list hq;obtain ⟨f0,f1,f2,f3,f4,f5⟩:=hf it (by simp);have hl:=rv.length;exact wpAny_pyNext_list_end (I.ok.hd hc) st p.isList (by simp;omega) fun h' eb=>⟨rfl,I.turned (t':=s.toks) (fun b o hb e=>eb b o hb e) f0 f1 f3 f4 f5⟩
 self:=fun _ _ _ _ _ st h=>wpAny_pyIter_listiter st h
theorem Io {P:Program}{w:World}{K:FZ9}{tg:Expr}(a it:Addr):Turn P w K tg (Itt K a) [it] it (fun i h=>h.IsTupleIter it a i) where
 mem:=by simp
 obj:=fun i h st b hb=>by
  have e:b=it:=by simpa using hb
  subst e;obtain ⟨o,e,c,d⟩:=st;exact ⟨o,e,fun v z=>by rw [d] at z;cases z⟩
 keep:=fun i h h' st k=>st.at fun o e=>k it (by simp) o e
 item:=by
  intro X hP hw hK hc i pins s σ H E I hf st hg;subst hP hw hK;obtain ⟨xs,x,hq,hx⟩:=hg;obtain ⟨its,rv,p,hz⟩:=I.tuple hq;obtain ⟨u,hu,ru⟩:=rv.get hx;obtain ⟨f0,f1,f2,f3,f4,f5⟩:=hf it (by simp);refine wpAny_pyNext_tuple_item st (show s.heap.IsTuple a its.toArray from p) (x:=u) (by simpa using hu) fun h' st' sb=>?_;have I1:Inv X pins σ H { s with heap:=h' }:=I.turned (t':=s.toks) (fun b o hb e=>(sb.2 b hb).trans e) f0 f1 f3 f4 f5;obtain ⟨o,e,c,d⟩:=id st';exact ⟨u,rfl,IG (s:={ s with heap:=h' }) e c d (by decide) ⟨x,H,I1,ru,⟨rfl,fun ys hy=>by rw [I.tuple_inj hy hq];exact hx⟩,st',fun b hb=>(hf b hb).1⟩⟩
 done:=by
  intro X hP hw hK hc i pins s σ H E I hf st hg;subst hP hw hK;obtain ⟨xs,hq,hx⟩:=hg;obtain ⟨its,rv,p,hz⟩:=I.tuple hq;obtain ⟨f0,f1,f2,f3,f4,f5⟩:=hf it (by simp);have hl:=rv.length;exact wpAny_pyNext_tuple_end (I.ok.hd hc) st (show s.heap.IsTuple a its.toArray from p) (by simp;omega) fun h' eb=>⟨rfl,I.turned (t':=s.toks) (fun b o hb e=>eb b o hb e) f0 f1 f3 f4 f5⟩
 self:=fun _ _ _ _ _ st h=>wpAny_pyIter_tupleiter st h
theorem JD {P:Program}{w:World}{K:FZ9}{tg:Expr}(it:Addr)(lo:Int)(n:Nat):Turn P w K tg (Itr lo n) [it] it (fun i h=>IsRangeIter h it (lo+(i:Nat) * 1) ((n:Int) - (i:Nat)) 1) where
 mem:=by simp
 obj:=fun i h st b hb=>by
  have e:b=it:=by simpa using hb
  subst e
  exact ⟨_,st,fun v z=>by
   have z':Data.fields _=Data.cell v:=z
   cases z'⟩
 keep:=fun i h h' st k=>k it (by simp) _ st
 item:=by
  intro X hP hw hK hc i pins s σ H E I hf st hg;subst hP hw hK;obtain ⟨f0,f1,f2,f3,f4,f5⟩:=hf it (by simp);have W:=Walks.range (prog:=X.prog) (w:=X.w) (I.ok.hd hc) it lo 1 n;refine W.item i s _ _ hg st fun v h' tk hv st' kk=>?_;obtain ⟨t,rfl⟩:=hv;have I1:Inv X pins σ H { s with heap:=h',toks:=tk }:=I.turned (fun b o hb e=>kk b o (by simpa using hb) e) f0 f1 f3 f4 f5;refine ⟨_,rfl,IG (s:={ s with heap:=h',toks:=tk }) (n := "range_iterator") st' rfl rfl (by decide) ⟨.int (lo+i),H,I1,⟨t,?_⟩,⟨rfl,rfl⟩,st',fun b hb=>(hf b hb).1⟩⟩;rw [Int.mul_one]
 done:=by
  intro X hP hw hK hc i pins s σ H E I hf st hg;subst hP hw hK;obtain ⟨f0,f1,f2,f3,f4,f5⟩:=hf it (by simp);exact wpAny_pyNext_range_end (I.ok.hd hc) st (by have:n<=i:=hg;omega) fun h' eb=>⟨rfl,I.turned (t':=s.toks) (fun b o hb e=>eb b o hb e) f0 f1 f3 f4 f5⟩
 self:=fun _ _ _ _ _ st h=>wpAny_pyIter_rangeiter st h
section
variable {X:Cx}{tg:Expr}
theorem range_it {pins:List (Addr × Obj)}{σ:St}{H:Hp}{s:Shared}{R:It->Hp->Prop}{E:Value->Shared->Prop}{lo hi:Int}{t u v:Tok}{tk:Nat}(I:Inv X pins σ H s)(h1:-(2 ^ 62)<=lo)(h2:lo<2 ^ 62)(h3:-(2 ^ 62)<=hi)(h4:hi<2 ^ 62)
  (q:R (Itr lo (hi - lo).toNat) H):wpAny (model X.prog X.w) X.A (pyIter (.ref s.heap.objs.size)) (PIE X pins σ tg R) E { s with heap:=s.heap.push { cls:=.type "range",data:=.fields #[.int lo t,.int hi u,.int 1 v] },toks:=tk }:=by
 refine wpAny_pyIter_range (IsRange.new ..) (small_one h1 h2 h3 h4) ?_;have I1:Inv X pins σ H { s with heap:=s.heap.push { cls:=.type "range",data:=.fields #[.int lo t,.int hi u,.int 1 v] },toks:=tk }:=I.kept fun b o e=>qaB _ e
 refine ⟨(s.heap.push { cls:=.type "range",data:=.fields #[.int lo t,.int hi u,.int 1 v] }).objs.size,[(s.heap.push { cls:=.type "range",data:=.fields #[.int lo t,.int hi u,.int 1 v] }).objs.size],_,_,H,rfl,
  I1.kept (t':=tk) fun b o e=>qaB _ e,JD _ lo (hi - lo).toNat,?_,fun b hb=>?_,q⟩
 ·have e1:lo+((0:Nat):Int) * 1=lo:=by simp
  have e2:(((hi - lo).toNat:Nat):Int) - ((0:Nat):Int)=Builtin.Range.rangeSize lo hi 1:=by rw [rangeSize_one];split<;>omega
  show IsRangeIter _ _ (lo+((0:Nat):Int) * 1) ((((hi - lo).toNat:Nat):Int) - ((0:Nat):Int)) 1;rw [e1,e2];exact qbB _ rfl
 ·have e:b=(s.heap.push { cls:=.type "range",data:=.fields #[.int lo t,.int hi u,.int 1 v] }).objs.size:=by simpa using hb
  subst e;exact I1.fpOk (qvA _) (I1.hok.fresh (qvA _))
def iRng1 (ta:TA):TI:=fun σ H R=>ta σ H fun vs H1=>∃ j:Int,vs=[.int j]/\-(2 ^ 62)<=j/\j<2 ^ 62/\R (Itr 0 j.toNat) H1
theorem CZ {a:Expr}{ta:TA}{p pos:Pos}(hg:Gl X "range")(hm:X.mg "range" = none)(ha:PA X [a] ta)(hs:starEach [a] X.env=[(false,eval a X.env)]:=by rfl):PI X tg (.Call (.Name "range" p) [a] [] pos) (iRng1 ta):=by
 intro pins s σ H R I h;refine Call_ (Ht I hg hm boot_range (PyProof.Rows.callWith_type1 (thn (ha pos pins s σ H _ I h) fun us s1 ⟨vs,H1,I1,r1,q1⟩=>?_) hs rfl));obtain ⟨j,e,q1,q2,q⟩:=q1;subst e
 cases r1 with
 | cons r rr =>
  cases rr;obtain ⟨t,rfl⟩:=r;exact call_range_1 (range_it I1 (by omega) (by omega) q1 q2 (by simpa using q))
def tFor (wi:TI)(g:TG)(tb:TS):TS:=fun D σ H=>wi σ H fun J H1=>∃ W:Nat->Nat->St->Hp->Prop,(∃ m,W 0 m σ H1)/\∀ i m σ H,W i m σ H ->
 (J.stop i H/\D.nx σ H)\/(J.go i H/\∃ N:St->Hp->Prop,(∀ σ' H',N σ' H'->∃ m',m'<m/\W (i+1) m' σ' H')/\∀ x H',J.yld i H x H'->g x σ H' fun σ2 H2=>tb { D with nx:=N,ct:=N,bk:=D.nx } σ2 H2)
def Ew (fp:List Addr)(h:Heap):List (Addr × Obj):=fp.filterMap fun b=>(h.get? b).map fun o=>(b,o)
theorem C8 {fp:List Addr}{h:Heap}{b:Addr}{o:Obj}(hb:b∈fp)(e:h.get? b=some o):(b,o)∈Ew fp h:=List.mem_filterMap.mpr ⟨b,hb,by rw [e];rfl⟩
theorem KY {fp:List Addr}{h:Heap}{p:Addr × Obj}(hp:p∈Ew fp h):p.1∈fp/\h.get? p.1=some p.2:=by
 obtain ⟨b,hb,e⟩:=List.mem_filterMap.mp hp
 cases q:h.get? b with
 | none=>rw [q] at e;cases e
 | some o =>
  rw [q] at e;have e':(b,o)=p:=qyA e;subst e';exact ⟨hb,q⟩
theorem Inv.pinned {pins:List (Addr × Obj)}{σ:St}{H:Hp}{s:Shared}{fp:List Addr}(I:Inv X pins σ H s)(hf:∀ b∈fp,ED X pins H b)(ho:∀ b∈fp,∃ o,s.heap.get? b=some o/\∀ v,o.data ≠ .cell v):Inv X (pins++Ew fp s.heap) σ H s :=
 I.pins_of fun p hp=>(List.mem_append.mp hp).elim (fun z=>I.pin p (qrB _ z)) fun z=>by
  obtain ⟨hb,e⟩:=KY z;obtain ⟨f0,f1,f2,_⟩:=hf p.1 hb;obtain ⟨o,e',d⟩:=ho p.1 hb;rw [e] at e';cases e';exact ⟨e,f0,f1,f2,d⟩
theorem Inv.unpinned {pins pl:List (Addr × Obj)}{σ:St}{H:Hp}{s:Shared}(I:Inv X (pins++pl) σ H s):Inv X pins σ H s:=I.pins_of fun p hp=>I.pin p (qrB _ (List.mem_append_left _ hp))
theorem FG {iter:Expr}{body:List Stmt}{wi:TI}{g:TG}{tb:TS}{pos:Pos}(hp:PassesOwn (model X.prog X.w) X.A X.env X.xe)(hc:X.calm=true)(hi:PI X tg iter wi)(hg:PG X tg g)(hb:PSs X body tb)
  (hs:∀ x,foldedSetIterable iter X.env x=pure x:=by intro _;rfl):PS X (.For tg iter body [] pos) (tFor wi g tb):=by
 intro pins s σ H D I h;refine wpAny_For (thn (hi pins s σ H _ I h) fun v s1 h1=>thn h1 fun itv s2 h2=>?_) hs;obtain ⟨it,fp,tn,J,H2,e,I2,T,st2,f2,W,⟨m0,w0⟩,turn⟩:=h2;subst e;have stat:∀ {H':Hp},(∀ b∈fp,H' b=none)->∀ b∈fp,ED X pins H' b:=fun hn b hb=>⟨hn b hb,(f2 b hb).2⟩;refine codeAny_forLoop_any (fun n s'=>∃ i σ' H',Inv X pins σ' H' s'/\tn i s'.heap/\(∀ b∈fp,H' b=none)/\W i n σ' H') ?_ m0 ⟨0,σ,H2,I2,st2,fun b hb=>(f2 b hb).1,w0⟩;rintro n s3 ⟨i,σ3,H3,I3,st3,fr3,w3⟩;rcases turn i n σ3 H3 w3 with ⟨stop,qn⟩ | ⟨go,N,hN,step⟩
 ·refine wpAny_passesOwn hp (thn (T.done X rfl rfl rfl hc i pins s3 σ3 H3 X.xe I3 (stat fr3) st3 stop) fun r s4 ⟨hr,I4⟩=>?_);subst hr;exact wpAny_execs_nil ⟨σ3,H3,I4,qn⟩
 ·refine wpAny_passesOwn hp (thn (T.item X rfl rfl rfl hc i pins s3 σ3 H3 X.xe I3 (stat fr3) st3 go) fun r s4 ⟨u,hr,h4⟩=>?_);subst hr;refine wpAny_passesOwn hp (thn h4 fun _ s5 ⟨x,H5,I5,r5,y5,st5,fr5⟩=>?_);have I5':=I5.pinned (stat fr5) (T.obj _ _ st5);refine wpAny_passesOwn hp (thn (hg _ s5 σ3 H5 x u _ I5' r5 (step x H5 y5)) fun _ s6 ⟨σ6,H6,I6,q6⟩=>?_);refine wpAny_passesOwn hp (thn (hb _ s6 σ6 H6 _ I6 q6) fun f s7 q7=>?_)
  have again:∀ {σ7:St}{H7:Hp},Inv X (pins++Ew fp s5.heap) σ7 H7 s7->N σ7 H7->∃ m,m<n/\∃ i σ' H',Inv X pins σ' H' s7/\tn i s7.heap/\(∀ b∈fp,H' b=none)/\W i m σ' H':=fun {σ7 H7} I7 n7=>by
   obtain ⟨m',hm,w7⟩:=hN σ7 H7 n7;refine ⟨m',hm,i+1,σ7,H7,I7.unpinned,T.keep _ _ _ st5 fun b hb o e=>(I7.pin (b,o) (qrB _ (qrB _ (C8 hb e)))).1,fun b hb=>?_,w7⟩;obtain ⟨o,e,d⟩:=T.obj _ _ st5 b hb;exact (I7.pin (b,o) (qrB _ (qrB _ (C8 hb e)))).2.1
  cases f with
  | next=>obtain ⟨σ7,H7,I7,n7⟩:=q7;exact again I7 n7
  | cont=>obtain ⟨σ7,H7,I7,n7⟩:=q7;exact again I7 n7
  | brk=>obtain ⟨σ7,H7,I7,q7⟩:=q7;exact ⟨σ7,H7,I7.unpinned,q7⟩
  | ret v=>obtain ⟨x7,σ7,H7,I7,r7,q7⟩:=q7;exact ⟨x7,σ7,H7,I7.unpinned,r7,q7⟩
end
abbrev R2:=V->V->Hp->VK->Prop
def OpR (X:Cx)(f:Value->Value->Sem Value)(r:R2):Prop :=
 ∀ (pins:List (Addr × Obj)) (s:Shared) (σ:St) (H:Hp) (x y:V) (v u:Value) (Q:VK),Inv X pins σ H s->RelV x v->RelV y u->r x y H Q ->
  wpAny (model X.prog X.w) X.A (f v u) (EP X pins σ Q) X.xe s
def UnR (X:Cx)(f:Value->Sem Value)(r:V->Hp->VK->Prop):Prop :=
 ∀ (pins:List (Addr × Obj)) (s:Shared) (σ:St) (H:Hp) (x:V) (v:Value) (Q:VK),Inv X pins σ H s->RelV x v->r x H Q ->
  wpAny (model X.prog X.w) X.A (f v) (EP X pins σ Q) X.xe s
def Cn (X:Cx)(f:Value)(r:List V->Hp->VK->Prop):Prop :=
 ∀ (pins:List (Addr × Obj)) (s:Shared) (σ:St) (H:Hp) (xs:List V) (us:List Value) (Q:VK),Inv X pins σ H s->Vals xs us->r xs H Q ->
  wpAny (model X.prog X.w) X.A (call f us) (EP X pins σ Q) X.xe s
def TruR (X:Cx)(r:V->Hp->(Bool->Hp->Prop)->Prop):Prop :=
 ∀ (pins:List (Addr × Obj)) (s:Shared) (σ:St) (H:Hp) (x:V) (v:Value) (Q:Bool->Hp->Prop),Inv X pins σ H s->RelV x v->r x H Q ->
  wpAny (model X.prog X.w) X.A (truthy v) (TP X pins σ Q) X.xe s
abbrev tOp (r:R2)(ta tb:TE):TE:=fun σ H Q=>ta σ H fun x H1=>tb σ H1 fun y H2=>r x y H2 Q
abbrev tUn (r:V->Hp->VK->Prop)(ta:TE):TE:=fun σ H Q=>ta σ H fun x H1=>r x H1 Q
def rI (C:Int->Int->Prop)(g:Int->Int->V):R2:=fun x y H Q=>∃ i j,x = .int i/\y = .int j/\C i j/\Q (g i j) H
def rI0 (g:Int->Int->V):R2:=fun x y H Q=>∃ i j,x = .int i/\y = .int j/\Q (g i j) H
def rU (g:Int->V):V->Hp->VK->Prop:=fun x H Q=>∃ i,x = .int i/\Q (g i) H
section
variable {X:Cx}{a b c:Expr}{ta tb tc:TE}{pos:Pos}
theorem binT (ha:PE X a ta)(hb:PE X b tb){pins:List (Addr × Obj)}{s:Shared}{σ:St}{H:Hp}{R:V->V->Hp->Prop}(I:Inv X pins σ H s)
  (h:ta σ H fun x H1=>tb σ H1 fun y H2=>R x y H2) {Q:Value->Shared->Prop}{f:Value->Value->Sem Value}
  (hf:∀ v u s2 x y H2,Inv X pins σ H2 s2->RelV x v->RelV y u->R x y H2->wpAny (model X.prog X.w) X.A (f v u) Q X.xe s2) :
  wpAny (model X.prog X.w) X.A (eval a X.env) (fun v s₁=>wpAny (model X.prog X.w) X.A (eval b X.env) (fun u s₂=>wpAny (model X.prog X.w) X.A (f v u) Q X.xe s₂) X.xe s₁) X.xe s:=by
 refine thn (ha pins s σ H _ I h) fun v s1 ⟨x,H1,I1,r1,q1⟩=>?_;refine thn (hb pins s1 σ H1 _ I1 q1) fun u s2 ⟨y,H2,I2,r2,q2⟩=>?_;exact hf v u s2 x y H2 I2 r1 r2 q2
theorem Af {op:Operator}{r:R2}(ho:OpR X (binaryOp op) r)(ha:PE X a ta)(hb:PE X b tb):PE X (.BinOp a op b pos) (tOp r ta tb):=by
 intro pins s σ H Q I h;exact wpAny_BinOp (binT ha hb I h fun v u s2 x y H2 I2 rx ry q=>ho pins s2 σ H2 x y v u Q I2 rx ry q)
theorem pe_un {op:UnaryOp}{r:V->Hp->VK->Prop}(ho:UnR X (unaryOp op) r)(ha:PE X a ta):PE X (.UnaryOp op a pos) (tUn r ta):=by
 intro pins s σ H Q I h;exact UnaryOp_ (thn (ha pins s σ H _ I h) fun v s1 ⟨x,H1,I1,r1,q1⟩=>ho pins s1 σ H1 x v Q I1 r1 q1)
theorem opI {f:Value->Value->Sem Value}{C:Int->Int->Prop}{g:Int->Int->Int}
  (rule:∀ (i j:Int) (t u:Tok) (s:Shared) (Q:Value->Shared->Prop) (E:Value->Shared->Prop),C i j->Q (.int (g i j) s.toks) { s with toks:=s.toks+1 }->wpAny (model X.prog X.w) X.A (f (.int i t) (.int j u)) Q E s) :
  OpR X f (rI C fun i j=>.int (g i j)):=by
 intro pins s σ H x y v u Q I rx ry h;obtain ⟨i,j,rfl,rfl,hc,q⟩:=h;obtain ⟨t,rfl⟩:=rx;obtain ⟨t',rfl⟩:=ry;exact rule i j t t' s _ _ hc ⟨.int (g i j),H,I.tok _,⟨_,rfl⟩,q⟩
theorem opI0 {f:Value->Value->Sem Value}{g:Int->Int->Int}
  (rule:∀ (i j:Int) (t u:Tok) (s:Shared) (Q:Value->Shared->Prop) (E:Value->Shared->Prop),Q (.int (g i j) s.toks) { s with toks:=s.toks+1 }->wpAny (model X.prog X.w) X.A (f (.int i t) (.int j u)) Q E s) :
  OpR X f (rI0 fun i j=>.int (g i j)):=by
 intro pins s σ H x y v u Q I rx ry h;obtain ⟨i,j,rfl,rfl,q⟩:=h;obtain ⟨t,rfl⟩:=rx;obtain ⟨t',rfl⟩:=ry;exact rule i j t t' s _ _ ⟨.int (g i j),H,I.tok _,⟨_,rfl⟩,q⟩
theorem opB0 {f:Value->Value->Sem Value}{g:Int->Int->Bool}
  (rule:∀ (i j:Int) (t u:Tok) (s:Shared) (Q:Value->Shared->Prop) (E:Value->Shared->Prop),Q (.bool (g i j)) s->wpAny (model X.prog X.w) X.A (f (.int i t) (.int j u)) Q E s) :
  OpR X f (rI0 fun i j=>.bl (g i j)):=by
 intro pins s σ H x y v u Q I rx ry h;obtain ⟨i,j,rfl,rfl,q⟩:=h;obtain ⟨t,rfl⟩:=rx;obtain ⟨t',rfl⟩:=ry;exact rule i j t t' s _ _ ⟨.bl (g i j),H,I,rfl,q⟩
def Iv (i j:Int):Prop:=0<j/\j<1073741824
def CMul (i j:Int):Prop:=(-(2 ^ 64)<i/\i<2 ^ 64)\/(-(2 ^ 64)<j/\j<2 ^ 64)
theorem CMul.ok {i j:Int}(h:CMul i j):IntMulOk i j:=by
 rcases h with ⟨h1,h2⟩ | ⟨h1,h2⟩
 ·exact .of_left (intBits_le_64 h1 h2)
 ·exact .of_right (intBits_le_64 h1 h2)
theorem op_add:OpR X (binaryOp .Add) (rI0 fun i j=>.int (i+j)):=opI0 fun _ _ _ _ _ _ _ q=>add_int q
theorem op_sub:OpR X (binaryOp .Sub) (rI0 fun i j=>.int (i - j)):=opI0 fun _ _ _ _ _ _ _ q=>sub_int q
theorem op_mul:OpR X (binaryOp .Mult) (rI CMul fun i j=>.int (i * j)):=opI fun _ _ _ _ _ _ _ hc q=>mul_int q hc.ok
theorem CU:OpR X (binaryOp .FloorDiv) (rI Iv fun i j=>.int (i / j)):=opI fun i j _ _ _ _ _ hc q=>by
 have h1:(0:Int)<j:=hc.1;have h2:j<1073741824:=hc.2;exact floordiv_int (by omega) (by rw [Int.fdiv_eq_ediv_of_nonneg i (by omega)];exact q) (.inl (PyProof.noPylong_small (by omega)))
theorem B4:OpR X (binaryOp .Mod) (rI (fun _ j=>0<j) fun i j=>.int (i % j)):=opI fun i j _ _ _ _ _ hc q=>by
 have h1:(0:Int)<j:=hc;exact mod_int' (by omega) (by rw [Int.fmod_eq_emod_of_nonneg i (by omega)];exact q)
theorem unI {f:Value->Sem Value}{g:Int->Int}
  (rule:∀ (i:Int) (t:Tok) (s:Shared) (Q:Value->Shared->Prop) (E:Value->Shared->Prop),Q (.int (g i) s.toks) { s with toks:=s.toks+1 }->wpAny (model X.prog X.w) X.A (f (.int i t)) Q E s) :
  UnR X f (rU fun i=>.int (g i)):=by
 intro pins s σ H x v Q I rx h;obtain ⟨i,rfl,q⟩:=h;obtain ⟨t,rfl⟩:=rx;exact rule i t s _ _ ⟨.int (g i),H,I.tok _,⟨_,rfl⟩,q⟩
theorem un_neg:UnR X (unaryOp .USub) (rU fun i=>.int (-i)):=unI fun _ _ _ _ _ q=>neg_int q
end
def scal:V->V->Bool
 | .non,.non=>true | .non,.int _=>true | .int _,.non=>true | .non,.bl _=>true | .bl _,.non=>true | .non,.str _=>true | .str _,.non=>true
 | .int _,.int _=>true | .bl _,.bl _=>true | .str _,.str _=>true | .byt _,.byt _=>true
 | .int _,.str _=>true | .str _,.int _=>true | .bl _,.str _=>true | .str _,.bl _=>true
 | _,_=>false
def rEq:R2:=fun x y H Q=>scal x y=true/\Q (.bl (decide (x=y))) H
def rNe:R2:=fun x y H Q=>scal x y=true/\Q (.bl (!decide (x=y))) H
theorem JP {i j:Int}:decide (V.int i=V.int j)=(i == j):=by
 rw [Bool.eq_iff_iff];simp
theorem dec_bl {i j:Bool}:decide (V.bl i=V.bl j)=(i == j):=by
 rw [Bool.eq_iff_iff];simp
theorem JM {i j:Str}:decide (V.str i=V.str j)=(i == j):=by
 rw [Bool.eq_iff_iff];simp
theorem JL {i j:Array UInt8}:decide (V.byt i=V.byt j)=(i.toList == j.toList):=by
 rw [Bool.eq_iff_iff];cases i;cases j;simp
section
variable {X:Cx}{a b c:Expr}{ta tb tc:TE}{pos:Pos}
theorem Ac {pins:List (Addr × Obj)}{σ:St}{H:Hp}{s:Shared}{Q:VK}{k k':Bool}(I:Inv X pins σ H s)(q:Q (.bl k) H)(e:k=k'):EP X pins σ Q (.bool k') s:=by
 subst e;exact ⟨.bl k,H,I,rfl,q⟩
theorem CN:OpR X (compareOp .Eq) rEq:=by
 intro pins s σ H x y v u Q I rx ry h;obtain ⟨hs,q⟩:=h
 cases x with
 | non =>
  cases rx
  cases y with
  | non=>cases ry;exact PySem.EqNone.eq_none_none (Ac I q (by simp))
  | bl j=>cases ry;exact PySem.EqNone.eq_none_bool (Ac I q (by simp))
  | int j=>obtain ⟨t',rfl⟩:=ry;exact PySem.EqNone.eq_none_int (Ac I q (by simp))
  | str j=>obtain ⟨t',rfl⟩:=ry;exact PySem.EqNone.eq_none_str (Ac I q (by simp))
  | _=>exact absurd (show false=true from hs) qhB
 | bl i =>
  cases rx
  cases y with
  | non=>cases ry;exact PySem.EqNone.eq_bool_none (Ac I q (by simp))
  | bl j=>cases ry;exact eq_bool (Ac I q dec_bl)
  | str j=>obtain ⟨t',rfl⟩:=ry;exact PySem.EqMixed.eq_bool_str (Ac I q (by simp))
  | _=>exact absurd (show false=true from hs) qhB
 | int i =>
  obtain ⟨t,rfl⟩:=rx
  cases y with
  | non=>cases ry;exact PySem.EqNone.eq_int_none (Ac I q (by simp))
  | int j=>obtain ⟨t',rfl⟩:=ry;exact eq_int (Ac I q JP)
  | str j=>obtain ⟨t',rfl⟩:=ry;exact PySem.EqMixed.eq_int_str (Ac I q (by simp))
  | _=>exact absurd (show false=true from hs) qhB
 | str i =>
  obtain ⟨t,rfl⟩:=rx
  cases y with
  | non=>cases ry;exact PySem.EqNone.eq_str_none (Ac I q (by simp))
  | bl j=>cases ry;exact PySem.EqMixed.eq_str_bool (Ac I q (by simp))
  | int j=>obtain ⟨t',rfl⟩:=ry;exact PySem.EqMixed.eq_str_int (Ac I q (by simp))
  | str j=>obtain ⟨t',rfl⟩:=ry;exact eq_str (Ac I q JM)
  | _=>exact absurd (show false=true from hs) qhB
 | byt i =>
  obtain ⟨t,rfl⟩:=rx
  cases y with
  | byt j=>obtain ⟨t',rfl⟩:=ry;exact PySem.W.eq_bytes (Ac I q JL)
  | _=>exact absurd (show false=true from hs) qhB
 | _=>cases y<;>exact absurd (show false=true from hs) qhB
theorem Gh:OpR X (compareOp .NotEq) rNe:=by
 intro pins s σ H x y v u Q I rx ry h;obtain ⟨hs,q⟩:=h
 cases x with
 | non =>
  cases rx
  cases y with
  | non=>cases ry;exact PySem.EqNone.ne_none_none (Ac I q (by simp))
  | bl j=>cases ry;exact PySem.EqNone.ne_none_bool (Ac I q (by simp))
  | int j=>obtain ⟨t',rfl⟩:=ry;exact PySem.EqNone.ne_none_int (Ac I q (by simp))
  | str j=>obtain ⟨t',rfl⟩:=ry;exact PySem.EqNone.ne_none_str (Ac I q (by simp))
  | _=>exact absurd (show false=true from hs) qhB
 | bl i =>
  cases rx
  cases y with
  | non=>cases ry;exact PySem.EqNone.ne_bool_none (Ac I q (by simp))
  | bl j=>cases ry;exact ne_bool (Ac I q (congrArg not dec_bl))
  | str j=>obtain ⟨t',rfl⟩:=ry;exact PySem.EqMixed.ne_bool_str (Ac I q (by simp))
  | _=>exact absurd (show false=true from hs) qhB
 | int i =>
  obtain ⟨t,rfl⟩:=rx
  cases y with
  | non=>cases ry;exact PySem.EqNone.ne_int_none (Ac I q (by simp))
  | int j=>obtain ⟨t',rfl⟩:=ry;exact ne_int (Ac I q (congrArg not JP))
  | str j=>obtain ⟨t',rfl⟩:=ry;exact PySem.EqMixed.ne_int_str (Ac I q (by simp))
  | _=>exact absurd (show false=true from hs) qhB
 | str i =>
  obtain ⟨t,rfl⟩:=rx
  cases y with
  | non=>cases ry;exact PySem.EqNone.ne_str_none (Ac I q (by simp))
  | bl j=>cases ry;exact PySem.EqMixed.ne_str_bool (Ac I q (by simp))
  | int j=>obtain ⟨t',rfl⟩:=ry;exact PySem.EqMixed.ne_str_int (Ac I q (by simp))
  | str j=>obtain ⟨t',rfl⟩:=ry;exact ne_str (Ac I q (congrArg not JM))
  | _=>exact absurd (show false=true from hs) qhB
 | byt i =>
  obtain ⟨t,rfl⟩:=rx
  cases y with
  | byt j=>obtain ⟨t',rfl⟩:=ry;exact PySem.W.ne_bytes (Ac I q (congrArg not JL))
  | _=>exact absurd (show false=true from hs) qhB
 | _=>cases y<;>exact absurd (show false=true from hs) qhB
theorem op_lt:OpR X (compareOp .Lt) (rI0 fun i j=>.bl (decide (i<j))):=opB0 fun _ _ _ _ _ _ _ q=>lt_int q
theorem op_le:OpR X (compareOp .LtE) (rI0 fun i j=>.bl (decide (i<=j))):=opB0 fun _ _ _ _ _ _ _ q=>le_int q
theorem op_gt:OpR X (compareOp .Gt) (rI0 fun i j=>.bl (decide (j<i))):=opB0 fun _ _ _ _ _ _ _ q=>gt_int q
theorem op_ge:OpR X (compareOp .GtE) (rI0 fun i j=>.bl (decide (j<=i))):=opB0 fun _ _ _ _ _ _ _ q=>ge_int q
theorem op_isN:OpR X (compareOp .Is) (fun x y H Q=>y = .non/\Q (.bl (decide (x = .non))) H):=by
 intro pins s σ H x y v u Q I rx ry h;obtain ⟨rfl,q⟩:=h;cases ry;refine is_none_gen (Ac I q ?_)
 cases x<;>first
  | (cases rx;rfl)
  | (obtain ⟨t,rfl⟩:=rx;rfl)
theorem op_notN:OpR X (compareOp .IsNot) (fun x y H Q=>y = .non/\Q (.bl (!decide (x = .non))) H):=by
 intro pins s σ H x y v u Q I rx ry h;obtain ⟨rfl,q⟩:=h;cases ry;refine isnot_none_gen (Ac I q ?_)
 cases x<;>first
  | (cases rx;rfl)
  | (obtain ⟨t,rfl⟩:=rx;rfl)
theorem Hk:OpR X (compareOp .NotIn) (fun x y H Q=>∃ i j,x = .str i/\y = .str j/\Q (.bl (!(!(Builtin.Str.occurrences j i 0 j.length 1).isEmpty))) H):=by
 intro pins s σ H x y v u Q I rx ry h;obtain ⟨i,j,rfl,rfl,q⟩:=h;obtain ⟨t,rfl⟩:=rx;obtain ⟨t',rfl⟩:=ry;exact notIn_str (Ac I q rfl)
theorem AW (b:Expr){op:CmpOp}(h:op ≠ .In:=by decide)(h2:op ≠ .NotIn:=by decide):behindInMarks op b=false:=by
 have e1:(op == CmpOp.In)=false:=by cases op<;>first|rfl|exact absurd rfl h
 have e2:(op == CmpOp.NotIn)=false:=by cases op<;>first|rfl|exact absurd rfl h2
 cases b<;>simp [behindInMarks,e1,e2]
theorem Jk {op:CmpOp}{r:R2}(ho:OpR X (compareOp op) r)(ha:PE X a ta)(hb:PE X b tb)(hm:behindInMarks op b=false):PE X (.Compare a [op] [b] pos) (tOp r ta tb):=by
 intro pins s σ H Q I h;exact wpAny_Compare1 (binT ha hb I h fun v u s2 x y H2 I2 rx ry q=>ho pins s2 σ H2 x y v u Q I2 rx ry q) hm
abbrev tTest (t:TE):TT:=fun σ H Q=>t σ H fun x H'=>∃ k,x = .bl k/\Q k H'
theorem AG {op:CmpOp}{r:R2}(ho:OpR X (compareOp op) r)(ha:PE X a ta)(hb:PE X b tb)(hm:behindInMarks op b=false):PT X (.Compare a [op] [b] pos) (tTest (tOp r ta tb)):=by
 intro pins s σ H Q I h
 refine wpAny_isTrue_Compare1 (thn (ha pins s σ H _ I h) fun v s1 ⟨x,H1,I1,r1,q1⟩=>thn (hb pins s1 σ H1 _ I1 q1) fun u s2 ⟨y,H2,I2,r2,q2⟩ =>
  thn (ho pins s2 σ H2 x y v u _ I2 r1 r2 q2) fun c s3 ⟨z,H3,I3,r3,k,e,q3⟩=>?_) hm
 subst e;cases r3;exact wpAny_truthy_bool ⟨H3,I3,q3⟩
def TruV (K:FZ9)(x:V)(H:Hp)(k:Bool):Prop :=
 match x with
 | .non=>k=false
 | .bl b=>k=b
 | .int i=>k=(i != 0)
 | .str y=>y.length<=sizeLine/\k=((y.length:Int) != 0)
 | .byt y=>y.size<=sizeLine/\k=((y.size:Int) != 0)
 | .ref p=>(∃ xs,SqL K H p xs/\k = !xs.isEmpty)\/(∃ xs,SqT K H p xs/\k = !xs.isEmpty)\/∃ kvs,H p=some (.dK kvs)/\k = !kvs.isEmpty
 | _=>False
theorem JH {κ:Type}{kvs:List (κ × V)}{vs:List (κ × Value)}(r:KV kvs vs):(!vs.isEmpty) = !kvs.isEmpty:=by
 cases r<;>rfl
theorem GF {xs:List V}{its:List Value}(r:Vals xs its):(!its.toArray.isEmpty) = !xs.isEmpty:=by
 cases r<;>simp
theorem FB:(sizeLine:Nat)<2 ^ 63:=by rw [qcB];decide
theorem tru_ok:TruR X (fun x H Q=>∃ k,TruV X.K x H k/\Q k H):=by
 intro pins s σ H x v Q I rx h;obtain ⟨k,e,q⟩:=h;have hl:=FB;have hs:sizeLine=16777216:=qcB
 cases x with
 | non =>
  cases rx;have e':k=false:=e;subst e';exact truthy_none ⟨H,I,q⟩
 | bl b =>
  cases rx;have e':k=b:=e;subst e';exact wpAny_truthy_bool ⟨H,I,q⟩
 | int i =>
  obtain ⟨t,rfl⟩:=rx;have e':k=(i != 0):=e;subst e';exact PySem.P.truthy_int ⟨H,I,q⟩
 | str y =>
  obtain ⟨t,rfl⟩:=rx;obtain ⟨hy,e'⟩:y.length<=sizeLine/\k=((y.length:Int) != 0):=e;subst e';exact PySem.P.truthy_str (by omega) ⟨H,I.tok _,q⟩
 | byt y =>
  obtain ⟨t,rfl⟩:=rx;obtain ⟨hy,e'⟩:y.size<=sizeLine/\k=((y.size:Int) != 0):=e;subst e';exact PySem.W.truthy_bytes (by omega) ⟨H,I.tok _,q⟩
 | ref p =>
  cases rx;have e':(∃ xs,SqL X.K H p xs/\k = !xs.isEmpty)\/(∃ xs,SqT X.K H p xs/\k = !xs.isEmpty)\/∃ kvs,H p=some (.dK kvs)/\k = !kvs.isEmpty:=e;rcases e' with ⟨xs,hx,e'⟩ | ⟨xs,hx,e'⟩ | ⟨kvs,hx,e'⟩
  ·subst e';obtain ⟨its,r,pl,hz⟩:=I.list hx;have hlen:=r.length;exact wpAny_truthy_list pl.isList (by simp only [qiB];omega) ⟨H,I.tok _,by rw [GF r];exact q⟩
  ·subst e';obtain ⟨its,r,pl,hz⟩:=I.tuple hx;have hlen:=r.length;exact truthy_tuple pl (by simp only [qiB];omega) ⟨H,I.tok _,by rw [GF r];exact q⟩
  ·subst e';obtain ⟨hz,hS,vs,r,m⟩:kvs.length<=sizeLine/\(p == sysModules)=false/\∃ vs,KV kvs vs/\s.heap.DictOf (Hi X.prog X.w) p vs:=I.hok p _ hx;have hlen:kvs.length=vs.length:=Paired.length r;exact wpAny_truthy_dict hS m (by omega) ⟨H,I.tok _,by rw [JH r];exact q⟩
 | _=>exact (show False from e).elim
theorem pt_truth (ha:PE X a ta)(he:∀ whole,isTrue a X.env whole=(do let v <- whole;standAt a.pos;holding [v] (truthy v))) :
  PT X a (fun σ H Q=>ta σ H fun x H'=>∃ k,TruV X.K x H' k/\Q k H'):=by
 intro pins s σ H Q I h;exact isTrue_plain (thn (ha pins s σ H _ I h) fun v s1 ⟨x,H1,I1,r1,q1⟩=>tru_ok pins s1 σ H1 x v Q I1 r1 q1) (he _)
theorem Ih:OpR X (binaryOp .Add) (fun x y H Q=>∃ i j,x = .str i/\y = .str j/\i.length+j.length<=sizeLine/\Q (.str (i++j)) H):=by
 intro pins s σ H x y v u Q I rx ry h;obtain ⟨i,j,rfl,rfl,hz,q⟩:=h;obtain ⟨t,rfl⟩:=rx;obtain ⟨t',rfl⟩:=ry;exact add_str (fun t' tk=>⟨.str (i++j),H,I.tok _,⟨_,rfl⟩,q⟩) hz
theorem EY {x:V}{us:List Value}(r:Vals [x] us):∃ u,us=[u]/\RelV x u:=by
 cases r with
 | cons r1 r2=>cases r2;exact ⟨_,rfl,r1⟩
theorem Jl {x y:V}{us:List Value}(r:Vals [x,y] us):∃ u w',us=[u,w']/\RelV x u/\RelV y w':=by
 cases r with
 | cons r1 r2 =>
  cases r2 with
  | cons r3 r4=>cases r4;exact ⟨_,_,rfl,r1,r3⟩
theorem KH (hc:X.calm=true):Cn X (.builtin "max") (fun xs H Q=>∃ i j,xs=[.int i,.int j]/\Q (.int (if j > i then j else i)) H):=by
 intro pins s σ H xs us Q I r h;obtain ⟨i,j,rfl,q⟩:=h;obtain ⟨u,w',rfl,⟨t,rfl⟩,⟨t',rfl⟩⟩:=Jl r;refine max_two_ints (I.ok.hd hc) fun h' tk k=>⟨_,H,I.kept k,?_,q⟩;by_cases hj:j > i
 ·rw [if_pos hj,if_pos hj];exact ⟨_,rfl⟩
 ·rw [if_neg hj,if_neg hj];exact ⟨_,rfl⟩
end
structure Room (k:Nat)(A:Around):Prop where
 hd:A.handled=none
 dp:A.depth+3 * k+5<recursionLimit
 un:A.units+16 * k+200<cLine
theorem Room.mono {j k:Nat}{A:Around}(r:Room k A)(h:j<=k):Room j A:=⟨r.hd,by have:=r.dp;omega,by have:=r.un;omega⟩
theorem Room.deeper {k:Nat}{A:Around}(r:Room (k+1) A)(env:Env):Room k (A.deeper env) :=
 ⟨r.hd,by have:=r.dp;show A.depth+1+3 * k+5<_;omega,by have:=r.un;show A.units+3+16 * k+200<_;omega⟩
theorem Room.depth {k:Nat}{A:Around}(r:Room k A):A.depth<recursionLimit:=by have:=r.dp;omega
abbrev Bd:TA:=fun _ H Q=>Q [] H
abbrev Ao (ta:TE)(tr:TA):TA:=fun σ H Q=>ta σ H fun x H1=>tr σ H1 fun xs H2=>Q (x::xs) H2
section
variable {X:Cx}{e:Expr}{es:List Expr}{te:TE}{t:TA}{pos:Pos}
theorem A5:PA X [] Bd:=fun _ _ _ _ H Q I h=>Calls.spliced_nil ⟨[],H,I,.nil,h⟩
theorem A2 (ha:PE X e te)(hr:PA X es t)(hs:starEach (e::es) X.env=(false,eval e X.env)::starEach es X.env:=by rfl):PA X (e::es) (Ao te t):=by
 intro pos pins s σ H Q I h;rw [hs];show wpAny _ _ (spliced ((false,eval e X.env)::backTo pos (starEach es X.env))) _ _ s;refine Calls.spliced_cons (thn (ha pins s σ H _ I h) fun u s1 ⟨x,H1,I1,r1,q1⟩=>?_);exact thn (hr pos pins s1 σ H1 _ I1 q1) fun us s2 ⟨xs,H2,I2,r2,q2⟩=>⟨x::xs,H2,I2,.cons r1 r2,q2⟩
abbrev tTup (t:TA):TE:=fun σ H Q=>t σ H fun xs H1=>xs.length<=sizeLine/\∀ p,H1 p=none->Q (.ref p) (upd H1 p (.tup xs))
abbrev tLst (t:TA):TE:=fun σ H Q=>t σ H fun xs H1=>xs.length<=sizeLine/\∀ p,H1 p=none->Q (.ref p) (upd H1 p (.lst xs))
theorem DG {x1}(h:PA X es t):PE X (.Tuple es x1 pos) (tTup t):=by
 intro pins s σ H Q I hq;refine wpAny_Tuple_spliced (thn (h pos pins s σ H _ I hq) fun us s1 ⟨xs,H1,I1,r,z,q⟩=>⟨by rw [<- r.length];exact z,?_⟩);have hf:H1 s1.heap.objs.size=none:=I1.hok.fresh (qvA _);refine ⟨.ref s1.heap.objs.size,upd H1 s1.heap.objs.size (.tup xs),I1.laid (t':=s1.toks) (fun b u e=>qaB _ e) (qvA _) ?_,rfl,q _ hf⟩;exact ⟨z,us,r,⟨_,qbB _ rfl,rfl,_,rfl⟩⟩
theorem BW (h:PA X es t):PE X (.List es pos) (tLst t):=by
 intro pins s σ H Q I hq;refine wpAny_List_spliced (thn (h pos pins s σ H _ I hq) fun us s1 ⟨xs,H1,I1,r,z,q⟩=>⟨by rw [<- r.length];exact z,?_⟩);have hf:H1 s1.heap.objs.size=none:=I1.hok.fresh (qvA _);refine ⟨.ref s1.heap.objs.size,upd H1 s1.heap.objs.size (.lst xs),I1.laid (t':=s1.toks) (fun b u e=>qaB _ e) (qvA _) ?_,rfl,q _ hf⟩;exact ⟨z,us,0,r,qbB _ rfl⟩
end
abbrev Sp:=List V->Hp->VK->XK->Prop
abbrev CXT:=List Env->Hp->Shared->XK->Value->Shared->Prop
structure Env0 (P:Program)(w:World)(K:FZ9)(mg:Str->Option Value)(base:Heap)(A:Around)(outer:List Env)(s:Shared)(H:Hp):Prop where
 frames:A.frames=some outer
 mod:Mod K mg base
 bs:∀ b o,base.get? b=some o->s.heap.get? b=some o/\H b=none
 bsz:base.objs.size<=s.heap.objs.size
 funs:s.heap.FunFrames base outer
 frf:∀ b∈frs outer,H b=none
 hok:HOk P w H s.heap
 bare:AllBare s.gens
def CE (outer:List Env)(P:Program)(w:World)(H:Hp)(s:Shared)(Q:VK)(u:Value)(s':Shared):Prop :=
 ∃ v H',s'.os=s.os/\AllBare s'.gens/\Un (frs outer) [] H H' s.heap s'.heap/\HOk P w H' s'.heap/\RelV v u/\Q v H'
def CR (CX:CXT)(outer:List Env)(P:Program)(w:World)(H:Hp)(s:Shared)(Q:VK)(E:XK)(r:Result)(s':Shared):Prop :=
 match r with
 | .ok (.ret u)=>CE outer P w H s Q u s'
 | .ok _=>False
 | .error e=>CX outer H s E e s'
structure FnOk (P:Program)(w:World)(K:FZ9)(mg:Str->Option Value)(base:Heap)(CX:CXT)(k:Nat)(f:Addr)(fd:FuncData)(ps:List Str)(sp:Sp):Prop where
 len:∀ vs H Q E,sp vs H Q E->vs.length=ps.length
 run:∀ (A:Around) (outer:List Env) (s:Shared) (H:Hp) (args:Args) (us:List Value) (vs:List V) (Q:VK) (E:XK),Room k A->Env0 P w K mg base A outer s H->BindsTo s fd args (ps.zip us)->Vals vs us->sp vs H Q E ->
  codeAny (model P w) A (.call (.ref f) args) (CR CX outer P w H s Q E) s
theorem FnOk.imp {P:Program}{w:World}{K:FZ9}{mg:Str->Option Value}{base:Heap}{CX:CXT}{k:Nat}{f:Addr}{fd:FuncData}{ps:List Str}{sp sp':Sp}(F:FnOk P w K mg base CX k f fd ps sp)
  (h:∀ vs H Q E,sp' vs H Q E->sp vs H Q E):FnOk P w K mg base CX k f fd ps sp' :=
 ⟨fun vs H Q E q=>F.len vs H Q E (h _ _ _ _ q),fun A outer s H args us vs Q E hr he hb hv hs=>F.run A outer s H args us vs Q E hr he hb hv (h _ _ _ _ hs)⟩
section
variable {X:Cx}{pins:List (Addr × Obj)}{σ:St}{H:Hp}{s s':Shared}
theorem Inv.env0 (I:Inv X pins σ H s):Env0 X.prog X.w X.K X.mg X.base X.A X.stack s H :=
 ⟨I.ok.frames,I.ok.mod,I.bs,qwA I.ok.bsz I.sz,I.stack,I.stkFree,I.hok,I.bare⟩
theorem Inv.after {Q:VK}{u:Value}(I:Inv X pins σ H s)(h:CE X.stack X.prog X.w H s Q u s'):EP X pins σ Q u s':=by
 obtain ⟨v,H',os,bare,un,hok,r,q⟩:=h;obtain ⟨hh,g,d,t,os'⟩:=s';obtain rfl:os'=s.os:=os;exact ⟨v,H',I.call (h':=hh) (g':=g) (d':=d) (t':=t) (ch:=[]) un hok bare (fun b z=>absurd z (by simp)),r,q⟩
end
abbrev Gs (sp:Sp)(dvs:List V)(E:XK)(t:TA):TE:=fun σ H Q=>t σ H fun vs H1=>sp (vs++dvs) H1 Q E
def Binds (K:FZ9)(fd:FuncData)(ps:List Str)(ds:List Value):Prop :=
 ∀ (s:Shared) (us:List Value),K.In s.heap->(us++ds).length=ps.length->BindsTo s fd ⟨us,[]⟩ (ps.zip (us++ds))
theorem Binds.all {K:FZ9}{fd:FuncData}{ps:List Str}(h:∀ us:List Value,us.length=ps.length->bindArgs fd ⟨us,[]⟩=pure (ps.zip us)):Binds K fd ps []:=fun s us _ hl=>by
 rw [quA] at hl ⊢;exact .of_eq (h us hl)
def J0 (CX:CXT)(X:Cx)(E:XK):Prop:=∀ (pins:List (Addr × Obj)) (σ:St) (H:Hp) (s:Shared) (e:Value) (s':Shared),Inv X pins σ H s->CX X.stack H s E e s'->X.xe e s'
section
variable {X:Cx}{CX:CXT}{k:Nat}{f C:Addr}{fd:FuncData}{ps:List Str}{sp:Sp}{dvs:List V}{ds:List Value}{E:XK}{x m:Str}{p pos apos:Pos}{e o:Expr}{es:List Expr}{ta:TE}{t:TA}
theorem run_fn {pins:List (Addr × Obj)}{σ:St}{H:Hp}{s:Shared}{Q:VK}{us:List Value}{vs:List V}(F:FnOk X.prog X.w X.K X.mg X.base CX k f fd ps sp)(hr:Room k X.A)(hb:Binds X.K fd ps ds)(hd:Vals dvs ds)(hx:J0 CX X E)
  (I:Inv X pins σ H s) (r:Vals vs us) (h:sp (vs++dvs) H Q E):wpAny (model X.prog X.w) X.A (call (.ref f) us) (EP X pins σ Q) X.xe s:=by
 have r2:Vals (vs++dvs) (us++ds):=r.append hd;have hl:(us++ds).length=ps.length:=by rw [<- r2.length];exact F.len _ _ _ _ h
 refine wpAny_call (codeAny_mono (F.run X.A X.stack s H ⟨us,[]⟩ (us++ds) (vs++dvs) Q E hr I.env0 (hb s us I.kIn hl) r2 h) fun r s' hq=>?_)
 cases r with
 | error e=>exact hx pins σ H s e s' I hq
 | ok fl =>
  cases fl with
  | ret u=>exact I.after hq
  | next=>exact False.elim hq
  | brk=>exact False.elim hq
  | cont=>exact False.elim hq
theorem pe_call (F:FnOk X.prog X.w X.K X.mg X.base CX k f fd ps sp)(hr:Room k X.A)(hg:Gl X x)(hm:X.mg x=some (.ref f))(hk:qmB X.K (.ref f)=true)(hb:Binds X.K fd ps ds)(hd:Vals dvs ds)(hx:J0 CX X E)
  (ha:PA X (e::es) t) (hdb:(x == ("__debug__" : Str))=false:=by decide) (he:starEach (e::es) X.env=(false,eval e X.env)::starEach es X.env:=by rfl) (hpl:(backTo pos (starEach es X.env)).any (·.1)=false:=by rfl) :
  PE X (.Call (.Name x p) (e::es) [] pos) (Gs sp dvs E t):=by
 intro pins s σ H Q I h;refine wpAny_Call_Name_kw (Dx I hg hm ?_ hdb);refine PySem.W.callWith_K (h₀:=X.base) I.ok.mod.kin hk (thn (ha pos pins s σ H _ I h) fun us s1 ⟨vs,H1,I1,r,q⟩=>⟨I1.kIn,?_⟩) he hpl;exact run_fn F hr hb hd hx I1 r q
end
structure FnScope (N P:List Str)(sc:Scope):Prop where
 kind:sc.kind = .function
 co:sc.isCoroutine=false
 gen:sc.isGenerator=false
 nd:N.Nodup
 pre:N.take P.length=P
 par:∀ x∈P,sc.names.lookup x=some .local \/ sc.names.lookup x=some .cell
 nofree:∀ y∈sc.names,y.2 ≠ .free
theorem Gv {kindOf:Str->Option NameKind}{x:Str}:∀ {binds:List (Str × Value)}{m:Str->Option Value},(∀ v,(x,v) ∉ binds)->bindL kindOf binds m x=m x
 | [],_,_=>rfl
 | (n,v)::r,m,h=>by
  unfold bindL;rw [Gv fun w hw=>h w (qmA _ hw)];split
  ·have:x≠n:=by rintro rfl;exact h v qkA
   simp [this]
  ·rfl
theorem HC {kindOf:Str->Option NameKind}{x:Str}:∀ {binds:List (Str × Value)}{m:Str->Option Value},(∀ v,(x,v) ∉ binds)->bindC kindOf binds m x=m x
 | [],_,_=>rfl
 | (n,v)::r,m,h=>by
  unfold bindC;rw [HC fun w hw=>h w (qmA _ hw)];split
  ·rfl
  ·have:x≠n:=by rintro rfl;exact h v qkA
   simp [this]
theorem HF {kindOf:Str->Option NameKind}{x:Str}{v:Value}:∀ {P:List Str}{vs:List Value}{i:Nat}{m:Str->Option Value},P.Nodup->P[i]? = some x->vs[i]? = some v->kindOf x=some .local ->
  bindL kindOf (P.zip vs) m x=some v
 | [],_,_,_,_,h,_,_=>by simp at h
 | _::_,[],_,_,_,_,h,_=>by simp at h
 | p::P,w::vs,0,m,nd,h1,h2,hk=>by
  simp at h1 h2;subst h1;subst h2;show bindL kindOf ((p,w)::P.zip vs) m p=_;unfold bindL;rw [Gv fun v hv=>(List.nodup_cons.mp nd).1 (List.of_mem_zip hv).1,if_pos hk];simp
 | p::P,w::vs,i+1,m,nd,h1,h2,hk=>by
  show bindL kindOf ((p,w)::P.zip vs) m x=_;unfold bindL;exact HF (i:=i) (List.nodup_cons.mp nd).2 (by simpa using h1) (by simpa using h2) hk
theorem Gr {kindOf:Str->Option NameKind}{x:Str}{v:Value}:∀ {P:List Str}{vs:List Value}{i:Nat}{m:Str->Option Value},P.Nodup->P[i]? = some x->vs[i]? = some v->kindOf x≠some .local ->
  bindC kindOf (P.zip vs) m x=some v
 | [],_,_,_,_,h,_,_=>by simp at h
 | _::_,[],_,_,_,_,h,_=>by simp at h
 | p::P,w::vs,0,m,nd,h1,h2,hk=>by
  simp at h1 h2;subst h1;subst h2;show bindC kindOf ((p,w)::P.zip vs) m p=_;unfold bindC;rw [HC fun v hv=>(List.nodup_cons.mp nd).1 (List.of_mem_zip hv).1,if_neg hk];simp
 | p::P,w::vs,i+1,m,nd,h1,h2,hk=>by
  show bindC kindOf ((p,w)::P.zip vs) m x=_;unfold bindC;exact Gr (i:=i) (List.nodup_cons.mp nd).2 (by simpa using h1) (by simpa using h2) hk
def start (N:List Str)(vs:List V):St:=vs.map some++List.replicate (N.length - vs.length) none
def F1 (CX:CXT)(P:Program)(w:World)(K:FZ9)(mg:Str->Option Value)(base:Heap)(N:List Str)(qual:Str)(scope:Scope)(f:Addr)(cd:Value)(A:Around)(outer:List Env)(s:Shared)(H:Hp)(E:XK):Cx where
 prog:=P
 w:=w
 K:=K
 mg:=mg
 base:=base
 A:=A.deeper (envOfC qual scope s.heap.objs.size f cd)
 N:=N
 s₀:=s
 H₀:=H
 env:=envOfC qual scope s.heap.objs.size f cd
 outer:=outer
 stack:=envOfC qual scope s.heap.objs.size f cd::outer
 ex:=[]
 calm:=true
 fn:=fun _=>true
 pn:=[]
 xe:=fun e s'=>wpAny (model P w) (A.deeper (envOfC qual scope s.heap.objs.size f cd)) (leaving (envOfC qual scope s.heap.objs.size f cd) e) (fun _ s''=>CX outer H s E e s'') (fun e' s''=>CX outer H s E e' s'') s'
theorem Hw {sc:Scope}{n:Nat}{x:Str}(h:sc.names.lookup x=some .cell):∃ c,(cellsFrom n sc.names []).lookup x=some c:=by
 have q:=PySem.W.cellsFrom_some sc.names n [] (.inl h);exact Option.isSome_iff_exists.mp q
theorem Gp {CX:CXT}{P:Program}{w:World}{K:FZ9}{mg:Str->Option Value}{base:Heap}{N ps:List Str}{qual:Str}{scope:Scope}{f:Addr}{cd:Value}{A:Around}{outer:List Env}{s s1:Shared}{H:Hp}{E:XK}{us:List Value}{vs:List V}
  (S:FnScope N ps scope) (hd:A.handled=none) (e0:Env0 P w K mg base A outer s H) (hl:vs.length=ps.length) (r:Vals vs us)
  (x:InCallC s s.heap.objs.size (bindL (envOfC qual scope s.heap.objs.size f cd).kindOf (ps.zip us) fun _=>none) (cellsFrom (s.heap.objs.size+1) scope.names []) (bindC (envOfC qual scope s.heap.objs.size f cd).kindOf (ps.zip us) fun _=>none) s1) :
  Inv (F1 CX P w K mg base N qual scope f cd A outer s H E) [] (start N vs) H s1:=by
 have hpl:ps.length<=N.length:=by have:=congrArg List.length S.pre;rw [List.length_take] at this;omega
 obtain ⟨h1,tk,rfl,hk⟩:=x.done;have noA:∀ b:Addr,b ∉ (F1 CX P w K mg base N qual scope f cd A outer s H E).ex:=fun b z=>absurd (show b∈([]:List Addr) from z) (by simp)
 refine ⟨⟨e0.mod,S.kind,rfl,rfl,qvA _,fun y z c h1 h2=>?_,fun y hy=>?_,fun y c _ h=>?_,fun _=>hd,Around.frames_deeper e0.frames,.inr ⟨rfl,rfl⟩,fun b z=>absurd z (noA b),e0.bs,e0.bsz,fun b _ _=>noA b,fun b z=>absurd z (noA b),e0.funs,e0.frf⟩,
  rfl,e0.bare,Un.kept hk,⟨_,x.toInCall.ns,fun i y v h1 h2 h3=>?_⟩,fun y c h=>⟨_,x.cell y c h⟩,e0.hok.fresh (qvA _),fun y c h=>?_,fun p hp=>absurd (show p∈([]:List (Addr × Obj)) from hp) (by simp),e0.hok.kept hk,?_⟩
 ·exact name_of_addr x.apart (PySem.mem_of_lookup h1) (PySem.mem_of_lookup h2)
 ·have hy:scope.names.lookup y=some .cell\/scope.names.lookup y=some .free:=hy;rcases hy with hy|hy
  ·exact Hw hy
  ·exact absurd rfl (S.nofree _ (PySem.mem_of_lookup hy))
 ·exact Nat.le_of_lt (x.above y c (PySem.mem_of_lookup h))
 ·have hi:i<vs.length:=by
   unfold start at h2;by_cases hi:i<vs.length
   ·exact hi
   ·rw [List.getElem?_append_right (by simpa using hi)] at h2;rw [List.getElem?_replicate] at h2;split at h2<;>cases h2
  have ha:vs[i]? = some v:=by
   unfold start at h2;rw [List.getElem?_append_left (by simpa using hi),qrA] at h2
   cases e:vs[i]? with
   | none=>rw [e] at h2;cases h2
   | some a=>rw [e] at h2;cases h2;rfl
  obtain ⟨u,hu,rv⟩:=r.get ha
  have hp:ps[i]? = some y:=by
   rw [<- S.pre,List.getElem?_take_of_lt (by omega)];exact h1
  have ndP:ps.Nodup:=by rw [<- S.pre];exact S.nd.sublist (List.take_sublist _ _)
  refine ⟨u,rv,?_⟩;rcases S.par y (qoA hp) with k|k
  ·exact .inl ⟨k,HF ndP hp hu k⟩
  ·obtain ⟨c,e⟩:=Hw (n:=s.heap.objs.size+1) k;refine .inr ⟨.inl k,c,e,?_⟩;have q:=x.cell y c e;rw [Gr ndP hp hu (by show scope.names.lookup y≠_;rw [k];decide)] at q;exact q
 ·exact e0.hok.fresh (Nat.le_of_lt (x.above y c (PySem.mem_of_lookup h)))
 ·unfold start;show _=N.length;rw [qeA,qdA,List.length_replicate];omega
theorem fn_of {CX:CXT}{P:Program}{w:World}{K:FZ9}{mg:Str->Option Value}{base:Heap}{k:Nat}{f:Addr}{name qual:Str}{params:Arguments}{body:List Stmt}{scope:Scope}{dV kV doc pm cdv ct oc:Value}{an od:Option Addr}
  {osl:Array (Option Value)}{N ps:List Str}{sp:Sp}(lk:K.lookup f=some ⟨oc,od,.func (qnB name qual params body scope dV kV doc pm an cdv ct),osl⟩) (hcd:PySem.W.codeIn K cdv qual=true) (S:FnScope N ps scope)
  (len:∀ vs H Q E,sp vs H Q E->vs.length=ps.length)
  (hbody:∀ (A:Around) (outer:List Env) (s:Shared) (H:Hp) (vs:List V) (Q:VK) (E:XK),Room k (A.deeper (envOfC qual scope s.heap.objs.size f cdv))->sp vs H Q E ->
   ∃ t,PSs (F1 CX P w K mg base N qual scope f cdv A outer s H E) body t/\t { nx:=fun _ H'=>Q .non H',rt:=Q } (start N vs) H) :
  FnOk P w K mg base CX (k+1) f (qnB name qual params body scope dV kV doc pm an cdv ct) ps sp:=by
 refine ⟨len,fun A outer s H args us vs Q E hr e0 hb r hsp=>?_⟩;have hl:=len _ _ _ _ hsp;have KX:K.In s.heap:=e0.mod.kin.keeps fun b o e=>(e0.bs b o e).1;have lim:s.heap.NoLimit:=e0.mod.nolimit.keeps fun b o e=>(e0.bs b o e).1
 have hkind:∀ y∈ps.zip us,scope.names.lookup y.1=some .local \/ (scope.names.lookup y.1=some .cell/\((cellsFrom (s.heap.objs.size+1) scope.names []).lookup y.1).isSome=true):=fun ⟨n,v⟩ hy=>by
  rcases S.par n (List.of_mem_zip hy).1 with q|q
  ·exact .inl q
  ·exact .inr ⟨q,PySem.W.cellsFrom_some _ _ _ (.inl q)⟩
 refine codeAny_call_function hr.depth (KX _ _ lk) rfl S.co S.gen rfl (PySem.W.codeRec_of KX hcd) (hb _ _ _ _ ?_);refine wpAny_newFunctionEnv_cells S.kind hkind fun env he s1 x=>?_;subst he;refine ⟨lim.keeps x.toInCall.keep,codeAny_func ?_⟩;obtain ⟨t,ht,hq⟩:=hbody A outer s H vs Q E (hr.deeper _) hsp;have I:Inv (F1 CX P w K mg base N qual scope f cdv A outer s H E) [] (start N vs) H s1:=Gp S hr.hd e0 hl r x;refine wpAny_mono (ht [] s1 (start N vs) H _ I hq) (fun fl s' hs=>?_) fun e s' hs=>hs
 have fin:∀ {σ':St}{H':Hp}{v:V}{u:Value},Inv (F1 CX P w K mg base N qual scope f cdv A outer s H E) [] σ' H' s'->RelV v u->Q v H'->CE outer P w H s Q u s' :=
  fun {σ' H' v u} J rv q=>⟨v,H',J.os,J.bare,J.base,J.hok,rv,q⟩
 cases fl with
 | ret u =>
  obtain ⟨v,σ',H',J,rv,q⟩:=hs;exact fin J rv q
 | next =>
  obtain ⟨σ',H',J,q⟩:=hs;exact fin (v:=V.non) (u:=Value.none) J rfl q
 | brk =>
  obtain ⟨_,_,_,q⟩:=hs;exact False.elim q
 | cont =>
  obtain ⟨_,_,_,q⟩:=hs;exact False.elim q
section
variable {X:Cx}{x:Str}{p pos:Pos}{e:Expr}{es:List Expr}{t:TA}{id T:String}{r:List V->Hp->VK->Prop}
abbrev tCB (r:List V->Hp->VK->Prop)(t:TA):TE:=fun σ H Q=>t σ H fun vs H1=>r vs H1 Q
theorem AT (hc:Cn X (.builtin id) r)(hg:Gl X x)(hm:X.mg x=none)(hv:bootBuiltins x=some (.builtin id))(ha:PA X (e::es) t)(hn:x ≠ "__name__" := by decide)(hdb:(x == ("__debug__" : Str))=false:=by decide)
  (he:starEach (e::es) X.env=(false,eval e X.env)::starEach es X.env:=by rfl) (hpl:(backTo pos (starEach es X.env)).any (·.1)=false:=by rfl):PE X (.Call (.Name x p) (e::es) [] pos) (tCB r t):=by
 intro pins s σ H Q I h;refine wpAny_Call_Name_kw (Ht I hg hm hv ?_ hn hdb);exact PyProof.Rows.callWith_builtin1 (thn (ha pos pins s σ H _ I h) fun us s1 ⟨vs,H1,I1,r1,q1⟩=>hc pins s1 σ H1 vs us Q I1 r1 q1) he hpl
theorem Gn (hc:Cn X (.type T) r)(hg:Gl X x)(hm:X.mg x=none)(hv:bootBuiltins x=some (.type T))(ha:PA X (e::es) t)(hn:x ≠ "__name__" := by decide)(hdb:(x == ("__debug__" : Str))=false:=by decide)
  (he:starEach (e::es) X.env=(false,eval e X.env)::starEach es X.env:=by rfl) (hpl:(backTo pos (starEach es X.env)).any (·.1)=false:=by rfl):PE X (.Call (.Name x p) (e::es) [] pos) (tCB r t):=by
 intro pins s σ H Q I h;refine wpAny_Call_Name_kw (Ht I hg hm hv ?_ hn hdb);exact PyProof.Rows.callWith_type1 (thn (ha pos pins s σ H _ I h) fun us s1 ⟨vs,H1,I1,r1,q1⟩=>hc pins s1 σ H1 vs us Q I1 r1 q1) he hpl
end
end L2
namespace HT
open PySem PyProof.Rows
section
open PySem.SeqAt
open PySem.AutoSeq1 (wpAny_loadPart')
open PySem.MeetsSeq PySem.MeetsSeq2 PySem.MeetsSeq3
end
section
variable {prog:Program}{w:World}{A:Around}{E:Value->Shared->Prop}{s:Shared}
def sIx (n d:Nat):Option Int->Nat
 | none=>d
 | some v=>if v<0 then (v+(n:Int)).toNat else min v.toNat n
theorem sIx_none (n d:Nat):sIx n d none=d:=rfl
theorem sIx_nat (n d k:Nat):sIx n d (some (k:Int))=min k n:=by
 show (if (k:Int)<0 then ((k:Int)+(n:Int)).toNat else min (k:Int).toNat n)=min k n;rw [if_neg (by omega),Int.toNat_natCast]
end
end HT
namespace L2
open PySem PySem.Spec PyProof.Rows
abbrev TO:=St->Hp->(Option Int->Hp->Prop)->Prop
def PO (X:Cx)(e:Option Expr)(t:TO):Prop :=
 ∀ (pins:List (Addr × Obj)) (s:Shared) (σ:St) (H:Hp) (Q:Option Int->Hp->Prop),Inv X pins σ H s->t σ H Q ->
  wpAny (model X.prog X.w) X.A (evalPart e X.env) (fun u s'=>∃ o H',Inv X pins σ H' s'/\IsPart u o/\Q o H') X.xe s
abbrev Jd:TO:=fun _ H Q=>Q none H
abbrev tPart (t:TE):TO:=fun σ H Q=>t σ H fun x H1=>∃ i,x = .int i/\Q (some i) H1
section
variable {X:Cx}{e:Expr}{te:TE}{lo hi:Option Expr}{tl th:TO}{pos p2:Pos}
theorem C1:PO X none Jd:=by
 intro pins s σ H Q I h;rw [evalPart_none];exact qcA ⟨none,H,I,.none,h⟩
theorem BO (h:PE X e te):PO X (some e) (tPart te):=by
 intro pins s σ H Q I hw;rw [evalPart_some];refine thn (h pins s σ H _ I hw) fun u s1 ⟨x,H1,I1,r1,q1⟩=>?_;obtain ⟨i,rfl,q⟩:=q1;obtain ⟨t,rfl⟩:=r1;exact ⟨some i,H1,I1,.int i t,q⟩
def SlR (X:Cx)(r:V->Option Int->Option Int->Hp->VK->Prop):Prop :=
 ∀ (pins:List (Addr × Obj)) (s:Shared) (σ:St) (H:Hp) (x:V) (v vl vu:Value) (lo hi:Option Int) (sl:Addr) (Q:VK),Inv X pins σ H s->RelV x v->s.heap.IsSliceOf sl vl vu .none->IsPart vl lo->IsPart vu hi->r x lo hi H Q ->
  ∃ T id,typeLookup (.type T) "__getitem__" = pure (some (.builtin id))/\s.TypeIs v T/\wpAny (model X.prog X.w) X.A (getItem v (.ref sl)) (EP X pins σ Q) X.xe s
abbrev tSl (r:V->Option Int->Option Int->Hp->VK->Prop)(te:TE)(tl th:TO):TE:=fun σ H Q=>te σ H fun x H1=>tl σ H1 fun l H2=>th σ H2 fun u H3=>r x l u H3 Q
theorem BC {r:V->Option Int->Option Int->Hp->VK->Prop}(hr:SlR X r)(he:PE X e te)(hl:PO X lo tl)(hu:PO X hi th):PE X (.Subscript e (.Slice lo hi none p2) pos) (tSl r te tl th):=by
 intro pins s σ H Q I h;refine Subscript_ (thn (he pins s σ H _ I h) fun v s1 ⟨x,H1,I1,r1,q1⟩=>?_);refine wpAny_Slice (thn (hl pins s1 σ H1 _ I1 q1) fun vl s2 ⟨l,H2,I2,pl,q2⟩=>thn (hu pins s2 σ H2 _ I2 q2) fun vu s3 ⟨u,H3,I3,pu,q3⟩=>?_);rw [evalPart_none];refine qcA ?_;have I4:Inv X pins σ H3 { s3 with heap:=s3.heap.push { cls:=.type "slice",data:=.fields #[vl,vu,.none] } }:=I3.kept (t':=s3.toks) fun b ob q=>qaB _ q;obtain ⟨T,id,hT,ht,hg⟩:=hr pins { s3 with heap:=s3.heap.push { cls:=.type "slice",data:=.fields #[vl,vu,.none] } } σ H3 x v vl vu l u s3.heap.objs.size Q I4 r1 (Heap.IsSliceOf.new ..) pl pu q3;show wpAny (model X.prog X.w) X.A (subscriptTail e (.Slice lo hi none p2) v (.ref s3.heap.objs.size)) (EP X pins σ Q) X.xe { s3 with heap:=s3.heap.push { cls:=.type "slice",data:=.fields #[vl,vu,.none] } };exact tail_any (ops:=[.ref s3.heap.objs.size,v]) ht hT hg (by with_unfolding_all rfl)
def Ij (xs:List V)(lo hi:Option Int):List V:=(xs.drop (HT.sIx xs.length 0 lo)).take (HT.sIx xs.length xs.length hi - HT.sIx xs.length 0 lo)
theorem FL (xs:List V)(lo hi:Option Int):(Ij xs lo hi).length<=xs.length:=by
 unfold Ij;rw [List.length_take,List.length_drop];omega
end
def ixN (n:Nat)(i:Int):Option Nat:=if 0<=i then (if i<n then some i.toNat else none) else if -(n:Int)<=i then some (i+n).toNat else none
def atI {α:Type}(xs:List α)(i:Int):Option α:=(ixN xs.length i).bind fun j=>xs[j]?
theorem ixN_seq {n:Nat}{i:Int}{j:Nat}(h:ixN n i=some j):seqIndex? i n=some j/\j<n/\-(n:Int)<=i/\i<n:=by
 unfold ixN at h;by_cases h0:0<=i
 ·rw [if_pos h0] at h;by_cases h1:i<n
  ·rw [if_pos h1] at h;have e:i.toNat=j:=qyA h;exact ⟨by rw [seqIndex_of h0 h1,e],by omega,by omega,h1⟩
  ·rw [if_neg h1] at h;cases h
 ·rw [if_neg h0] at h;by_cases h1:-(n:Int)<=i
  ·rw [if_pos h1] at h;have e:(i+n).toNat=j:=qyA h;exact ⟨by rw [seqIndex_neg (by omega) h1,e],by omega,h1,by omega⟩
  ·rw [if_neg h1] at h;cases h
theorem Hl {α:Type}{xs:List α}{i:Int}{v:α}(h:atI xs i=some v):∃ j,seqIndex? i xs.length=some j/\xs[j]? = some v/\j<xs.length/\-(xs.length:Int)<=i/\i<xs.length:=by
 unfold atI at h
 cases e:ixN xs.length i with
 | none=>rw [e] at h;cases h
 | some j =>
  rw [e] at h;obtain ⟨h1,h2,h3,h4⟩:=ixN_seq e;exact ⟨j,h1,h,h2,h3,h4⟩
theorem CY {α:Type}{xs:List α}{j:Nat}{v:α}(h:xs[j]? = some v):atI xs (j:Int)=some v:=by
 have hj:j<xs.length:=(qpA.mp h).1
 have e:ixN xs.length (j:Int)=some j:=by
  unfold ixN;rw [if_pos (by omega),if_pos (by omega)];simp
 unfold atI;rw [e];exact h
def JS (b:Expr):Prop:=∀ o i,subscripted b false o i=operate [o,i] (getItem o i)
def IxR (X:Cx)(r:R2):Prop :=
 ∀ (value slice:Expr) (pins:List (Addr × Obj)) (s:Shared) (σ:St) (H:Hp) (x y:V) (v u:Value) (Q:VK),Inv X pins σ H s->RelV x v->RelV y u->r x y H Q ->
  subscripted slice false v u=operate [v,u] (getItem v u)->wpAny (model X.prog X.w) X.A (subscriptTail value slice v u) (EP X pins σ Q) X.xe s
def MtR (X:Cx)(id:String)(r:V->List V->Hp->VK->Prop):Prop :=
 ∀ (pins:List (Addr × Obj)) (s:Shared) (σ:St) (H:Hp) (x:V) (xs:List V) (v:Value) (us:List Value) (Q:VK),Inv X pins σ H s->RelV x v->Vals xs us->r x xs H Q ->
  wpAny (model X.prog X.w) X.A (call (.builtin id) (v::us)) (EP X pins σ Q) X.xe s
section
variable {X:Cx}{a b:Expr}{ta tb:TE}{pos:Pos}
theorem pe_ix {r:R2}(hr:IxR X r)(ha:PE X a ta)(hb:PE X b tb)(hs:JS b):PE X (.Subscript a b pos) (tOp r ta tb):=by
 intro pins s σ H Q I h;exact Subscript_ (binT ha hb I h fun v u s2 x y H2 I2 rx ry q=>hr a b pins s2 σ H2 x y v u Q I2 rx ry q (hs _ _))
def rIxL (K:FZ9):R2:=fun x y H Q=>∃ p xs i v,x = .ref p/\y = .int i/\SqL K H p xs/\atI xs i=some v/\Q v H
def rIxT (K:FZ9):R2:=fun x y H Q=>∃ p xs i v,x = .ref p/\y = .int i/\SqT K H p xs/\atI xs i=some v/\Q v H
def rIxS:R2:=fun x y H Q=>∃ z i c,x = .str z/\y = .int i/\z.length<=sizeLine/\atI z.cps.toList i=some c/\Q (.str ⟨#[c]⟩) H
theorem ix_list:IxR X (rIxL X.K):=by
 intro value slice pins s σ H x y v u Q I rx ry h hs;obtain ⟨p,xs,i,z,rfl,rfl,hq,he,q⟩:=h;cases rx;obtain ⟨t,rfl⟩:=ry;obtain ⟨its,r,pl,hz⟩:=I.list hq;obtain ⟨j,h1,h2,h3,h4,h5⟩:=Hl he;obtain ⟨w,ew,rw'⟩:=r.get h2;have hl:=r.length;have hn:=FB;have fin:EP X pins σ Q w s:=⟨z,H,I,rw',q⟩;by_cases h0:0<=i
 ·have hj:i.toNat=j:=by
   rw [seqIndex_of h0 h5] at h1;exact qyA h1
  exact item_listR pl.isList h0 (by omega) (by rw [hj];simpa using ew) fin hs
 ·have hj:(i+(its.toArray.size:Int)).toNat=j:=by
   rw [seqIndex_neg (by omega) h4] at h1;rw [qiB,<- hl];exact qyA h1
  exact subscriptTail_builtinR (x:=w) pl.isList.typeIs slot_list_getitem.lookup
   (wpAny_getItem_list_neg (Q:=fun r s'=>r=w/\EP X pins σ Q r s') pl.isList (by omega) (by rw [qiB]<;>omega) (by omega) (by rw [hj];simpa using ew) ⟨rfl,fin⟩) hs
theorem ix_tup:IxR X (rIxT X.K):=by
 intro value slice pins s σ H x y v u Q I rx ry h hs;obtain ⟨p,xs,i,z,rfl,rfl,hq,he,q⟩:=h;cases rx;obtain ⟨t,rfl⟩:=ry;obtain ⟨its,r,pl,hz⟩:=I.tuple hq;obtain ⟨j,h1,h2,h3,h4,h5⟩:=Hl he;obtain ⟨w,ew,rw'⟩:=r.get h2;have hl:=r.length;have hn:=FB;have fin:EP X pins σ Q w s:=⟨z,H,I,rw',q⟩
 exact subscriptTail_builtinR (x:=w) pl.typeIs slot_tuple_getitem.lookup
  (getItem_tuple (j:=j) (Q:=fun r s'=>r=w/\EP X pins σ Q r s') pl (by omega) (by omega) (by rw [qiB,<- hl];exact h1) (by simpa using ew) ⟨rfl,fin⟩) hs
theorem ix_str:IxR X rIxS:=by
 intro value slice pins s σ H x y v u Q I rx ry h hs;obtain ⟨z,i,c,rfl,rfl,hz,he,q⟩:=h;obtain ⟨t,rfl⟩:=rx;obtain ⟨t',rfl⟩:=ry;obtain ⟨j,h1,h2,h3,h4,h5⟩:=Hl he;have hl:z.cps.toList.length=z.length:=by simp [Str.length]
 rw [hl] at h1 h4 h5;have hn:=FB
 exact tail_any (typeIs_str s z t) slot_str_getitem.lookup (getItem_str (c:=c) (by
  have e1:decide (i < -(2 ^ 63:Int))=false:=decide_eq_false (by omega);have e2:decide (i>=2 ^ 63)=false:=decide_eq_false (by omega)
  rw [e1,e2,Bool.or_false]) (by rw [h1];simpa using h2) ⟨.str ⟨#[c]⟩,H,I.tok _,⟨_,rfl⟩,q⟩) hs
theorem HY (lo hi:Option Int)(n:Nat):(sliceBounds lo hi none n).1=((HT.sIx n 0 lo:Nat):Int)/\(sliceBounds lo hi none n).2.1=((HT.sIx n n hi:Nat):Int)/\(sliceBounds lo hi none n).2.2=1:=by
 refine ⟨?_,?_,rfl⟩
 ·cases lo with
  | none=>simp [sliceBounds,HT.sIx]
  | some i =>
   simp only [sliceBounds,HT.sIx,Option.getD_none,show (1:Int) > 0 by decide,if_true];by_cases h:i<0
   ·simp only [h,if_true]<;>omega
   ·simp only [h,if_false]<;>omega
 ·cases hi with
  | none=>simp [sliceBounds,HT.sIx]
  | some i =>
   simp only [sliceBounds,HT.sIx,Option.getD_none,show (1:Int) > 0 by decide,if_true];by_cases h:i<0
   ·simp only [h,if_true]<;>omega
   ·simp only [h,if_false]<;>omega
theorem Gb (its:List Value)(lo hi:Option Int):slicePick its.toArray lo hi none=((its.drop (HT.sIx its.length 0 lo)).take (HT.sIx its.length its.length hi - HT.sIx its.length 0 lo)).toArray:=by
 obtain ⟨h1,h2,h3⟩:=HY lo hi its.toArray.size;unfold slicePick;rw [h1,h2,h3];simp only [sliceRange_one,pick_run,qiB]<;>rfl
def rSlL (K:FZ9):V->Option Int->Option Int->Hp->VK->Prop:=fun x lo hi H Q=>∃ a xs,x = .ref a/\SqL K H a xs/\∀ p,H p=none->Q (.ref p) (upd H p (.lst (Ij xs lo hi)))
theorem sl_list:SlR X (rSlL X.K):=by
 intro pins s σ H x v vl vu lo hi sl Q I rx hs pl pu h;obtain ⟨a,xs,rfl,hx,q⟩:=h;cases rx;obtain ⟨its,r,ht,hz⟩:=I.list hx;have hlen:=r.length;refine ⟨"list",_,slot_list_getitem.lookup,ht.isList.typeIs,?_⟩;refine wpAny_getItem_list_slice ht.isList hs pl pu .none (by simp) ?_ (by rw [qiB]<;>omega);rw [Gb,<- hlen];refine ⟨.ref s.heap.objs.size,_,I.laid (t':=s.toks) (o:=.lst (Ij xs lo hi)) (fun b ob q=>qaB _ q) (qvA _) ?_,rfl,q _ (I.hok.fresh (qvA _))⟩;exact ⟨qwA (FL xs lo hi) hz,_,0,(r.drop (HT.sIx xs.length 0 lo)).take (HT.sIx xs.length xs.length hi - HT.sIx xs.length 0 lo),qbB _ rfl⟩
def GN:V->Bool
 | .non=>true
 | .bl _=>true
 | .int _=>true
 | .str _=>true
 | _=>false
def eqV:V->V->Bool
 | .non,.non=>true
 | .bl a,.bl b=>a == b
 | .bl a,.int b=>(if a then 1 else 0) == b
 | .int a,.bl b=>a == (if b then 1 else 0)
 | .int a,.int b=>a == b
 | .str a,.str b=>a == b
 | _,_=>false
theorem eqAt_V {A:Around}{s:Shared}{y x:V}{u v:Value}(ry:RelV y u)(rx:RelV x v)(fy:GN y=true)(fx:GN x=true):SeqAt.EqAt A s u v (eqV y x):=by
 cases y with
 | non =>
  cases ry
  cases x with
  | non=>cases rx;exact SeqAt.EqAt.same _
  | bl b=>cases rx;exact SeqAt.EqAt.none_bool b
  | int b=>obtain ⟨t,rfl⟩:=rx;exact SeqAt.EqAt.none_int b t
  | str b=>obtain ⟨t,rfl⟩:=rx;exact SeqAt.EqAt.none_str b t
  | _=>exact absurd (show false=true from fx) qhB
 | bl a =>
  cases ry
  cases x with
  | non=>cases rx;exact SeqAt.EqAt.bool_none a
  | bl b=>cases rx;exact SeqAt.EqAt.bool_bool a b
  | int b=>obtain ⟨t,rfl⟩:=rx;exact SeqAt.EqAt.bool_int a b t
  | str b=>obtain ⟨t,rfl⟩:=rx;exact SeqAt.EqAt.bool_str a b t
  | _=>exact absurd (show false=true from fx) qhB
 | int a =>
  obtain ⟨t',rfl⟩:=ry
  cases x with
  | non=>cases rx;exact SeqAt.EqAt.int_none a t'
  | bl b=>cases rx;exact SeqAt.EqAt.int_bool a t' b
  | int b=>obtain ⟨t,rfl⟩:=rx;exact SeqAt.EqAt.int_int a t' b t
  | str b=>obtain ⟨t,rfl⟩:=rx;exact SeqAt.EqAt.int_str a t' b t
  | _=>exact absurd (show false=true from fx) qhB
 | str a =>
  obtain ⟨t',rfl⟩:=ry
  cases x with
  | non=>cases rx;exact SeqAt.EqAt.str_none a t'
  | bl b=>cases rx;exact SeqAt.EqAt.str_bool a t' b
  | int b=>obtain ⟨t,rfl⟩:=rx;exact SeqAt.EqAt.str_int a t' b t
  | str b=>obtain ⟨t,rfl⟩:=rx;exact SeqAt.EqAt.str_str a t' b t
  | _=>exact absurd (show false=true from fx) qhB
 | _=>exact absurd (show false=true from fy) qhB
def eqU (x:V)(u:Value):Bool:=match u with
 | .none=>eqV .non x
 | .bool b=>eqV (.bl b) x
 | .int i _=>eqV (.int i) x
 | .str z _=>eqV (.str z) x
 | _=>false
theorem eqU_of {x y:V}{u:Value}(r:RelV y u)(f:GN y=true):eqU x u=eqV y x:=by
 cases y with
 | non=>cases r;rfl
 | bl b=>cases r;rfl
 | int i=>obtain ⟨t,rfl⟩:=r;rfl
 | str z=>obtain ⟨t,rfl⟩:=r;rfl
 | _=>exact absurd (show false=true from f) qhB
theorem IT {A:Around}{s:Shared}{x:V}{v:Value}(rx:RelV x v)(fx:GN x=true):∀ {xs:List V}{us:List Value},Vals xs us->xs.all GN=true->∀ u∈us,SeqAt.EqAt A s u v (eqU x u)
 | _,_,.nil,_=>fun u hu=>by cases hu
 | y::xs,u::us,.cons r t,f=>fun u' hu=>by
  rw [List.all_cons,Bool.and_eq_true] at f;rcases qhA.mp hu with rfl|hu
  ·rw [eqU_of r f.1];exact eqAt_V r rx f.1 fx
  ·exact IT rx fx t f.2 u' hu
theorem HN:Cn X (.builtin "len") (fun xs H Q=>∃ p ys,xs=[.ref p]/\(SqL X.K H p ys\/SqT X.K H p ys)/\Q (.int ys.length) H):=by
 intro pins s σ H xs us Q I r h;obtain ⟨p,ys,rfl,hq,q⟩:=h;obtain ⟨u,rfl,rx⟩:=EY r;cases rx;have hn:=FB;rcases hq with hq|hq
 ·obtain ⟨its,r',pl,hz⟩:=I.list hq;have hlen:=r'.length;exact Calls.call_len_list pl.isList (by simp only [qiB]<;>omega) ⟨.int ys.length,H,I.tok _,⟨s.toks+1,by rw [qiB,hlen]⟩,q⟩
 ·obtain ⟨its,r',pl,hz⟩:=I.tuple hq;have hlen:=r'.length;exact len_tuple pl (by simp only [qiB]<;>omega) ⟨.int ys.length,H,I.tok _,⟨s.toks+1,by rw [qiB,hlen]⟩,q⟩
theorem HS:Cn X (.builtin "len") (fun xs H Q=>∃ z,xs=[.str z]/\z.length<=sizeLine/\Q (.int z.length) H):=by
 intro pins s σ H xs us Q I r h;obtain ⟨z,rfl,hz,q⟩:=h;obtain ⟨u,rfl,t,rfl⟩:=EY r;have hn:=FB;exact len_str (by omega) ⟨.int z.length,H,I.tok _,⟨_,rfl⟩,q⟩
theorem Ho:Cn X (.type "list") (fun xs H Q=>∃ p ys,xs=[.ref p]/\(SqL X.K H p ys\/SqT X.K H p ys)/\∀ l,H l=none->Q (.ref l) (upd H l (.lst ys))):=by
 intro pins s σ H xs us Q I r h;obtain ⟨p,ys,rfl,hq,q⟩:=h;obtain ⟨u,rfl,rx⟩:=EY r;cases rx
 have fin:∀ (its:List Value),Vals ys its->ys.length<=sizeLine->∀ (h':Heap) (c':Nat),(∀ b o',s.heap.get? b=some o'->h'.get? b=some o') ->
   h'.get? s.heap.objs.size=some { cls:=.type "list",dict:=none,data:=.seq its.toArray c',slots:=#[] }->EP X pins σ Q (.ref s.heap.objs.size) { s with heap:=h' }:=fun its r' hz h' c' kp e =>
  ⟨.ref s.heap.objs.size,_,I.laid (t':=s.toks) kp (qvA _) (show ObjOk X.prog X.w _ h' _ (.lst ys) from ⟨hz,its,c',r',e⟩),rfl,q _ (I.hok.fresh (qvA _))⟩
 rcases hq with hq|hq
 ·obtain ⟨its,r',pl,hz⟩:=I.list hq;have hlen:=r'.length;obtain ⟨o,ho,hc,n,hd⟩:=pl.isList;exact call_list_seq p (.inl rfl) ho hc hd (fun h' c' kp e=>fin its r' hz h' c' kp e) (by simp only [qiB]<;>omega)
 ·obtain ⟨its,r',pl,hz⟩:=I.tuple hq;have hlen:=r'.length;obtain ⟨o,ho,hc,n,hd⟩:=pl;exact call_list_seq p (.inr rfl) ho hc hd (fun h' c' kp e=>fin its r' hz h' c' kp e) (by simp only [qiB]<;>omega)
def tyV (K:FZ9)(T:String)(x:V)(H:Hp):Prop:=match x with
 | .str _=>T = "str"
 | .int _=>T = "int"
 | .ref p=>(T = "list" /\ ∃ xs,SqL K H p xs)\/(T = "tuple" /\ ∃ o,K.lookup p=some o/\o.cls = .type "tuple" /\ o.dict=none) \/
   (T = "dict" /\ ((∃ kvs,H p=some (.dK kvs))\/∃ kvs,H p=some (.dT kvs)))\/(T = "set" /\ ∃ S n,H p=some (.set S n))
 | _=>False
theorem tyV_is {pins:List (Addr × Obj)}{σ:St}{H:Hp}{s:Shared}{T:String}{x:V}{v:Value}(I:Inv X pins σ H s)(r:RelV x v)(ty:tyV X.K T x H) :
  s.TypeIs v T/\∀ a,v = .ref a->∃ ob,s.heap.get? a=some ob/\ob.dict=none:=by
 cases x with
 | str z =>
  obtain ⟨t,rfl⟩:=r;cases (show T = "str" from ty);exact ⟨typeIs_str s z t,fun _ e=>nomatch e⟩
 | int i =>
  obtain ⟨t,rfl⟩:=r;cases (show T = "int" from ty);exact ⟨typeIs_int s i t,fun _ e=>nomatch e⟩
 | ref p =>
  cases r;rcases ty with ⟨rfl,xs,hq⟩ | ⟨rfl,o,hk,hc,hd⟩ | ⟨rfl,hk⟩ | ⟨rfl,S,n,hk⟩
  ·obtain ⟨its,_,pl,_⟩:=I.list hq;refine ⟨pl.isList.typeIs,fun a e=>?_⟩;cases e;obtain ⟨o,n,e,c,hd,_⟩:=pl;exact ⟨o,e,hd⟩
  ·refine ⟨⟨o,I.kIn p o hk,hc⟩,fun a e=>?_⟩;cases e;exact ⟨o,I.kIn _ o hk,hd⟩
  ·have z:∃ o,s.heap.get? p=some o/\o.ExactDict:=by
    rcases hk with ⟨kvs,hk⟩ | ⟨kvs,hk⟩
    ·obtain ⟨_,_,_,_,o,_,_,e,ex,_⟩:=I.hok p _ hk;exact ⟨o,e,ex⟩
    ·obtain ⟨_,_,_,_,o,_,_,e,ex,_⟩:=I.hok p _ hk;exact ⟨o,e,ex⟩
   obtain ⟨o,e,ex⟩:=z;refine ⟨⟨o,e,ex.1⟩,fun a e2=>?_⟩;cases e2;exact ⟨o,e,ex.2.1⟩
  ·obtain ⟨o,_,_,_,e,ex,_⟩:=I.hok p _ hk;refine ⟨⟨o,e,ex.1⟩,fun a e2=>?_⟩;cases e2;exact ⟨o,e,ex.2.1⟩
 | _=>exact False.elim ty
abbrev tBM0 (K:FZ9)(T:String)(r:V->List V->Hp->VK->Prop)(to:TE):TE:=fun σ H Q=>to σ H fun x H1=>tyV K T x H1/\r x [] H1 Q
abbrev tBM (K:FZ9)(T:String)(r:V->List V->Hp->VK->Prop)(to:TE)(t:TA):TE:=fun σ H Q=>to σ H fun x H1=>tyV K T x H1/\t σ H1 fun xs H2=>r x xs H2 Q
variable {o e:Expr}{es:List Expr}{to:TE}{t:TA}{name:Str}{apos cpos:Pos}{T id:String}{r:V->List V->Hp->VK->Prop}
theorem pe_bm0 (pa:PlainAttrs T)(slot:Slot T name id)(hty:typeOf (.builtin id)=pure (.type "method_descriptor"))(hm:MtR X id r)(ho:PE X o to)
  (hbase:attributeBase o name X.env (eval o X.env)=eval o X.env:=by rfl) (hline:(apos.endLine == cpos.line)=true:=by rfl):PE X (.Call (.Attribute o name apos) [] [] cpos) (tBM0 X.K T r to):=by
 intro pins s σ H Q I h;refine wpAny_Call_method0_late hbase hline (thn (ho pins s σ H _ I h) fun v s1 ⟨x,H1,I1,r1,ty,q1⟩=>?_);obtain ⟨h1,h2⟩:=tyV_is I1 r1 ty;exact ⟨T,id,pa,slot,hty,h1,h2,Calls.callWith_builtin rfl (PySem.evalArgs_none (hm pins s1 σ H1 x [] v [] Q I1 r1 .nil q1))⟩
theorem pe_bm (pa:PlainAttrs T)(slot:Slot T name id)(hty:typeOf (.builtin id)=pure (.type "method_descriptor"))(hm:MtR X id r)(ho:PE X o to)(ha:PA X (e::es) t)
  (hbase:attributeBase o name X.env (eval o X.env)=eval o X.env:=by rfl)
  (hfew:((backTo cpos (starEach (e::es) X.env)).all (fun x=>!x.1) && (backToKw cpos (keywordEach [] X.env)).all (fun x=>x.1.isSome)
   && decide ((e::es).length+([]:List Keyword).length+(if ([]:List Keyword).isEmpty then 0 else 1)<30))=true:=by rfl)
  (hline:(apos.endLine == cpos.line)=true:=by rfl) (hs:starEach (e::es) X.env=(false,eval e X.env)::starEach es X.env:=by rfl) (hplain:(backTo cpos (starEach es X.env)).any (·.1)=false:=by rfl) :
  PE X (.Call (.Attribute o name apos) (e::es) [] cpos) (tBM X.K T r to t):=by
 intro pins s σ H Q I h;refine wpAny_Call_method_late hbase hfew hline rfl (thn (ho pins s σ H _ I h) fun v s1 ⟨x,H1,I1,r1,ty,q1⟩=>?_);obtain ⟨h1,h2⟩:=tyV_is I1 r1 ty;refine ⟨T,id,pa,slot,hty,h1,h2,?_⟩;have hA:=ha cpos pins s1 σ H1 _ I1 q1;rw [hs] at hA ⊢;refine Calls.callWith_builtin (by show (false || (backTo cpos (starEach es X.env)).any (·.1))=false;rw [hplain]<;>rfl) (Calls.evalArgs_plain ?_);exact thn hA fun us s2 ⟨vs,H2,I2,r2,q2⟩=>hm pins s2 σ H2 x vs v us Q I2 r1 r2 q2
end
def MtM (X:Cx)(id:String)(r:V->List V->Hp->VK->Prop):Prop :=
 ∀ (pins:List (Addr × Obj)) (s:Shared) (σ:St) (H:Hp) (x:V) (xs:List V) (v:Value) (us:List Value) (Q:VK),Inv X pins σ H s->RelV x v->Vals xs us->r x xs H Q ->
  wpAny (model X.prog X.w) X.A (call (.builtin id) (v::us)) (EP X pins σ Q) X.xe s
theorem Vals.one:∀ {x:V}{us:List Value},Vals [x] us->∃ u,us=[u]/\RelV x u
 | _,_,.cons r .nil=>⟨_,rfl,r⟩
theorem Vals.zero:∀ {us:List Value},Vals [] us->us=[]
 | _,.nil=>rfl
theorem Vals.rep {xs:List V}{us:List Value}(h:Vals xs us):∀ k:Nat,Vals (List.replicate k xs).flatten (List.replicate k us).flatten
 | 0=>.nil
 | k+1=>by
  rw [List.replicate_succ,List.replicate_succ,List.flatten_cons,List.flatten_cons];exact Vals.append h (Vals.rep h k)
theorem FC (its:List Value):∀ (k:Nat) (acc:List Value),
  List.foldl (fun x1 x2=>x1++x2) acc.toArray (List.replicate k its.toArray)=(acc++(List.replicate k its).flatten).toArray
 | 0,acc=>by simp
 | k+1,acc=>by
  have e:acc.toArray++its.toArray=(acc++its).toArray:=by simp
  have e2:(acc++its)++(List.replicate k its).flatten=acc++(List.replicate (k+1) its).flatten:=by
   rw [List.replicate_succ,List.flatten_cons,qtA]
  rw [<- e2,<- FC its k (acc++its),<- e,List.replicate_succ,List.foldl_cons]
section
variable {X:Cx}{pins:List (Addr × Obj)}{σ:St}{H:Hp}{s:Shared}{l b:Addr}{xs ys zs:List V}
theorem Inv.lset {its its':List Value}{n:Nat}{f:Array Value->Array Value}{t':Nat}(I:Inv X pins σ H s)(hH:H l=some (.lst xs))
  (e:s.heap.get? l=some { cls:=.type "list",data:=.seq its.toArray n }) (hf:f its.toArray=its'.toArray) (hv:Vals ys its') (hz:ys.length<=sizeLine) :
  Inv X pins σ (upd H l (.lst ys)) { s with heap:=s.heap.update l (Obj.mapSeq f),toks:=t' }:=by
 have q:=PySem.IsL.update e f;rw [hf] at q;refine I.write (x:=l) (e:=l) (by rw [hH];exact trivial) (.inl rfl) (fun b' u hb hu=>(Heap.get?_update_other s.heap (Obj.mapSeq f) (Ne.symm hb)).trans hu) ⟨_,q⟩ ?_;exact ⟨hz,its',_,hv,q⟩
theorem Inv.lnew {its:List Value}{t':Nat}(I:Inv X pins σ H s)(hv:Vals ys its)(hz:ys.length<=sizeLine) :
  Inv X pins σ (upd H s.heap.objs.size (.lst ys)) { s with heap:=s.heap.push { cls:=.type "list",data:=.seq its.toArray },toks:=t' } :=
 I.laid (fun _ _ q=>qaB _ q) (qvA _) ⟨hz,its,0,hv,qbB _ rfl⟩
theorem Inv.fresh (I:Inv X pins σ H s):H s.heap.objs.size=none:=I.hok.fresh (qvA _)
theorem Inv.lstM (I:Inv X pins σ H s)(hH:H l=some (.lst xs)):xs.length<=sizeLine/\∃ (its:List Value) (n:Nat),Vals xs its/\xs.length=its.length/\s.heap.get? l=some { cls:=.type "list",data:=.seq its.toArray n }:=by
 obtain ⟨z,its,n,r,e⟩:=I.hok l _ hH;exact ⟨z,its,n,r,r.length,e⟩
theorem IM {n:Nat}(h:n<=sizeLine):Builtin.List.listTooLong n=false:=by
 unfold Builtin.List.listTooLong;exact decide_eq_false (by omega)
end
section
variable {X:Cx}
def Dw:V->List V->Hp->VK->Prop:=fun x vs H Q=>∃ l xs y,x = .ref l/\vs=[y]/\H l=some (.lst xs)/\xs.length<sizeLine/\Q .non (upd H l (.lst (xs++[y])))
theorem F7:MtM X "list.append" Dw:=by
 intro pins s σ H x vs v us Q I rx rv h;obtain ⟨l,xs,y,rfl,rfl,hH,hz,q⟩:=h;cases rx;obtain ⟨u,rfl,ru⟩:=rv.one;obtain ⟨z,its,n,r,hl,e⟩:=I.lstM hH;refine call_meets F.slot_list_append ⟨_,e,rfl⟩ F.entry_list_append (F.args_list_append_2 _ _) (PySem.list_append l its.toArray n u (by rw [qiB];omega)) ⟨e,?_⟩;refine ⟨.non,_,I.lset (its':=its++[u]) hH e (by simp) (r.append (.cons ru .nil)) ?_,rfl,q⟩;rw [qeA,qgA];omega
def rClear:V->List V->Hp->VK->Prop:=fun x vs H Q=>∃ l xs,x = .ref l/\vs=[]/\H l=some (.lst xs)/\Q .non (upd H l (.lst []))
theorem mt_clear:MtM X "list.clear" rClear:=by
 intro pins s σ H x vs v us Q I rx rv h;obtain ⟨l,xs,rfl,rfl,hH,q⟩:=h;cases rx;have hus:=rv.zero;subst hus;obtain ⟨z,its,n,r,hl,e⟩:=I.lstM hH;refine call_meets F.slot_list_clear ⟨_,e,rfl⟩ F.entry_list_clear (F.args_list_clear_1 _) (AutoSeq1.list_clear_list_0 l its.toArray n (by rw [qiB];omega)) ⟨e,?_⟩;exact ⟨.non,_,I.lset (its':=[]) (ys:=[]) hH e rfl .nil (qsB _),rfl,q⟩
def rRep:R2:=fun x y H Q=>∃ l k xs,x = .ref l/\y = .int k/\H l=some (.lst xs)/\-(2 ^ 63)<=k/\k<2 ^ 63/\xs.length * k.toNat<=sizeLine /\
 ∀ p,H p=none->Q (.ref p) (upd H p (.lst (List.replicate k.toNat xs).flatten))
theorem Hg {α:Type}(xs:List α)(k:Nat):(List.replicate k xs).flatten.length=k * xs.length:=by
 induction k with
 | zero=>simp
 | succ k ih=>rw [List.replicate_succ,List.flatten_cons,qeA,ih,Nat.succ_mul,Nat.add_comm]
theorem op_rep:OpR X (binaryOp .Mult) rRep:=by
 intro pins s σ H x y v u Q I rx ry h;obtain ⟨l,k,xs,rfl,rfl,hH,h1,h2,hz,q⟩:=h;cases rx;obtain ⟨t,rfl⟩:=ry;obtain ⟨z,its,n,r,hl,e⟩:=I.lstM hH;have hlen:its.toArray.size * k.toNat<=sizeLine:=by rw [qiB,<- hl];exact hz
 have hcap:¬ its.toArray.size * k.toNat > (2 ^ 63 - 1) / 8:=by
  have:(sizeLine:Nat)<=(2 ^ 63 - 1) / 8:=by decide
  omega
 have hfit:¬ (!Builtin.List.listFitsIndex k)=true:=by
  rw [fitsIndex_both h1 h2];exact qhB
 have hlong:¬ Builtin.List.listTooLong (its.toArray.size * k.toNat)=true:=by
  rw [IM hlen];exact qhB
 have hnew:List.foldl (fun x1 x2=>x1++x2) #[] (List.replicate (if its.toArray.isEmpty=true then 0 else k.toNat) its.toArray)=(List.replicate k.toNat its).flatten.toArray:=by
  have f0:∀ m:Nat,List.foldl (fun x1 x2=>x1++x2) #[] (List.replicate m its.toArray)=(List.replicate m its).flatten.toArray:=fun m=>by
   have:=FC its m [];rw [List.nil_append] at this;exact this
  rw [f0]
  cases its with
  | nil=>simp
  | cons a r'=>rw [if_neg (by simp)]
 refine wpAny_binaryOp_repeat_ref (T := "list") (U := "int") (by decide) ⟨_,e,rfl⟩ (fun s'=>typeIs_int s' k t) noFill_list_mul F.fills_int_mul F.slot_int_rmul repeat_list F.slot_int_index.lookup
  (call_meets F.slot_int_rmul (typeIs_int s k t) F.entry_int_rmul (F.args_int_rmul_2 _ _) (int___rmul___int_list k t l its.toArray n)
   ⟨e,rfl,⟨_,e,rfl⟩,call_meets F.slot_list_mul ⟨_,e,rfl⟩ F.entry_list_mul (F.args_list_mul_2 _ _) (AutoListH.list___mul___list_int_3 l its.toArray n k t hfit hcap hlong) ⟨e,?_⟩⟩)
 rw [hnew];exact ⟨.ref _,_,I.lnew (t':=s.toks) (r.rep k.toNat) (by rw [Hg,Nat.mul_comm];exact hz),rfl,q _ I.fresh⟩
end
end L2
namespace Att
open PySem PySem.W PySem.Calls PyProof.Rows
theorem FQ {P:Params}{h:Heap}:∀ (ns:List Int) (vs:List Value),WellAll P h vs (ns.map WData.int)->IntsAre vs ns:=by
 intro ns
 induction ns with
 | nil =>
  intro vs w;rw [List.map_nil] at w;cases w;exact .nil
 | cons n ns ih =>
  intro vs w;rw [qsA] at w
  cases w with
  | cons a b =>
   cases a;exact .cons _ _ (ih _ b)
theorem KT {l:OpenLaw}{n:Nat}(hn:l.most=some n){P:Params}{h:Heap}{args:List WData}{vals:List Value}
  (hpre:l.row.toRowW.claim.pre args=true) (hwl:WellAll P h vals args) :
  ∃ a vs ns,vals=[Value.ref a]/\args=[WData.list (ns.map WData.int)]/\h.get? a=some { cls:=.type "list",data:=.seq vs.toArray }/\IntsAre vs ns/\ns.length<=n:=by
 have hsh:WShape.hasAll [] args [.list .int]=true:=(pre_splitW hpre).1;have hc:l.pre.holds [] { args:=args }=true:=(pre_splitW hpre).2;obtain ⟨d,r,rfl,h1,h2⟩:=hasAllW_cons hsh;obtain rfl:=hasAllW_nil h2;obtain ⟨xs,rfl,h3⟩:=hasW_list h1;obtain ⟨ns,rfl⟩:=items_int h3
 have hlen:ns.length<=n:=by
  unfold OpenLaw.pre at hc
  have h4:(WTm.not (.lt (.lit (.int (n:Int))) (.len (.arg 0)))).holds [] { args:=[.list (ns.map .int)] }=true:=by
   have h4:=(holds_andW hc).1;rw [hn] at h4;exact h4
  have h5:=condW_of h4 (w_not (w_lt w_lit (w_len_list (w_arg rfl))));rw [qdA] at h5;refine Nat.le_of_not_lt fun q=>?_;have q':(n:Int)<((ns.length:Nat):Int):=by omega
  first
   | (rw [decide_eq_true q'] at h5;exact absurd h5 (by decide))
   | (simp at h5;omega)
 cases hwl with
 | cons w1 w2 =>
  cases w2
  cases w1 with
  | list ho hall=>exact ⟨_,_,ns,rfl,rfl,ho,FQ ns _ hall,hlen⟩
theorem KU (l:OpenLaw)(args:List WData):l.row.toRowW.claim.post args (.bool true) args=true :=
 postW_of (r:=l.row.toRowW) (X:=(true == true))
  (show WShape.has [] (.bool true) .bool=true by first|rfl|decide|simp [WShape.has,WShape.arms,WShape.armsAll])
  (show (WTm.eq .res (.lit (.bool true))).value [] { args:=args,res:=some (.bool true),after:=args }=some (.bool (true == true)) from w_eq_bool (w_res rfl) w_lit) rfl
theorem attach_call {l:OpenLaw}{n:Nat}{q:Program}{loose:List Str}{XP:(Str->Option Value)->Heap->Prop}{YP:World->Heap->Prop}{d:DefRec}
  (hn:l.most=some n) (hdf:d.params.defaults=[])
  (call:∀ (w:World) (s₀ s₁:Shared) (mg mb:Str->Option Value) (fa:Addr) (o:Obj) (pm cd doc:Value) (a:Addr) (vs:List Value) (ns:List Int),
   Ground q loose [] XP w s₀ mg mb s₁.heap->YP w s₁.heap ->
   s₁.heap.get? fa=some o->o.data = .func (docDef d.name d.params d.body d.scope pm cd doc)->s₁.heap.CodeRec cd d.name->mg d.name=some (.ref fa) ->
   s₁.heap.get? a=some { cls:=.type "list",data:=.seq vs.toArray }->IntsAre vs ns->ns.length<=n->s₁.gens = #[] ->
   codeAny (model l.prog w) callerA (.call (.ref fa) ⟨[.ref a],[]⟩) (fun r s'=>r = .ok (.ret (.bool true))/\OldK s₁.heap s'.heap/\s'.os=s₁.os/\AllBare s'.gens) s₁) :
  WalkO q loose XP YP l.row.toRowW d [] (fun f vs=>PySem.call f vs):=by
 intro w s₀ s₁ mg mb G Y fa o pm cd doc dV kV ho hd hcd hD hmg hg args vals as hpre hlay hrd hwl hlo;obtain rfl:dV = .none:=Dflts.none hD hdf;obtain rfl:kV = .none:=Dflts.noKw hD;obtain ⟨a,vs,ns,rfl,rfl,hobj,hints,hlen⟩:=KT hn hpre hwl;refine enter_call (codeAny_mono (call w s₀ s₁ mg mb fa o pm cd doc a vs ns G Y ho (fd_plain hd) hcd hmg hobj hints hlen hg) fun r s' hq=>?_);obtain ⟨rfl,h2,h3,h4⟩:=hq;exact ⟨.inl ⟨.bool true,.bool true,[],rfl,fun _=>rfl,.bool true,KU l _,fun _=>⟨List.Pairwise.nil,fun _ hm=>(nomatch hm)⟩⟩,h2,h3,h4⟩
end Att
namespace L2
open PySem PySem.Spec PyProof.Rows
theorem Gw:∀ {vs:List Value}{ns:List Int},IntsAre vs ns->Vals (ns.map V.int) vs
 | _,_,.nil=>.nil
 | _,_,.cons n t h=>.cons ⟨t,rfl⟩ (Gw h)
def Only (H:Hp):Prop:=∀ b,H b=none\/∃ o xs,H b=some (.frz o (.lst xs))
theorem law_call {P:Program}{w:World}{K:FZ9}{mg mb:Str->Option Value}{CX:CXT}{k:Nat}{fa a:Addr}{fd:FuncData}{x:Str}{sp:Sp}{s₁:Shared}{vs:List Value}{ns:List Int}
  (KX:K.In s₁.heap) (hns:s₁.heap.Ns mainGlobals mg) (hb:s₁.heap.Ns builtinsNs mb) (hbb:∀ x:Str,x ≠ "__name__" -> mb x=bootBuiltins x) (hlim:s₁.heap.NoLimit) (hg:s₁.gens = #[])
  (ha:s₁.heap.get? a=some { cls:=.type "list",data:=.seq vs.toArray }) (hi:IntsAre vs ns) (hl:ns.length<=sizeLine) (hr:Room k callerA)
  (F:∀ base:Heap,K.In base->base.Ns mainGlobals mg->FnOk P w K mg base CX k fa fd [x] sp) (hbind:∀ (s:Shared) (u:Value),BindsTo s fd ⟨[u],[]⟩ [(x,u)])
  (hsp:∀ H:Hp,Only H->SqL K H a (ns.map V.int)->sp [.ref a] H (fun v _=>v = .bl true) fun _ _ _=>False)
  (hCX:∀ H e s',CX [] H s₁ (fun _ _ _=>False) e s'->False) :
  codeAny (model P w) callerA (.call (.ref fa) ⟨[.ref a],[]⟩) (fun r s'=>r = .ok (.ret (.bool true))/\OldK s₁.heap s'.heap/\s'.os=s₁.os/\AllBare s'.gens) s₁:=by
 have rv:=Gw hi;have lenV:=hi.length
 have core:∀ H:Hp,Only H->SqL K H a (ns.map V.int)->HOk P w H s₁.heap->(∀ b,H b≠none->b=a)->(H a≠none->K.lookup a=none) ->
   codeAny (model P w) callerA (.call (.ref fa) ⟨[.ref a],[]⟩) (fun r s'=>r = .ok (.ret (.bool true))/\OldK s₁.heap s'.heap/\s'.os=s₁.os/\AllBare s'.gens) s₁:=by
  intro H hO hS hok hA hK;have base_of:∀ {b:Addr}{o:Obj},s₁.heap.get? b=some o->H b=none->(HZ s₁.heap H).get? b=some o:=fun e n=>hidT_get e n
  have noA:∀ {b:Addr}{o:Obj}{es:Array DictEntry}{ep:Nat},s₁.heap.get? b=some o->o.data = .dict es ep->H b=none:=fun {b o es ep} e d=>by
   cases q:H b with
   | none=>rfl
   | some u =>
    have e':b=a:=hA b (by rw [q];simp);subst e';rw [ha] at e;cases e;have d':Data.seq vs.toArray _=Data.dict es ep:=d;cases d'
  have nsK:∀ {b:Addr}{m:Str->Option Value},s₁.heap.Ns b m->(HZ s₁.heap H).Ns b m:=fun {b m} ⟨o,es,ep,e,d,r⟩=>⟨o,es,ep,base_of e (noA e d),d,r⟩
  have hKb:K.In (HZ s₁.heap H):=fun b o e=>base_of (KX b o e) (by
   cases q:H b with
   | none=>rfl
   | some u =>
    have e':b=a:=hA b (by rw [q];simp);subst e'
    rw [hK (by rw [q];simp)] at e;cases e)
  have hM:Mod K mg (HZ s₁.heap H):=⟨hKb,nsK hns,⟨mb,nsK hb,hbb⟩,let ⟨mc,h1,h2⟩:=hlim;⟨mc,nsK h1,h2⟩⟩;have e0:Env0 P w K mg (HZ s₁.heap H) callerA [] s₁ H:=⟨rfl,hM,fun b o e=>of_hidT e,Nat.le_of_eq (K5 _ _),trivial,fun b hb=>absurd (show b∈([]:List Addr) from hb) (by simp),hok,.of_eq hg⟩;refine codeAny_mono ((F _ hKb (nsK hns)).run callerA [] s₁ H ⟨[.ref a],[]⟩ [.ref a] [.ref a] _ _ hr e0 (hbind s₁ (.ref a)) (.cons rfl .nil) (hsp H hO hS)) fun r s' h=>?_
  cases r with
  | error e=>exact (hCX H e s' h).elim
  | ok fl =>
   cases fl with
   | next=>exact False.elim h
   | brk=>exact False.elim h
   | cont=>exact False.elim h
   | ret u =>
    obtain ⟨v,H',os,bare,un,hok',r',q⟩:=h;have q':v = .bl true:=q;subst q';obtain rfl:u=Value.bool true:=r';refine ⟨rfl,OldK.of_keep fun b o e=>?_,os,bare⟩
    cases q:H b with
    | none=>exact un.keep b o e q (by intro z;exact absurd (show b∈([]:List Addr) from z) (by simp)) (by simp)
    | some u =>
     rcases hO b with z | ⟨ob,xs,z⟩
     ·rw [q] at z;cases z
     ·have z2:=un.frzs b ob _ z;obtain ⟨e1,_⟩:=hok b _ z;obtain ⟨e2,_⟩:=hok' b _ z2;rw [e] at e1;cases e1;exact e2
 cases hk:K.lookup a with
 | some o =>
  have e:=KX a o hk;rw [ha] at e;cases e;refine core (fun _=>none) (fun _=>.inl rfl) (.inr ⟨_,vs.toArray,_,hk,rfl,rfl,rfl,by rw [qiB,lenV];exact hl,by simpa using rv⟩) (fun b u z=>by have z':(none:Option HO)=some u:=z;cases z') (fun b z=>absurd rfl z) fun z=>absurd rfl z
 | none =>
  refine core (fun b=>if b=a then some (.frz { cls:=.type "list",data:=.seq vs.toArray } (.lst (ns.map V.int))) else none) (fun b=>?_) (.inl (.inr ⟨{ cls:=.type "list",data:=.seq vs.toArray },if_pos rfl⟩)) (fun b u z=>?_) (fun b z=>?_) fun _=>hk
  ·by_cases hb:b=a
   ·exact .inr ⟨_,_,if_pos hb⟩
   ·exact .inl (if_neg hb)
  ·by_cases hb:b=a
   ·have z':=(if_pos hb).symm.trans z;cases z';subst hb;exact ⟨ha,by rw [qdA];exact hl,vs,_,rv,ha⟩
   ·have z':=(if_neg hb).symm.trans z;cases z'
  ·by_cases hb:b=a
   ·exact hb
   ·exact absurd (if_neg hb) z
theorem walk_of {l:PySem.W.OpenLaw}{n k:Nat}{q:Program}{loose:List Str}{XP:(Str->Option Value)->Heap->Prop}{YP:World->Heap->Prop}{d:DefRec}{K:Params->FZ9}{CX:World->CXT}{sp:World->Sp}{x:Str}
  (hn:l.most=some n) (hn2:n<=sizeLine) (hdf:d.params.defaults=[]) (hr:Room k callerA)
  (hY:∀ (w:World) (h:Heap),YP w h->(K w.params).In h)
  (F:∀ (w:World) (mg:Str->Option Value) (fa:Addr) (h:Heap),(K w.params).In h->h.Ns mainGlobals mg->mg d.name=some (.ref fa) ->
   ∃ fd:FuncData,(∀ (s:Shared) (u:Value),BindsTo s fd ⟨[u],[]⟩ [(x,u)]) /\
    ∀ base:Heap,(K w.params).In base->base.Ns mainGlobals mg->FnOk l.prog w (K w.params) mg base (CX w) k fa fd [x] (sp w))
  (hsp:∀ (w:World) (H:Hp) (a:Addr) (ns:List Int),ns.length<=n->Only H->SqL (K w.params) H a (ns.map V.int)->sp w [.ref a] H (fun v _=>v = .bl true) fun _ _ _=>False)
  (hCX:∀ (w:World) (H:Hp) (s:Shared) (e:Value) (s':Shared),CX w [] H s (fun _ _ _=>False) e s'->False) :
  PySem.W.WalkO q loose XP YP l.row.toRowW d [] (fun f vs=>PySem.call f vs):=by
 refine Att.attach_call hn hdf fun w s₀ s₁ mg mb fa o pm cd doc a vs ns G Y ho hd hcd hmg hobj hints hlen hg=>?_;have KX:=hY w _ Y;obtain ⟨fd,hb,hF⟩:=F w mg fa _ KX G.T.g hmg;exact law_call KX G.T.g G.T.b G.T.builtins G.T.nolimit hg hobj hints (qwA hlen hn2) hr hF hb (fun H hO hS=>hsp w H a ns hlen hO hS) fun H e s'=>hCX w H s₁ e s'
def Co (s:Stmt):Arguments:=match s with
 | .FunctionDef _ a _ _ _ _ _ _ _ _=>a
 | _=>{ posonlyargs:=[],args:=[],vararg:=none,kwonlyargs:=[],kw_defaults:=[],kwarg:=none,defaults:=[] }
def BU (s:Stmt):List Stmt:=match s with
 | .FunctionDef _ _ b _ _ _ _ _ _ _=>b
 | _=>[]
def AA (s:Stmt):Scope:=match s with
 | .FunctionDef _ _ _ _ _ _ sc _ _ _=>sc
 | _=>{ kind:=.function,names:=[],isGenerator:=false,isCoroutine:=false }
abbrev CX0:CXT:=fun _ _ _ _ _ _=>False
abbrev E0:XK:=fun _ _ _=>False
theorem pass0 {X:Cx}:J0 CX0 X E0:=fun _ _ _ _ _ _ _ h=>h.elim
structure Fun (K:FZ9)(x qual:Str)(st:Stmt)(f:Addr)(fd:FuncData):Prop where
 ex:∃ (oc:Value) (od:Option Addr) (kV doc pm:Value) (an:Option Addr) (cdv ct:Value) (osl:Array (Option Value)),
  fd=qnB x qual (Co st) (BU st) (AA st) .none kV doc pm an cdv ct/\K.lookup f=some ⟨oc,od,.func fd,osl⟩/\PySem.W.codeIn K cdv qual=true
 kp:qmB K (.ref f)=true
section
variable {P:Program}{w:World}{K:FZ9}{mg:Str->Option Value}{base:Heap}
theorem Fun.ok {x qual:Str}{st:Stmt}{f:Addr}{fd:FuncData}{N ps:List Str}{k:Nat}{sp:Sp}(F:Fun K x qual st f fd)(S:FnScope N ps (AA st))(len:∀ vs H Q E,sp vs H Q E->vs.length=ps.length)
  (hbody:∀ (cdv:Value) (A:Around) (outer:List Env) (s:Shared) (H:Hp) (vs:List V) (Q:VK) (E:XK),Room k (A.deeper (envOfC qual (AA st) s.heap.objs.size f cdv))->sp vs H Q E ->
   ∃ t,PSs (F1 CX0 P w K mg base N qual (AA st) f cdv A outer s H E).nox (BU st) t/\t { nx:=fun _ H'=>Q .non H',rt:=Q } (start N vs) H):FnOk P w K mg base CX0 (k+1) f fd ps sp:=by
 obtain ⟨oc,od,kV,doc,pm,an,cdv,ct,osl,rfl,lk,hcd⟩:=F.ex;refine fn_of lk hcd S len fun A outer s H vs Q E hr hsp=>?_;obtain ⟨t,h,q⟩:=hbody cdv A outer s H vs Q E hr hsp;exact ⟨t,h.nox,q⟩
theorem Fun.binds {x qual:Str}{st:Stmt}{f:Addr}{fd:FuncData}{ps:List Str}(F:Fun K x qual st f fd)
  (h:∀ (kV doc pm:Value) (an:Option Addr) (cdv ct:Value) (us:List Value),us.length=ps.length->bindArgs (qnB x qual (Co st) (BU st) (AA st) .none kV doc pm an cdv ct) ⟨us,[]⟩=pure (ps.zip us)):Binds K fd ps []:=by
 obtain ⟨oc,od,kV,doc,pm,an,cdv,ct,osl,rfl,lk,hcd⟩:=F.ex;exact .all (h kV doc pm an cdv ct)
theorem fun_mk {x qual:Str}{st:Stmt}{f:Addr}{oc:Value}{od an:Option Addr}{osl:Array (Option Value)}{kV doc pm cdv ct:Value}(l:K.lookup f=some ⟨oc,od,.func (qnB x qual (Co st) (BU st) (AA st) .none kV doc pm an cdv ct),osl⟩)
  (c:PySem.W.codeIn K cdv qual=true) (k:qmB K (.ref f)=true):Fun K x qual st f (qnB x qual (Co st) (BU st) (AA st) .none kV doc pm an cdv ct):=⟨⟨oc,od,kV,doc,pm,an,cdv,ct,osl,rfl,l,c⟩,k⟩
end
section
variable {X:Cx}
theorem pv (i:Nat){x:Str}{pos:Pos}(hN:X.N[i]? = some x:=by rfl)(hv:Vis X.env.scope x:=by first|exact Or.inl rfl|exact Or.inr (Or.inl rfl)|exact Or.inr (Or.inr rfl))(hd:(x == ("__debug__" : Str))=false:=by decide)
  (hcd:(x == ("__classdict__" : Str))=false:=by decide):PE X (.Name x pos) (GG i):=pe_var hN hv hd hcd
end
theorem B8 {A B:Prop}(h:B):if false=true then A else B:=by
 rw [if_neg qhB];exact h
theorem B7 {A B:Prop}(h:A):if true=true then A else B:=by
 rw [if_pos rfl];exact h
def Same (H H':Hp):Prop:=∀ b o,H b=some o->H' b=some o
theorem Same.refl (H:Hp):Same H H:=fun _ _ h=>h
theorem Same.trans {H H1 H2:Hp}(a:Same H H1)(b:Same H1 H2):Same H H2:=fun c o h=>b c o (a c o h)
theorem Same.free {H H':Hp}(e:Same H H'){l:Addr}(h:H' l=Option.none):H l=Option.none:=by
 cases q:H l with
 | none=>rfl
 | some o =>
  rw [e l o q] at h;cases h
theorem Same.seq {K:FZ9}{H H':Hp}{a:Addr}{xs:List V}(e:Same H H')(h:SqL K H a xs):SqL K H' a xs:=by
 rcases h with (h | ⟨o,h⟩)|h
 ·exact .inl (.inl (e _ _ h))
 ·exact .inl (.inr ⟨o,e _ _ h⟩)
 ·exact .inr h
section
variable {X:Cx}{pins:List (Addr × Obj)}{σ:St}{H:Hp}{s:Shared}{a:Addr}{y v:V}{u r:Value}{o:Option V}{A:Around}{E:Value->Shared->Prop}
theorem Inv.big (I:Inv X pins σ H s):sysModules<s.heap.objs.size:=by
 have h:mainGlobals<s.heap.objs.size:=(I.mod.glob.keeps I.bk).lt;exact Nat.lt_trans (by decide) h
end
theorem dk_empty {P:Program}{w:World}{H:Hp}(h:Heap)(hb:sysModules<h.objs.size):ObjOk P w H (h.push { cls:=.type "dict",data:=.dict #[] }) h.objs.size (.dK []) :=
 ⟨qsB _,beq_eq_false_iff_ne.mpr (Ne.symm (qpB hb)),[],.nil,Heap.DictOf.new h⟩
def tDNewK:TE:=fun _ H Q=>∀ p,H p=none->Q (.ref p) (upd H p (.dK []))
section
variable {X:Cx}{pos:Pos}
theorem pe_dnewK:PE X (.Dict [] [] pos) tDNewK:=fun pins s σ H Q I h =>
 wpAny_Dict_empty ⟨.ref s.heap.objs.size,_,I.laid (a:=s.heap.objs.size) (o:=.dK []) (t':=s.toks) (fun _ _ q=>qaB _ q) (qvA _) (dk_empty s.heap I.big),rfl,h _ (I.hok.fresh (qvA _))⟩
end
theorem len_app (x y:Str):(x++y).length=x.length+y.length:=by
 show (x.cps++y.cps).size=_;rw [Array.size_append]
 rfl
theorem sing_lt (a b:Nat):([a] < [b]) ↔ a<b:=by
 rw [List.cons_lt_cons_iff];simp
def Dz (scope:Scope)(env:Env):List (Str × Addr) :=
 (scope.names.filterMap fun p=>if p.2 == NameKind.free then (env.cells.lookup p.1).map fun c=>(p.1,c) else none).reverse
theorem DN {env:Env}:∀ (names:List (Str × NameKind)) (acc:List (Str × Addr)),(∀ y∈names,y.2 = .free->∃ c,env.cells.lookup y.1=some c) ->
  (forIn names acc fun (x:Str × NameKind) (cs:List (Str × Addr))=>(match x with
   | (name,kind)=>if (kind == NameKind.free)=true then do
     let c <- cellOf env name
     pure (ForInStep.yield ((name,c)::cs))
    else pure (ForInStep.yield cs):Sem (ForInStep (List (Str × Addr))))) =
   pure ((names.filterMap fun p=>if p.2 == NameKind.free then (env.cells.lookup p.1).map fun c=>(p.1,c) else none).reverse++acc)
 | [],acc,_=>rfl
 | (n,k)::r,acc,h=>by
  rw [List.forIn_cons];by_cases hk:k = .free
  ·subst hk;obtain ⟨c,hc⟩:=h (n,.free) qkA rfl;have e1:cellOf env n=pure c:=by unfold cellOf;rw [hc]
   have ih:=DN r ((n,c)::acc) fun y hy=>h y (qmA _ hy);simp only [beq_self_eq_true,if_true,e1,pure_bind,List.filterMap_cons,hc,Option.map_some,List.reverse_cons,qtA,List.singleton_append];exact ih
  ·have hb:(k == NameKind.free)=false:=by simpa using hk
   have ih:=DN r acc fun y hy=>h y (qmA _ hy);simp only [hb,Bool.false_eq_true,if_false,pure_bind,List.filterMap_cons];exact ih
theorem GZ {scope:Scope}{env:Env}(h:∀ y∈scope.names,y.2 = .free->∃ c,env.cells.lookup y.1=some c):closureFor scope env=pure (Dz scope env):=by
 have e:=DN (env:=env) scope.names [] h;unfold closureFor;rw [quA] at e;exact (congrArg (· >>= pure) e).trans (by rfl)
theorem clOf_mem {scope:Scope}{env:Env}{y:Str}{c:Addr}(h:(y,c)∈Dz scope env):(y,NameKind.free)∈scope.names/\env.cells.lookup y=some c:=by
 unfold Dz at h;obtain ⟨⟨n,k⟩,hp,e⟩:=List.mem_filterMap.mp (List.mem_reverse.mp h);by_cases hk:k = .free
 ·subst hk;simp only [beq_self_eq_true,if_true] at e
  cases hc:env.cells.lookup n with
  | none=>rw [hc] at e;cases e
  | some c' =>
   rw [hc] at e;have e':(n,c')=(y,c):=qyA e;cases e';exact ⟨hp,hc⟩
 ·have hb:(k == NameKind.free)=false:=by simpa using hk
  simp only [hb,Bool.false_eq_true,if_false] at e;cases e
theorem D9 {scope:Scope}{env:Env}{y:Str}{c:Addr}(h:(Dz scope env).lookup y=some c):env.cells.lookup y=some c:=(clOf_mem (PySem.mem_of_lookup h)).2
theorem E4 {α:Type}{y:Str}:∀ {l:List (Str × α)}{c:α},(y,c)∈l->∃ c',l.lookup y=some c'
 | (n,a)::r,c,h=>by
  by_cases e:y=n
  ·subst e;exact ⟨a,by simp [List.lookup_cons]⟩
  ·have hb:(y == n)=false:=by simpa using e
   rcases qhA.mp h with h|h
   ·cases h;exact absurd rfl e
   ·obtain ⟨c',h'⟩:=E4 h;exact ⟨c',by simp [List.lookup_cons,hb,h']⟩
theorem IS {scope:Scope}{env:Env}{y:Str}{c:Addr}(h1:(y,NameKind.free)∈scope.names)(h2:env.cells.lookup y=some c):(Dz scope env).lookup y=some c:=by
 have m:(y,c)∈Dz scope env:=by
  unfold Dz;exact List.mem_reverse.mpr (List.mem_filterMap.mpr ⟨(y,.free),h1,by simp [h2]⟩)
 obtain ⟨c',h'⟩:=E4 m;have:=D9 h';rw [h2] at this;cases this;exact h'
theorem Hu {scope:Scope}{env:Env}(hcell:∀ y∈scope.names,y.2 ≠ .cell){y:Str}(h:(relabel scope env).names.lookup y=some .cell\/(relabel scope env).names.lookup y=some .free):(y,NameKind.free)∈scope.names:=by
 have m:∃ k,(k = .cell\/k = .free)/\(y,k)∈(relabel scope env).names:=by
  rcases h with h|h
  ·exact ⟨_,.inl rfl,PySem.mem_of_lookup h⟩
  ·exact ⟨_,.inr rfl,PySem.mem_of_lookup h⟩
 obtain ⟨k,hk,hm⟩:=m;unfold relabel at hm;obtain ⟨⟨n,k'⟩,hp,e⟩:=qiA.mp hm;dsimp only at e;by_cases hf:k' = .free
 ·subst hf;split at e<;>(cases e;exact hp)
 ·have hb:(k' == NameKind.free)=false:=by simpa using hf
  rw [hb,Bool.false_and,Bool.false_and,if_neg (by decide)] at e;cases e;rcases hk with hk|hk
  ·exact absurd hk (hcell _ hp)
  ·exact absurd hk hf
def Al (X:Cx)(N:List Str)(scope:Scope)(C:Addr)(s:Shared)(H:Hp)(fp:List Addr):Cx where
 prog:=X.prog
 w:=X.w
 K:=X.K
 mg:=X.mg
 base:=X.base
 A:=X.A
 N:=N
 s₀:=s
 H₀:=H
 env:=compEnvC scope (Dz scope X.env) C X.env
 outer:=X.stack
 stack:=X.stack
 ex:=fp
 fn:=fun _=>false
 calm:=true
 pn:=[]
 xe:=fun _ _=>False
def Caps (X:Cx)(scope:Scope):List Str->List Nat->Prop
 | [],[]=>True
 | x::xs,i::is=>(X.N[i]? = some x/\(X.env.scope.names.lookup x=some .cell\/X.env.scope.names.lookup x=some .free)/\scope.names.lookup x=some .free)/\Caps X scope xs is
 | _,_=>False
theorem Caps.len {X:Cx}{scope:Scope}:∀ {xs:List Str}{is:List Nat},Caps X scope xs is->is.length=xs.length
 | [],[],_=>rfl
 | _::_,_::_,h=>congrArg (· + 1) (Caps.len h.2)
 | [],_::_,h=>h.elim
 | _::_,[],h=>h.elim
theorem Caps.at {X:Cx}{scope:Scope}:∀ {xs:List Str}{is:List Nat}{j:Nat}{x:Str},Caps X scope xs is->xs[j]? = some x->∃ i,is[j]? = some i/\X.N[i]? = some x/\(X.env.scope.names.lookup x=some .cell\/X.env.scope.names.lookup x=some .free)/\scope.names.lookup x=some .free
 | [],[],_,_,_,e=>by simp at e
 | y::_,i::_,0,x,h,e=>by
  simp at e;subst e;exact ⟨i,rfl,h.1⟩
 | _::xs,_::is,j+1,x,h,e=>by
  obtain ⟨i,h1,h2⟩:=Caps.at (j:=j) h.2 (by simpa using e);exact ⟨i,by simpa using h1,h2⟩
 | [],_::_,_,_,h,_=>h.elim
 | _::_,[],_,_,h,_=>h.elim
def BB (cap:List Nat)(σ:St):St:=none::cap.map fun i=>(σ[i]?).join
def PTs (X:Cx)(ifs:List Expr)(t:TT):Prop :=
 ∀ (pins:List (Addr × Obj)) (s:Shared) (σ:St) (H:Hp) (Q:Bool->Hp->Prop),Inv X pins σ H s->t σ H Q ->
  wpAny (model X.prog X.w) X.A (forIn ifs true fun c r=>if r=true then do let ok <- isTrue c X.env (eval c X.env);pure (ForInStep.yield ok) else pure (ForInStep.yield r)) (TP X pins σ Q) X.xe s
def KI:TT:=fun _ H Q=>Q true H
theorem CV {X:Cx}:PTs X [] KI:=fun _ _ _ H _ I h=>wpAny_tests_nil ⟨H,I,h⟩
theorem Hm {prog:Program}{w:World}{A:Around}{R:Result->Shared->Prop}{s:Shared}{elt target iter:Expr}{ifs:List Expr}{scope:Scope}{pos:Pos}{it acc:Value}{env:Env}(I:Nat->Shared->Prop)
  (turn:∀ n s,I n s->wpAny (model prog w) A (pyNext it) (fun r s₁=>match r with
   | none=>R (.ok .next) s₁
   | some v=>wpAny (model prog w) A (letOwnedTupleGo target it v) (fun _ s₁'=>wpAny (model prog w) A (assign target env v) (fun _ s₂ =>
     wpAny (model prog w) A (forIn ifs true fun c r=>if r=true then do let ok <- isTrue c env (eval c env);pure (ForInStep.yield ok) else pure (ForInStep.yield r)) (fun ok s₃ =>
      if ok=true then wpAny (model prog w) A (eval elt env) (fun x s₄ =>
       wpAny (model prog w) A (call (.builtin "list.append") [acc,x]) (fun _ s₅=>∃ m,m<n/\I m s₅) (fun _ _=>False) s₄) (fun _ _=>False) s₃
      else ∃ m,m<n/\I m s₃) (fun _ _=>False) s₂) (fun _ _=>False) s₁') (fun _ _=>False) s₁) (fun _ _=>False) s)
  (n:Nat) (h:I n s) :
  codeAny (model prog w) A (.compLoop (.ListComp elt [⟨target,iter,ifs,0⟩] scope pos) 0 it acc env) R s:=by
 refine codeAny_loop rfl I (fun n s hI=>?_) n h;show wpAny _ A ((compTurn (.ListComp elt [⟨target,iter,ifs,0⟩] scope pos) 0 it acc env).onRaise (fun x=>do noteFrame x env;theTreesLotGoes x)) _ _ s;refine wpAny_noted ?_;rw [compTurn_list];refine qbA (wpAny_standAt (qbA (wpAny_mono (turn n s hI) (fun r s₁ h₁=>?_) fun _ _ h'=>h'.elim)))
 cases r with
 | none=>exact qcA h₁
 | some v =>
  refine qbA (wpAny_mono h₁ (fun _ s₁' h₁'=>?_) fun _ _ h'=>h'.elim);refine qbA (wpAny_mono h₁' (fun _ s₂ h₂=>qbA (wpAny_mono h₂ (fun ok s₃ h₃=>?_) fun _ _ h'=>h'.elim)) fun _ _ h'=>h'.elim)
  cases ok with
  | false=>exact qcA ⟨rfl,h₃⟩
  | true =>
   exact qbA (qbA (wpAny_mono h₃ (fun x s₄ h₄=>qbA (wpAny_mono h₄ (fun _ s₅ h₅=>qcA (qcA ⟨rfl,h₅⟩)) fun _ _ h'=>h'.elim)) fun _ _ h'=>h'.elim))
def Gz (cap:List Nat)(wi:TI)(tc:TT)(te:TE):TE:=fun σ H Q=>wi σ H fun J H1=>∀ p,H1 p=none ->
 ∃ W:Nat->Nat->List V->Hp->Prop,(∃ m,W 0 m [] (upd H1 p (.lst [])))/\∀ i m xs H2,W i m xs H2 ->
  (J.stop i H2/\Q (.ref p) H2)\/(J.go i H2/\∃ N:List V->Hp->Prop,(∀ xs' H',N xs' H'->∃ m',m'<m/\W (i+1) m' xs' H') /\
   ∀ x H3,J.yld i H2 x H3->tc ((BB cap σ).set 0 (some x)) H3 fun b H5=>if b=true then te ((BB cap σ).set 0 (some x)) H5 fun v H6=>H6 p=some (.lst xs)/\xs.length<sizeLine/\N (xs++[v]) (upd H6 p (.lst (xs++[v]))) else N xs H5)
section
variable {X:Cx}{pins:List (Addr × Obj)}{σ:St}
structure CompScope (X:Cx)(scope:Scope):Prop where
 cell:∀ y∈scope.names,y.2 ≠ .cell
 kind:scope.kind = .function
 names:∀ y∈scope.names,y.2 = .local -> scope.names.lookup y.1=some .local
 free:∀ y∈scope.names,y.2 = .free->X.env.scope.names.lookup y.1=some .cell\/X.env.scope.names.lookup y.1=some .free
theorem CompScope.clos {scope:Scope}{H:Hp}{s:Shared}(S:CompScope X scope)(I:Inv X pins σ H s):closureFor scope X.env=pure (Dz scope X.env) :=
 GZ fun y hy hf=>I.ok.has y.1 (S.free y hy hf)
theorem Fe {scope:Scope}{x:Str}{cn:List Str}{cap:List Nat}{s3:Shared}{H3:Hp}{fp:List Addr}{h₁:Heap}{tk:Nat}{H2:Hp}(S:CompScope X scope)(I:Inv X pins σ H3 s3)(hc:X.calm=true)(hcap:Caps X scope cn cap)
  (f2:∀ b∈fp,ED X pins H2 b) (lt:∀ b∈fp,b<s3.heap.objs.size) (keep:∀ b o,s3.heap.get? b=some o->h₁.get? b=some o) (hns:h₁.Ns s3.heap.objs.size fun _=>none) :
  Inv (Al X (x::cn) scope s3.heap.objs.size s3 H3 fp) [] (BB cap σ) H3 { s3 with heap:=h₁,toks:=tk }:=by
 have noS:∀ b o,X.base.get? b=some o->b<X.s₀.heap.objs.size:=fun b o e=>qqB (qzA e) I.ok.bsz
 refine ⟨⟨I.ok.mod,S.kind,I.ok.glob,I.ok.blt,qvA _,fun y z c h1 h2=>I.ok.inj y z c (D9 h1) (D9 h2),fun y hy=>?_,fun y c h=>?_,fun _=>I.ok.hd hc,I.ok.frames,.inl rfl,fun b hb=>⟨qpB (lt b hb),fun y c h=>(f2 b hb).2.2.2.2.1 y c (D9 h)⟩,
  I.bs,qwA I.ok.bsz I.sz,fun b o e hb=>?_,fun b hb z=>?_,I.stack,I.stkFree⟩,rfl,I.bare,Un.kept keep,⟨_,hns,fun i y v e1 e2 e3=>?_⟩,fun y c e=>?_,I.hok.fresh (qvA _),fun y c e=>I.freeC y c (D9 e),fun p hp=>absurd (show p∈([]:List (Addr × Obj)) from hp) (by simp),I.hok.kept keep,?_⟩
 ·have m:=Hu S.cell hy;obtain ⟨c,hc'⟩:=I.ok.has y (S.free _ m rfl);exact ⟨c,IS m hc'⟩
 ·cases h
 ·rcases (f2 b hb).2.2.2.1 with z|z
  ·exact I.ok.noex b o e z
  ·exact absurd (qqB (noS b o e) z) (qxA _)
 ·rcases qhA.mp (I.stkSub b z) with e|e
  ·exact (f2 b hb).2.1 e
  ·exact (f2 b hb).2.2.1 e
 ·cases i with
  | zero =>
   have e2:(some none:Option (Option V))=some (some v):=e2;cases e2
  | succ j =>
   have e1:cn[j]? = some y:=e1;obtain ⟨k,hk,hN,hkind,hfr⟩:=hcap.at e1;have e2:(cap.map fun i=>(σ[i]?).join)[j]? = some (some v):=e2;rw [qrA,hk] at e2;have e2:(σ[k]?).join=some v:=qyA e2
   have e2:σ[k]? = some (some v):=by
    cases q:σ[k]? with
    | none=>rw [q] at e2;cases e2
    | some o=>rw [q] at e2;cases o with
     | none=>cases e2
     | some v'=>have e2:some v'=some v:=e2;rw [e2]
   obtain ⟨m,hn,hl⟩:=I.loc;obtain ⟨u,r,l⟩:=hl k y v hN e2 (.inr hkind);refine ⟨u,r,?_⟩;rcases l with ⟨kl,_⟩ | ⟨_,c,hc',o,ho,hd⟩
   ·have kl:X.env.scope.names.lookup y=some .local := kl;rw [kl] at hkind;rcases hkind with z|z<;>cases z
   ·refine .inr ⟨?_,c,IS (PySem.mem_of_lookup hfr) hc',o,keep c o ho,hd⟩;rcases e3 with z|z
    ·
     exfalso;have z:(relabel scope X.env).names.lookup y=some .local := z;have hm:=PySem.mem_of_lookup z;unfold relabel at hm;obtain ⟨⟨n,k'⟩,hp,e⟩:=qiA.mp hm;dsimp only at e
     have hl2:(y,NameKind.local)∈scope.names:=by
      split at e
      ·cases e
      ·cases e;exact hp
     have:=S.names _ hl2 rfl;rw [hfr] at this;cases this
    ·exact z
 ·obtain ⟨v,o,ho,hd⟩:=I.cell y c (D9 e);exact ⟨v,o,keep c o ho,hd⟩
 ·show (BB cap σ).length=(x::cn).length;unfold BB;rw [qfA,qdA,hcap.len,qfA]
theorem Eu {scope:Scope}{N:List Str}{C:Addr}{s3 s':Shared}{H2 H3 Hf:Hp}{fp:List Addr}{pins':List (Addr × Obj)}{σ':St}(I:Inv X pins σ H3 s3)(J:Inv (Al X N scope C s3 H3 fp) pins' σ' Hf s')(f2:∀ b∈fp,ED X pins H2 b):Inv X pins σ Hf s' :=
 I.call' (ch:=fp) J.os J.base J.hok J.bare fun b hb=>⟨(f2 b hb).2.2.2.1,(f2 b hb).2.1,(f2 b hb).2.2.2.2.1,(f2 b hb).2.2.2.2.2⟩
theorem Gk {scope:Scope}{x:Str}{px pos:Pos}{elt iter:Expr}{ifs:List Expr}{cn:List Str}{cap:List Nat}{s2:Shared}{H2:Hp}{it:Addr}{fp:List Addr}{tn:Nat->Heap->Prop}{J:It}{tc:TT}{te:TE}{Q:VK}{RR:Value->Addr->Result->Shared->Prop}{E:Value->Shared->Prop}
  (S:CompScope X scope) (I2:Inv X pins σ H2 s2) (hc:X.calm=true) (hcap:Caps X scope cn cap) (hx:scope.names.lookup x=some .local) (hnd:(x::cn).Nodup)
  (T:Turn X.prog X.w X.K (.Name x px) J fp it tn) (st2:tn 0 s2.heap) (f2:∀ b∈fp,ED X pins H2 b)
  (body:∀ (C:Addr) (s:Shared) (H:Hp) (fp:List Addr),PTs (Al X (x::cn) scope C s H fp) ifs tc/\PE (Al X (x::cn) scope C s H fp) elt te)
  (q:∀ p,H2 p=none->∃ W:Nat->Nat->List V->Hp->Prop,(∃ m,W 0 m [] (upd H2 p (.lst [])))/\∀ i m xs H3,W i m xs H3 ->
   (J.stop i H3/\Q (.ref p) H3)\/(J.go i H3/\∃ N:List V->Hp->Prop,(∀ xs' H',N xs' H'->∃ m',m'<m/\W (i+1) m' xs' H') /\
    ∀ v H4,J.yld i H3 v H4->tc ((BB cap σ).set 0 (some v)) H4 fun b H5=>if b=true then te ((BB cap σ).set 0 (some v)) H5 fun v H6=>H6 p=some (.lst xs)/\xs.length<sizeLine/\N (xs++[v]) (upd H6 p (.lst (xs++[v]))) else N xs H5))
  (hRR:∀ (p C:Addr) (s3 s':Shared) (H3 Hf:Hp) (σ':St),Inv X pins σ H3 s3->s3.heap.objs.size=C->Inv (Al X (x::cn) scope C s3 H3 fp) [] σ' Hf s'->Q (.ref p) Hf->RR (.ref p) C (.ok .next) s') :
  wpAny (model X.prog X.w) X.A (newList []) (fun acc s₃=>wpAny (model X.prog X.w) X.A (newFunctionEnv scope X.env.globals (Dz scope X.env) [] X.env.qual none .none (some X.env)) (fun cenv s₄ =>
   codeAny (model X.prog X.w) X.A (.compStart (.ListComp elt [⟨.Name x px,iter,ifs,0⟩] scope pos) 0 (.ref it) acc { cenv with scope:=relabel scope X.env }) (RR acc cenv.locals) s₄) E s₃) E s2:=by
 refine wpAny_newObj_type (wpAny_newFunctionEnv S.cell (by intro y hy;simp at hy) (fun h₁ hns₁ hsb₁=>?_) S.kind);dsimp only at hns₁ hsb₁ ⊢;have hfr:H2 s2.heap.objs.size=none:=I2.hok.fresh (qvA _);obtain ⟨W,⟨m0,w0⟩,turn⟩:=q _ hfr
 have I3:Inv X pins σ (upd H2 s2.heap.objs.size (.lst [])) { s2 with heap:=s2.heap.push { cls:=.type "list",data:=.seq ([]:List Value).toArray } } :=
  I2.lnew (its:=[]) (t':=s2.toks) .nil (qsB _)
 generalize hs3:({ s2 with heap:=s2.heap.push { cls:=.type "list",data:=.seq ([]:List Value).toArray } }:Shared)=s3 at I3;have hs3h:s3.heap=s2.heap.push { cls:=.type "list",data:=.seq ([]:List Value).toArray }:=by rw [<- hs3]
 have hst3:tn 0 s3.heap:=T.keep _ _ _ st2 fun b hb o e=>by rw [hs3h];exact qaB _ e
 have ltf:∀ b∈fp,b<s3.heap.objs.size:=fun b hb=>by
  obtain ⟨o,e,_⟩:=T.obj _ _ hst3 b hb;exact qzA e
 have hC:(s2.heap.push { cls:=.type "list",dict:=none,data:=.seq ([]:List Value).toArray }).objs.size=s3.heap.objs.size:=by rw [hs3h]
 rw [hC] at hns₁ hsb₁ ⊢
 have keep:∀ b o,s3.heap.get? b=some o->h₁.get? b=some o:=fun b o e=>by
  refine hsb₁.extBut b o (qpB (qzA e)) (qaB _ ?_);rw [hs3h] at e;exact e
 have J4:Inv (Al X (x::cn) scope s3.heap.objs.size s3 (upd H2 s2.heap.objs.size (.lst [])) fp) [] (BB cap σ) (upd H2 s2.heap.objs.size (.lst [])) { s3 with heap:=h₁,toks:=s2.toks+([]:List (Str × Value)).length } :=
  Fe S I3 hc hcap f2 ltf keep hns₁
 have st4:tn 0 h₁:=T.keep _ _ _ hst3 fun b hb o e=>keep b o e
 have fr4:∀ b∈fp,(upd H2 s2.heap.objs.size (.lst [])) b=none:=fun b hb=>by
  obtain ⟨o,e,_⟩:=T.obj _ _ st2 b hb;rw [AK (qpB (qzA e))];exact (f2 b hb).1
 have hst:({ s2 with heap:=h₁,toks:=s2.toks+([]:List (Str × Value)).length }:Shared) = { s3 with heap:=h₁,toks:=s2.toks+([]:List (Str × Value)).length }:=by rw [<- hs3]
 have loop:codeAny (model X.prog X.w) X.A (.compLoop (.ListComp elt [⟨.Name x px,iter,ifs,0⟩] scope pos) 0 (.ref it) (.ref s2.heap.objs.size) (compEnvC scope (Dz scope X.env) s3.heap.objs.size X.env))
   (RR (.ref s2.heap.objs.size) s3.heap.objs.size) { s2 with heap:=h₁,toks:=s2.toks+([]:List (Str × Value)).length }:=by
  rw [hst];generalize hX':Al X (x::cn) scope s3.heap.objs.size s3 (upd H2 s2.heap.objs.size (.lst [])) fp=X' at J4
  have hfpk:∀ {Hc:Hp},(∀ b∈fp,Hc b=none)->∀ b∈fp,ED X' [] Hc b:=fun {Hc} hn b hb=>by
   subst hX';refine ⟨hn b hb,(J4.ok.exf b hb).1,J4.ok.exfs b hb,.inl hb,(J4.ok.exf b hb).2,fun p hp=>absurd (show p∈([]:List (Addr × Obj)) from hp) (by simp)⟩
  refine Hm (fun n s'=>∃ i xs Hc,Inv X' [] (BB cap σ) Hc s'/\tn i s'.heap/\(∀ b∈fp,Hc b=none)/\W i n xs Hc) ?_ m0 ⟨0,[],_,J4,st4,fr4,w0⟩;rintro n s5 ⟨i,xs,Hc,I5,st5,fr5,w5⟩;have B:=body s3.heap.objs.size s3 (upd H2 s2.heap.objs.size (.lst [])) fp;rcases turn i n xs Hc w5 with ⟨stop,qn⟩ | ⟨go,N,hN,step⟩
  ·subst hX';refine thn (T.done (Al X (x::cn) scope s3.heap.objs.size s3 (upd H2 s2.heap.objs.size (.lst [])) fp) rfl rfl rfl rfl i [] s5 (BB cap σ) Hc (fun _ _=>False) I5 (hfpk fr5) st5 stop) fun r s6 ⟨hr,I6⟩=>?_;subst hr;exact hRR _ _ s3 s6 _ Hc _ I3 rfl I6 qn
  ·subst hX';refine thn (T.item (Al X (x::cn) scope s3.heap.objs.size s3 (upd H2 s2.heap.objs.size (.lst [])) fp) rfl rfl rfl rfl i [] s5 (BB cap σ) Hc (fun _ _=>False) I5 (hfpk fr5) st5 go) fun r s6 ⟨u,hr,h6⟩=>?_;subst hr;refine thn h6 fun _ s7 ⟨v,H7,I7,r7,y7,st7,fr7⟩=>?_;have I7':=I7.pinned (hfpk fr7) (T.obj _ _ st7);have hlook:(relabel scope X.env).names.lookup x=some .local := lookup_relabel_local hx;refine wpAny_assign_Name (Dk (X:=Al X (x::cn) scope s3.heap.objs.size s3 (upd H2 s2.heap.objs.size (.lst [])) fp) I7' (i:=0) hnd rfl (.inl hlook) r7 (fun s8 I8=>?_) (.inr hlook))
   have again:∀ {s9:Shared}{H9:Hp}{ys:List V},Inv (Al X (x::cn) scope s3.heap.objs.size s3 (upd H2 s2.heap.objs.size (.lst [])) fp) ([]++Ew fp s7.heap) ((BB cap σ).set 0 (some v)) H9 s9->N ys H9 ->
     ∃ m,m<n/\∃ i xs Hc,Inv (Al X (x::cn) scope s3.heap.objs.size s3 (upd H2 s2.heap.objs.size (.lst [])) fp) [] (BB cap σ) Hc s9/\tn i s9.heap/\(∀ b∈fp,Hc b=none)/\W i m xs Hc:=fun {s9 H9 ys} I9 n9=>by
    obtain ⟨m',hm,w9⟩:=hN ys H9 n9;refine ⟨m',hm,i+1,ys,H9,(I9.unpinned (pins:=[])).weak (by simp [BB]) (fun j w e=>?_),T.keep _ _ _ st7 fun b hb o e=>(I9.pin (b,o) (qrB _ (qrB _ (C8 hb e)))).1,fun b hb=>?_,w9⟩
    ·cases j with
     | zero =>
      have e:(some none:Option (Option V))=some (some w):=e;cases e
     | succ j=>exact e
    ·obtain ⟨o,e,_⟩:=T.obj _ _ st7 b hb;exact (I9.pin (b,o) (qrB _ (qrB _ (C8 hb e)))).2.1
   refine thn (B.1 _ s8 _ H7 _ I8 (step v H7 y7)) fun ok s9 ⟨H9,I9,q9⟩=>?_
   cases ok with
   | false =>
    rw [if_neg qhB] at q9 ⊢;exact again I9 q9
   | true =>
    rw [if_pos rfl] at q9 ⊢;refine thn (B.2 _ s9 _ H9 _ I9 q9) fun uy s10 ⟨y,H10,I10,r10,hp,hl,n10⟩=>?_;refine thn (F7 _ s10 _ H10 (.ref s2.heap.objs.size) [y] (.ref s2.heap.objs.size) [uy] (fun _ H11=>N (xs++[y]) H11) I10 rfl (.cons r10 .nil) ⟨_,xs,y,rfl,rfl,hp,hl,n10⟩) fun _ s11 ⟨_,H11,I11,_,n11⟩=>?_;exact again I11 n11
 exact codeAny_compStart_list loop (T.self _ _ _ _ _ st4 loop)
theorem FW {scope:Scope}{x:Str}{px pos:Pos}{elt iter:Expr}{ifs:List Expr}{cn:List Str}{cap:List Nat}{wi:TI}{tc:TT}{te:TE}
  (hc:X.calm=true) (S:CompScope X scope) (hx:scope.names.lookup x=some .local) (hnd:(x::cn).Nodup) (hcap:Caps X scope cn cap) (hi:PI X (.Name x px) iter wi)
  (body:∀ (C:Addr) (s:Shared) (H:Hp) (fp:List Addr),PTs (Al X (x::cn) scope C s H fp) ifs tc/\PE (Al X (x::cn) scope C s H fp) elt te)
  (hs:∀ x,foldedSetIterable iter X.env x=pure x:=by intro _;rfl):PE X (.ListComp elt [⟨.Name x px,iter,ifs,0⟩] scope pos) (Gz cap wi tc te):=by
 intro pins s σ H Q I h;rw [eval_ListComp];refine wpAny_comprehension_free (use:=none) rfl hs (S.clos I) S.kind S.names (thn (hi pins s σ H _ I h) fun xv s1 h1=>thn h1 fun itv s2 h2=>?_);obtain ⟨it,fp,tn,J,H2,e,I2,T,st2,f2,q⟩:=h2;subst e;refine Gk (RR:=fun acc C=>compPost (model X.prog X.w) X.A X.xe none (EP X pins σ Q) acc C) S I2 hc hcap hx hnd T st2 f2 body q ?_;intro p C s3 s' H3 Hf σ' I3 hC J' qf;subst hC;have I4:=Eu I3 J' f2;obtain ⟨m,hn,_⟩:=J'.loc;refine ⟨m,hn,fun h' hs'=>?_⟩;refine ⟨.ref p,Hf,?_,rfl,qf⟩;have f:=I3.fpOk (H':=Hf) (qvA _) J'.free;exact I4.turned (t':=s'.toks) (it:=s3.heap.objs.size) (fun b o hb e=>(hs'.2 b hb).trans e) f.1 f.2.1 f.2.2.2.1 f.2.2.2.2.1 f.2.2.2.2.2
theorem EI {scope:Scope}{x y:Str}{px py pos spos:Pos}{elt iter:Expr}{ifs:List Expr}{cn:List Str}{cap:List Nat}{wi:TI}{tc:TT}{te:TE}{i:Nat}
  (hN:X.N.Nodup) (hi:X.N[i]? = some y) (hy:Loc X.env.scope y) (hc:X.calm=true) (S:CompScope X scope) (hx:scope.names.lookup x=some .local) (hnd:(x::cn).Nodup) (hcap:Caps X scope cn cap) (hit:PI X (.Name x px) iter wi)
  (body:∀ (C:Addr) (s:Shared) (H:Hp) (fp:List Addr),PTs (Al X (x::cn) scope C s H fp) ifs tc/\PE (Al X (x::cn) scope C s H fp) elt te)
  (hsw:swapsWith (.ListComp elt [⟨.Name x px,iter,ifs,0⟩] scope pos) (some (.Name y py)) spos.line X.env=pure true:=by rfl)
  (hf:X.fn y=true\/X.env.scope.names.lookup y=some .local := by first|exact .inl rfl|exact .inr rfl|assumption)
  (hs:∀ x,foldedSetIterable iter X.env x=pure x:=by intro _;rfl):PS X (.Assign [.Name y py] (.ListComp elt [⟨.Name x px,iter,ifs,0⟩] scope pos) spos) (Hd (Gz cap wi tc te) (Cp i)):=by
 intro pins s σ H D I h;rw [exec_Assign_Name_used _ _ _ _ hsw];refine qbA (wpAny_standAt (qbA ?_));show wpAny _ X.A (do let _ <- comprehension (.ListComp elt [⟨.Name x px,iter,ifs,0⟩] scope pos) scope X.env _ (newList []) false (eval iter X.env) (some (assign (.Name y py) X.env))) _ _ s
 refine qbA (wpAny_mono (wpAny_comprehension_free (use:=some (assign (.Name y py) X.env)) (Q:=fun _ s'=>SP X pins D .next s') rfl hs (S.clos I) S.kind S.names
  (thn (hit pins s σ H _ I h) fun xv s1 h1=>thn h1 fun itv s2 h2=>?_)) (fun _ s' hq=>qcA (qcA hq)) fun _ _ e=>e)
 obtain ⟨it,fp,tn,J,H2,e,I2,T,st2,f2,q⟩:=h2;subst e;refine Gk (Q:=fun v H1=>Cp i v σ H1 D.nx) (RR:=fun acc C=>compPost (model X.prog X.w) X.A X.xe (some (assign (.Name y py) X.env)) (fun _ s'=>SP X pins D .next s') acc C) S I2 hc hcap hx hnd T st2 f2 body q ?_;intro p C s3 s' H3 Hf σ' I3 hC J' qf;subst hC;have I4:=Eu I3 J' f2;obtain ⟨m,hn,_⟩:=J'.loc;have f:=I3.fpOk (H':=Hf) (qvA _) J'.free;show wpAny _ X.A (assign (.Name y py) X.env (.ref p)) _ _ _;refine wpAny_assign_Name (F6 (v:=V.ref p) I4 hN hi hy rfl (fun s'' I5 ch=>?_) hf);obtain ⟨a,hsb,ha⟩:=ch
 have hCa:s3.heap.objs.size≠a:=by
  rcases ha with rfl|ha
  ·exact f.2.1
  ·exact fun z=>f.2.2.2.2.1 y a ha z.symm
 refine ⟨m,hn.sameBut hsb hCa,fun h' hs'=>?_⟩;exact ⟨_,Hf,I5.turned (t':=s''.toks) (it:=s3.heap.objs.size) (fun b o hb e=>(hs'.2 b hb).trans e) f.1 f.2.1 f.2.2.2.1 f.2.2.2.2.1 f.2.2.2.2.2,qf⟩
end
theorem bt_len:bootBuiltins "len" = some (.builtin "len"):=by decide +kernel
theorem AD:bootBuiltins "isinstance" = some (.builtin "isinstance"):=by decide +kernel
theorem bt_max:bootBuiltins "max" = some (.builtin "max"):=by decide +kernel
theorem bt_all:bootBuiltins "all" = some (.builtin "all"):=by decide +kernel
theorem FX:bootBuiltins "list" = some (.type "list"):=by decide +kernel
theorem ID:bootBuiltins "tuple" = some (.type "tuple"):=by decide +kernel
theorem bt_int:bootBuiltins "int" = some (.type "int"):=by decide +kernel
theorem F9:bootBuiltins "str" = some (.type "str"):=by decide +kernel
theorem bt_bool:bootBuiltins "bool" = some (.type "bool"):=by decide +kernel
theorem pe_globI {X:Cx}{x:Str}{i:Int}{pos:Pos}(hg:Gl X x)(h:∃ t,X.mg x=some (.int i t))(hd:(x == ("__debug__" : Str))=false:=by decide):PE X (.Name x pos) (tC (.int i)):=by
 obtain ⟨t,h⟩:=h;exact CS (u:=.int i t) hg h ⟨t,rfl⟩ hd
def K2 (T c:String):Option Bool:=if (T == c)=true then some true else if PySem.W.kitMeta c=true then (fastBuiltinMro T).map (·.contains (.type c)) else none
theorem kit_of {K:FZ9}{T c:String}{b:Bool}(h:K2 T c=some b):PySem.W.kitOne K (.type T) (.type c)=some b:=by
 unfold K2 at h;unfold PySem.W.kitOne;by_cases e:T=c
 ·subst e;rw [if_pos (by simp)] at h;rw [if_pos (by simp)];exact h
 ·rw [if_neg (by simpa using e)] at h;rw [if_neg (by intro z;exact e (by simpa using z))];exact h
structure DefOk (P:Program)(w:World)(K:FZ9)(mg:Str->Option Value)(base:Heap)(x:Str)(k:Nat)(ps:List Str)(sp:Sp):Prop where
 ex:∃ f fd,FnOk P w K mg base CX0 k f fd ps sp/\mg x=some (.ref f)/\qmB K (.ref f)=true/\Binds K fd ps []
section
variable {X:Cx}{x:Str}{k j:Nat}{ps:List Str}{sp:Sp}{e:Expr}{es:List Expr}{t:TA}{p pos:Pos}
theorem AX (F:DefOk X.prog X.w X.K X.mg X.base x k ps sp)(hr:Room j X.A)(hj:k<=j)(hg:Gl X x)(ha:PA X (e::es) t)(hdb:(x == ("__debug__" : Str))=false:=by decide)
  (he:starEach (e::es) X.env=(false,eval e X.env)::starEach es X.env:=by rfl) (hpl:(backTo pos (starEach es X.env)).any (·.1)=false:=by rfl) :
  PE X (.Call (.Name x p) (e::es) [] pos) (Gs sp [] E0 t):=by
 obtain ⟨f,fd,G,m,kp,b⟩:=F.ex;exact pe_call G (hr.mono hj) hg m kp b .nil pass0 ha hdb he hpl
end
theorem def_of {P:Program}{w:World}{K:FZ9}{mg:Str->Option Value}{base:Heap}{x:Str}{st:Stmt}{f:Addr}{fd:FuncData}{k:Nat}{ps:List Str}{sp:Sp}(F:Fun K x x st f fd)(m:mg x=some (.ref f))(b:Binds K fd ps [])(G:FnOk P w K mg base CX0 k f fd ps sp):DefOk P w K mg base x k ps sp :=
 ⟨f,fd,G,m,F.kp,b⟩
theorem CP {X:Cx}{scope:Scope}(h:(scope.names.all fun p=>p.2 != .free || X.env.scope.names.lookup p.1 == some .cell || X.env.scope.names.lookup p.1 == some .free)=true) :
  ∀ y∈scope.names,y.2 = .free->X.env.scope.names.lookup y.1=some .cell\/X.env.scope.names.lookup y.1=some .free:=fun y hy hf=>by
 have:=List.all_eq_true.mp h y hy;rw [hf] at this
 simpa using this
theorem Same.new {H:Hp}{p:Addr}{o:HO}(h:H p=none):Same H (upd H p o):=fun b u e=>by rw [AK (BK e h)];exact e
theorem Same.put {H H':Hp}{p:Addr}{o:HO}(s:Same H H')(h:H p=none):Same H (upd H' p o):=fun b u e=>by rw [AK (BK e h)];exact s b u e
def Its (x:Str):It:=⟨fun i _=>i<x.cps.size,fun i H v H'=>H'=H/\∃ c,x.cps[i]? = some c/\v = .str ⟨#[c]⟩,fun i _=>i=x.cps.size⟩
def StrIt (it:Addr)(x:Str)(t:Tok)(i:Nat)(h:Heap):Prop:=h.IsStrIter it "str_ascii_iterator" x t i\/h.IsStrIter it "str_iterator" x t i
theorem IH {P:Program}{w:World}{K:FZ9}{tg:Expr}(x:Str)(t:Tok)(it:Addr):Turn P w K tg (Its x) [it] it (StrIt it x t) where
 mem:=by simp
 obj:=fun i h st b hb=>by
  have e:b=it:=by simpa using hb
  subst e;rcases st with ⟨o,e,c,d⟩ | ⟨o,e,c,d⟩<;>exact ⟨o,e,fun v z=>by rw [d] at z;cases z⟩
 keep:=fun i h h' st k=>by
  rcases st with ⟨o,e,r⟩ | ⟨o,e,r⟩
  ·exact .inl ⟨o,k it (by simp) o e,r⟩
  ·exact .inr ⟨o,k it (by simp) o e,r⟩
 item:=by
  intro X hP hw hK hc i pins s σ H E I hf st hg;subst hP hw hK;obtain ⟨f0,f1,f2,f3,f4,f5⟩:=hf it (by simp);rcases st with st|st
  ·refine (Walks.strAscii (prog:=X.prog) (w:=X.w) (I.ok.hd hc) it x t).item i s _ _ hg st fun v h' tk hv st' kk=>?_;obtain ⟨c,u,hcx,rfl⟩:=hv;have I1:=I.turned (h':=h') (t':=tk) (fun b o hb e=>kk b o (by simpa using hb) e) f0 f1 f3 f4 f5;obtain ⟨o,e,hc',d⟩:=id st';exact ⟨_,rfl,IG (s:={ s with heap:=h',toks:=tk }) e hc' d (by decide) ⟨.str ⟨#[c]⟩,H,I1,⟨u,rfl⟩,⟨rfl,c,hcx,rfl⟩,.inl st',fun b hb=>(hf b hb).1⟩⟩
  ·refine (Walks.strWide (prog:=X.prog) (w:=X.w) (I.ok.hd hc) it x t).item i s _ _ hg st fun v h' tk hv st' kk=>?_;obtain ⟨c,u,hcx,rfl⟩:=hv;have I1:=I.turned (h':=h') (t':=tk) (fun b o hb e=>kk b o (by simpa using hb) e) f0 f1 f3 f4 f5;obtain ⟨o,e,hc',d⟩:=id st';exact ⟨_,rfl,IG (s:={ s with heap:=h',toks:=tk }) e hc' d (by decide) ⟨.str ⟨#[c]⟩,H,I1,⟨u,rfl⟩,⟨rfl,c,hcx,rfl⟩,.inr st',fun b hb=>(hf b hb).1⟩⟩
 done:=by
  intro X hP hw hK hc i pins s σ H E I hf st hg;subst hP hw hK;obtain ⟨f0,f1,f2,f3,f4,f5⟩:=hf it (by simp);have hg:i=x.cps.size:=hg;subst hg;rcases st with st|st
  ·exact (Walks.strAscii (prog:=X.prog) (w:=X.w) (I.ok.hd hc) it x t).done s _ _ st fun h' tk kk=>⟨rfl,I.turned (fun b o hb e=>kk b o (by simpa using hb) e) f0 f1 f3 f4 f5⟩
  ·exact (Walks.strWide (prog:=X.prog) (w:=X.w) (I.ok.hd hc) it x t).done s _ _ st fun h' tk kk=>⟨rfl,I.turned (fun b o hb e=>kk b o (by simpa using hb) e) f0 f1 f3 f4 f5⟩
 self:=fun _ _ _ _ _ st h=>by
  rcases st with st|st
  ·exact wpAny_pyIter_striter_ascii st h
  ·exact wpAny_pyIter_striter_wide st h
section
variable {X:Cx}{tg:Expr}
def iAny (K:FZ9)(tl:TE):TI:=fun σ H R=>tl σ H fun v H1=>match v with
 | .str x=>R (Its x) H1
 | .ref a=>((∃ xs,SqL K H1 a xs)/\R (Itl K a) H1)\/((∃ xs,SqT K H1 a xs)/\R (Itt K a) H1)
 | _=>False
theorem pi_any {l:Expr}{tl:TE}(hl:PE X l tl):PI X tg l (iAny X.K tl):=by
 intro pins s σ H R I h;refine thn (hl pins s σ H _ I h) fun v s1 ⟨x,H1,I1,r1,q1⟩=>?_
 have one:∀ b∈[s1.heap.objs.size],ED X pins H1 b:=fun b hb=>by
  have e:b=s1.heap.objs.size:=by simpa using hb
  subst e;exact I1.fpOk (qvA _) (I1.hok.fresh (qvA _))
 cases x with
 | str z =>
  obtain ⟨t,rfl⟩:=r1;have q1:R (Its z) H1:=q1;cases ha:z.cps.all (· < 128)
  ·exact wpAny_pyIter_wide ha ⟨s1.heap.objs.size,[s1.heap.objs.size],_,_,H1,rfl,I1.kept (t':=s1.toks) fun b o e=>qaB _ e,IH z t _,.inr ⟨_,qbB _ rfl,rfl,rfl⟩,one,q1⟩
  ·exact wpAny_pyIter_ascii ha ⟨s1.heap.objs.size,[s1.heap.objs.size],_,_,H1,rfl,I1.kept (t':=s1.toks) fun b o e=>qaB _ e,IH z t _,.inl ⟨_,qbB _ rfl,rfl,rfl⟩,one,q1⟩
 | ref a =>
  cases r1;have q1:((∃ xs,SqL X.K H1 a xs)/\R (Itl X.K a) H1)\/((∃ xs,SqT X.K H1 a xs)/\R (Itt X.K a) H1):=q1;rcases q1 with ⟨⟨xs,hq⟩,q⟩ | ⟨⟨xs,hq⟩,q⟩
  ·obtain ⟨its,rv,p,hz⟩:=I1.list hq;exact wpAny_pyIter_list p.isList ⟨s1.heap.objs.size,[s1.heap.objs.size],_,_,H1,rfl,I1.kept (t':=s1.toks) fun b o e=>qaB _ e,KC a _,⟨_,qbB _ rfl,rfl,rfl⟩,one,q⟩
  ·obtain ⟨its,rv,p,hz⟩:=I1.tuple hq;exact wpAny_pyIter_tuple (show s1.heap.IsTuple a its.toArray from p) ⟨s1.heap.objs.size,[s1.heap.objs.size],_,_,H1,rfl,I1.kept (t':=s1.toks) fun b o e=>qaB _ e,Io a _,⟨_,qbB _ rfl,rfl,rfl⟩,one,q⟩
 | _=>exact (show False from q1).elim
end
structure Yields (J:It)(H:Hp)(xs:List V):Prop where
 go:∀ i H',Same H H'->i<xs.length->J.go i H'
 stop:∀ H',Same H H'->J.stop xs.length H'
 yld:∀ i H' x H'',Same H H'->i<xs.length->J.yld i H' x H''->H''=H'/\xs[i]? = some x
def Cv (x:Str):List V:=x.cps.toList.map fun c=>.str ⟨#[c]⟩
theorem J6 (x:Str)(H:Hp):Yields (Its x) H (Cv x) where
 go:=fun i H' _ hi=>by
  have:(Cv x).length=x.cps.size:=by simp [Cv]
  show i<x.cps.size;omega
 stop:=fun H' _=>by
  show (Cv x).length=x.cps.size;simp [Cv]
 yld:=fun i H' v H'' _ _ y=>by
  obtain ⟨rfl,c,hc,rfl⟩:=y;refine ⟨rfl,?_⟩;simp only [Cv,qrA,Array.getElem?_toList,hc,Option.map_some]
theorem HM (lo:Int)(n:Nat)(H:Hp):Yields (Itr lo n) H ((List.range n).map fun (i:Nat)=>V.int (lo+(i:Int))) where
 go:=fun i H' _ hi=>by
  show i<n
  simpa using hi
 stop:=fun H' _=>by
  show n<=((List.range n).map fun (i:Nat)=>V.int (lo+(i:Int))).length;simp
 yld:=fun i H' v H'' _ hi y=>by
  obtain ⟨rfl,rfl⟩:=y;rw [qdA,List.length_range] at hi;refine ⟨rfl,?_⟩;simp [hi]
theorem Ic {K:FZ9}{a:Addr}{xs:List V}{H:Hp}(h:SqL K H a xs):Yields (Itl K a) H xs where
 go:=fun i H' s hi=>⟨xs,xs[i],s.seq h,by simp [hi]⟩
 stop:=fun H' s=>⟨xs,s.seq h,qvA _⟩
 yld:=fun i H' v H'' s _ y=>⟨y.1,y.2 xs (s.seq h)⟩
section
variable {X:Cx}
def Gm (K:FZ9):R2:=fun x y H Q=>match x,y with
 | .int i,.int j=>Q (.int (i+j)) H
 | .str a,.str b=>a.length+b.length<=sizeLine/\Q (.str (a++b)) H
 | .ref a,.ref b=>∃ xs ys,Rd H a (.lst xs)/\Rd H b (.lst ys)/\xs.length+ys.length<=sizeLine/\∀ p,H p=none->Q (.ref p) (upd H p (.lst (xs++ys)))
 | _,_=>False
theorem op_catS:OpR X (binaryOp .Add) (fun x y H Q=>∃ a b xs ys,x = .ref a/\y = .ref b/\Rd H a (.lst xs)/\Rd H b (.lst ys)/\xs.length+ys.length<=sizeLine/\∀ p,H p=none->Q (.ref p) (upd H p (.lst (xs++ys)))):=by
 intro pins s σ H x y v u Q I rx ry h;obtain ⟨l,b,xs,zs,rfl,rfl,hH,hB,hz,q⟩:=h;cases rx;cases ry;obtain ⟨z,its,n,r,e⟩:=hH.ok I.hok;obtain ⟨z2,its2,n2,r2,e2⟩:=hB.ok I.hok;have hl:=r.length;have hl2:=r2.length;refine PySem.P.add_list e e2 ?_ (by rw [qiB,qiB];omega);have ea:its.toArray++its2.toArray=(its++its2).toArray:=by simp
 rw [ea];exact ⟨.ref _,_,I.lnew (t':=s.toks) (r.append r2) (by rw [qeA];omega),rfl,q _ I.fresh⟩
theorem op_plus:OpR X (binaryOp .Add) (Gm X.K):=by
 intro pins s σ H x y v u Q I rx ry h
 cases x with
 | int i=>cases y with
  | int j=>exact op_add pins s σ H _ _ v u Q I rx ry ⟨i,j,rfl,rfl,h⟩
  | _=>exact (show False from h).elim
 | str a=>cases y with
  | str b=>exact Ih pins s σ H _ _ v u Q I rx ry ⟨a,b,rfl,rfl,h.1,h.2⟩
  | _=>exact (show False from h).elim
 | ref a=>cases y with
  | ref b =>
   obtain ⟨xs,ys,h1,h2,h3,h4⟩:=h;exact op_catS pins s σ H _ _ v u Q I rx ry ⟨a,b,xs,ys,rfl,rfl,h1,h2,h3,h4⟩
  | _=>exact (show False from h).elim
 | _=>exact (show False from h).elim
def Ii (fi:Int->Int->Bool)(fs:List Nat->List Nat->Bool):R2:=fun x y H Q=>match x,y with
 | .int i,.int j=>Q (.bl (fi i j)) H
 | .str a,.str b=>Q (.bl (fs a.cps.toList b.cps.toList)) H
 | _,_=>False
theorem Hr {f:Value->Value->Sem Value}{fi:Int->Int->Bool}{fs:List Nat->List Nat->Bool}(hi:OpR X f (rI0 fun i j=>.bl (fi i j)))
  (hs:∀ (s:Shared) (a b:Str) (t u:Tok) (Q:Value->Shared->Prop),Q (.bool (fs a.cps.toList b.cps.toList)) s->wpAny (model X.prog X.w) X.A (f (.str a t) (.str b u)) Q X.xe s):OpR X f (Ii fi fs):=by
 intro pins s σ H x y v u Q I rx ry h
 cases x with
 | int i=>cases y with
  | int j=>exact hi pins s σ H _ _ v u Q I rx ry ⟨i,j,rfl,rfl,h⟩
  | _=>exact (show False from h).elim
 | str a=>cases y with
  | str b =>
   obtain ⟨t,rfl⟩:=rx;obtain ⟨t',rfl⟩:=ry;exact hs s a b t t' _ ⟨.bl _,H,I,rfl,h⟩
  | _=>exact (show False from h).elim
 | _=>exact (show False from h).elim
theorem J8:OpR X (compareOp .Lt) (Ii (fun i j=>decide (i<j)) fun a b=>decide (a<b)):=Hr op_lt fun _ _ _ _ _ _ h=>lt_str h
theorem op_leU:OpR X (compareOp .LtE) (Ii (fun i j=>decide (i<=j)) fun a b=>!decide (b<a)):=Hr op_le fun _ _ _ _ _ _ h=>PySem.P.le_str h
theorem FE:OpR X (compareOp .Gt) (Ii (fun i j=>decide (j<i)) fun a b=>decide (b<a)):=Hr op_gt fun _ _ _ _ _ _ h=>PySem.P.gt_str h
theorem op_geU:OpR X (compareOp .GtE) (Ii (fun i j=>decide (j<=i)) fun a b=>!decide (a<b)):=Hr op_ge fun _ _ _ _ _ _ h=>PySem.P.ge_str h
def rMul (K:FZ9):R2:=fun x y H Q=>match x,y with
 | .int i,.int j=>CMul i j/\Q (.int (i * j)) H
 | .ref l,.int k=>∃ xs,H l=some (.lst xs)/\-(2 ^ 63)<=k/\k<2 ^ 63/\xs.length * k.toNat<=sizeLine/\∀ p,H p=none->Q (.ref p) (upd H p (.lst (List.replicate k.toNat xs).flatten))
 | _,_=>False
theorem op_mulU:OpR X (binaryOp .Mult) (rMul X.K):=by
 intro pins s σ H x y v u Q I rx ry h
 cases x with
 | int i=>cases y with
  | int j=>exact op_mul pins s σ H _ _ v u Q I rx ry ⟨i,j,rfl,rfl,h.1,h.2⟩
  | _=>exact (show False from h).elim
 | ref l=>cases y with
  | int k =>
   obtain ⟨xs,h1,h2,h3,h4,h5⟩:=h;exact op_rep pins s σ H _ _ v u Q I rx ry ⟨l,k,xs,rfl,rfl,h1,h2,h3,h4,h5⟩
  | _=>exact (show False from h).elim
 | _=>exact (show False from h).elim
def rSl (K:FZ9):V->Option Int->Option Int->Hp->VK->Prop:=fun x lo hi H Q=>match x with
 | .str z=>z.length<=sizeLine/\Q (.str (Txt.slice z lo hi)) H
 | .ref a=>(∃ xs,SqL K H a xs/\∀ p,H p=none->Q (.ref p) (upd H p (.lst (Ij xs lo hi))))
 | _=>False
theorem sl_str:SlR X (fun x lo hi H Q=>∃ z,x = .str z/\z.length<=sizeLine/\Q (.str (Txt.slice z lo hi)) H):=by
 intro pins s σ H x v vl vu lo hi sl Q I rx hs pl pu h;obtain ⟨z,rfl,hz,q⟩:=h;obtain ⟨t,rfl⟩:=rx;refine ⟨"str",_,F.slot_str_getitem.lookup,typeIs_str _ _ _,?_⟩;have fin:∀ (t':Tok) (k:Nat),EP X pins σ Q (.str (Txt.slice z lo hi) t') { s with toks:=k }:=fun t' k=>⟨.str _,H,I.tok k,⟨t',rfl⟩,q⟩
 cases pl with
 | none=>cases pu with
  | none=>exact wpAny_getItem_str_slice (l:=none) (u:=none) (st:=none) hs rfl (post_val_or_str ⟨qwA (Txt.slice_le z _ _) hz,fin⟩)
  | int j uj=>exact wpAny_getItem_str_slice (l:=none) (u:=some (j,uj)) (st:=none) hs rfl (post_val_or_str ⟨qwA (Txt.slice_le z _ _) hz,fin⟩)
 | int i ui=>cases pu with
  | none=>exact wpAny_getItem_str_slice (l:=some (i,ui)) (u:=none) (st:=none) hs rfl (post_val_or_str ⟨qwA (Txt.slice_le z _ _) hz,fin⟩)
  | int j uj=>exact wpAny_getItem_str_slice (l:=some (i,ui)) (u:=some (j,uj)) (st:=none) hs rfl (post_val_or_str ⟨qwA (Txt.slice_le z _ _) hz,fin⟩)
theorem sl_any:SlR X (rSl X.K):=by
 intro pins s σ H x v vl vu lo hi sl Q I rx hs pl pu h
 cases x with
 | str z=>exact sl_str pins s σ H _ v vl vu lo hi sl Q I rx hs pl pu ⟨z,rfl,h.1,h.2⟩
 | ref a =>
  obtain ⟨xs,h1,h2⟩:=h;exact sl_list pins s σ H _ v vl vu lo hi sl Q I rx hs pl pu ⟨a,xs,rfl,h1,h2⟩
 | _=>exact (show False from h).elim
def rAt (K:FZ9):R2:=fun x y H Q=>match x,y with
 | .str z,.int i=>z.length<=sizeLine/\∃ c,atI z.cps.toList i=some c/\Q (.str ⟨#[c]⟩) H
 | .ref p,.int i=>(∃ xs v,SqL K H p xs/\atI xs i=some v/\Q v H)\/(∃ xs v,SqT K H p xs/\atI xs i=some v/\Q v H)
 | _,_=>False
theorem ix_any:IxR X (rAt X.K):=by
 intro value slice pins s σ H x y v u Q I rx ry q hs
 cases x with
 | str z=>cases y with
  | int i =>
   obtain ⟨hz,c,hc,q⟩:=q;exact ix_str value slice pins s σ H _ _ v u Q I rx ry ⟨z,i,c,rfl,rfl,hz,hc,q⟩ hs
  | _=>exact (show False from q).elim
 | ref p=>cases y with
  | int i =>
   rcases q with ⟨xs,w',h1,h2,h3⟩ | ⟨xs,w',h1,h2,h3⟩
   ·exact ix_list value slice pins s σ H _ _ v u Q I rx ry ⟨p,xs,i,w',rfl,rfl,h1,h2,h3⟩ hs
   ·exact ix_tup value slice pins s σ H _ _ v u Q I rx ry ⟨p,xs,i,w',rfl,rfl,h1,h2,h3⟩ hs
  | _=>exact (show False from q).elim
 | _=>exact (show False from q).elim
def Hy (K:FZ9):List V->Hp->VK->Prop:=fun vs H Q=>match vs with
 | [.str z]=>z.length<=sizeLine/\Q (.int z.length) H
 | [.ref p]=>∃ ys,(SqL K H p ys\/SqT K H p ys)/\Q (.int ys.length) H
 | _=>False
theorem K6:Cn X (.builtin "len") (Hy X.K):=by
 intro pins s σ H vs us Q I r h
 match vs,h with
 | [.str z],h=>exact HS pins s σ H _ us Q I r ⟨z,rfl,h.1,h.2⟩
 | [.ref p],h =>
  obtain ⟨ys,h1,h2⟩:=h;exact HN pins s σ H _ us Q I r ⟨p,ys,rfl,h1,h2⟩
theorem GT {ys:List Str}:∀ {us:List Value},Vals (ys.map V.str) us->StrsAre us ys:=by
 induction ys with
 | nil=>intro us r;rw [List.map_nil] at r;cases r;exact .nil
 | cons n ns ih =>
  intro us r;rw [qsA] at r
  cases r with
  | cons r1 r2 =>
   obtain ⟨t,e⟩:=r1;subst e;exact .cons n t (ih r2)
def rJoin (K:FZ9):V->List V->Hp->VK->Prop:=fun x vs H Q=>∃ z l ys,x = .str z/\vs=[.ref l]/\SqL K H l (ys.map V.str)/\(ys.map (·.length)).sum+ys.length * z.length<=16777216/\Q (.str (Txt.join z ys)) H
theorem mt_join:MtR X "str.join" (rJoin X.K):=by
 intro pins s σ H x vs v us Q I rx rv h;obtain ⟨z,l,ys,rfl,rfl,hl,hz,q⟩:=h;obtain ⟨t,rfl⟩:=rx;obtain ⟨u,rfl,ru⟩:=EY rv;cases ru;obtain ⟨its,r,pl,_⟩:=I.list hl;exact join_list pl.isList (by simpa using GT r) hz fun t' k=>⟨.str _,H,I.tok k,⟨t',rfl⟩,q⟩
end
structure EqTy (K:FZ9)(k:Nat){α:Type}[DecidableEq α](R:Hp->V->α->Prop):Prop where
 fn:∀ {X:Cx}{pins:List (Addr × Obj)}{σ:St}{H:Hp}{s:Shared}{x:V}{a b:α},X.K=K->Inv X pins σ H s->R H x a->R H x b->a=b
 eq:∀ {X:Cx}{pins:List (Addr × Obj)}{σ:St}{H:Hp}{s:Shared}{x y:V}{u v:Value}{a b:α}(A:Around),X.K=K->Inv X pins σ H s->A.units+k<cLine->RelV x u->RelV y v->R H x a->R H y b->SeqAt.EqAt A s u v (decide (a=b))
 rc:∀ {X:Cx}{pins:List (Addr × Obj)}{σ:St}{H:Hp}{s:Shared}{x y:V}{u v:Value}{a b:α}(A:Around),X.K=K->Inv X pins σ H s->A.units+k<cLine->RelV x u->RelV y v->R H x a->R H y b->SeqAt.RcAt A s u v (decide (a=b))/\SeqAt.RcNeAt A s u v (!decide (a=b))
def isStr:Hp->V->Str->Prop:=fun _ x a=>x = .str a
def isInt:Hp->V->Int->Prop:=fun _ x a=>x = .int a
def isBl:Hp->V->Bool->Prop:=fun _ x a=>x = .bl a
theorem Dt {α:Type}[DecidableEq α][BEq α][LawfulBEq α](a b:α):(a == b)=decide (a=b):=by
 by_cases h:a=b
 ·subst h;simp
 ·rw [decide_eq_false h];simpa using h
theorem eqStr {K:FZ9}:EqTy K 0 isStr where
 fn:=fun _ _ h1 h2=>by cases h1;cases h2;rfl
 eq:=fun A _ _ _ r1 r2 h1 h2=>by
  cases h1;cases h2;obtain ⟨t,rfl⟩:=r1;obtain ⟨t',rfl⟩:=r2;rw [<- Dt];exact SeqAt.EqAt.str_str _ _ _ _
 rc:=fun A _ _ _ r1 r2 h1 h2=>by
  cases h1;cases h2;obtain ⟨t,rfl⟩:=r1;obtain ⟨t',rfl⟩:=r2;rw [<- Dt];exact ⟨SeqAt.RcAt.str_str _ _ _ _,SeqAt.RcNeAt.str_str _ _ _ _⟩
theorem eqInt {K:FZ9}:EqTy K 0 isInt where
 fn:=fun _ _ h1 h2=>by cases h1;cases h2;rfl
 eq:=fun A _ _ _ r1 r2 h1 h2=>by
  cases h1;cases h2;obtain ⟨t,rfl⟩:=r1;obtain ⟨t',rfl⟩:=r2;rw [<- Dt];exact SeqAt.EqAt.int_int _ _ _ _
 rc:=fun A _ _ _ r1 r2 h1 h2=>by
  cases h1;cases h2;obtain ⟨t,rfl⟩:=r1;obtain ⟨t',rfl⟩:=r2;rw [<- Dt];exact ⟨SeqAt.RcAt.int_int _ _ _ _,SeqAt.RcNeAt.int_int _ _ _ _⟩
theorem eqBl {K:FZ9}:EqTy K 0 isBl where
 fn:=fun _ _ h1 h2=>by cases h1;cases h2;rfl
 eq:=fun A _ _ _ r1 r2 h1 h2=>by
  cases h1;cases h2;cases r1;cases r2;rw [<- Dt];exact SeqAt.EqAt.bool_bool _ _
 rc:=fun A _ _ _ r1 r2 h1 h2=>by
  cases h1;cases h2;cases r1;cases r2;rw [<- Dt];exact ⟨SeqAt.RcAt.bool_bool _ _,SeqAt.RcNeAt.bool_bool _ _⟩
theorem Paired.at' {α β:Type}{F:α->β->Prop}:∀ {l₁:List α}{l₂:List β}{i:Nat}{a:α}{b:β},Paired F l₁ l₂->l₁[i]? = some a->l₂[i]? = some b->F a b
 | _,_,_,_,_,.nil,e,_=>by simp at e
 | _,_,0,_,_,.cons h _,e1,e2=>by simp at e1 e2;subst e1;subst e2;exact h
 | _,_,i+1,_,_,.cons _ t,e1,e2=>Paired.at' (i:=i) t (by simpa using e1) (by simpa using e2)
theorem Gj {α β:Type}{F:α->β->Prop}(hf:∀ a b c,F a b->F a c->b=c):∀ {xs:List α}{as bs:List β},Paired F xs as->Paired F xs bs->as=bs
 | _,_,_,.nil,.nil=>rfl
 | _,_,_,.cons h t,.cons h' t'=>by rw [hf _ _ _ h h',Gj hf t t']
theorem all_dec {α:Type}[DecidableEq α]:∀ (as bs:List α) (hl:as.length=bs.length),((List.range as.length).all fun j=>decide (as[j]? = bs[j]?))=decide (as=bs):=by
 intro as bs hl;apply Bool.eq_iff_iff.mpr;rw [decide_eq_true_iff,List.all_eq_true];constructor
 ·intro h;apply List.ext_getElem?;intro i;by_cases hi:i<as.length
  ·exact of_decide_eq_true (h i (qnA.mpr hi))
  ·rw [List.getElem?_eq_none (by omega),List.getElem?_eq_none (by omega)]
 ·rintro rfl i _;simp
def IC (K:FZ9){α:Type}(R:Hp->V->α->Prop):Hp->V->List α->Prop:=fun H x as=>∃ l xs,x = .ref l/\SqL K H l xs/\Paired (R H) xs as
theorem Ip {K:FZ9}{k:Nat}{α:Type}[DecidableEq α]{R:Hp->V->α->Prop}(E:EqTy K k R){X:Cx}{pins:List (Addr × Obj)}{σ:St}{H:Hp}{s:Shared}{A:Around}(hK:X.K=K)(I:Inv X pins σ H s)(hu:A.units+(k+1)<cLine)
  {xs ys:List V}{us vs:List Value}{as bs:List α}(rx:Vals xs us) (ry:Vals ys vs) (px:Paired (R H) xs as) (py:Paired (R H) ys bs) :
  ∀ j (h1:j<us.toArray.size) (h2:j<vs.toArray.size),SeqAt.EqAt A.in1 s us.toArray[j] vs.toArray[j] (decide (as[j]? = bs[j]?)):=by
 intro j h1 h2;have h1':j<us.length:=by simpa using h1
 have h2':j<vs.length:=by simpa using h2
 have lx:=rx.length;have ly:=ry.length;have lpx:=Paired.length px;have lpy:=Paired.length py;have ex:xs[j]? = some xs[j]:=qqA (by omega);have ey:ys[j]? = some ys[j]:=qqA (by omega);have ea:as[j]? = some as[j]:=qqA (by omega);have eb:bs[j]? = some bs[j]:=qqA (by omega);obtain ⟨u,hu',ru⟩:=rx.get ex;obtain ⟨v,hv',rv⟩:=ry.get ey
 have e1:us.toArray[j]=u:=by
  rw [qqA h1'] at hu'
  simpa using hu'
 have e2:vs.toArray[j]=v:=by
  rw [qqA h2'] at hv'
  simpa using hv'
 rw [e1,e2,ea,eb];have:=E.eq A.in1 hK I (show A.units+1+k<cLine by omega) ru rv (Paired.at' px ex ea) (Paired.at' py ey eb);have e3:decide (some as[j]=some bs[j])=decide (as[j]=bs[j]):=by simp
 rw [e3];exact this
theorem eqLst {K:FZ9}{k:Nat}{α:Type}[DecidableEq α]{R:Hp->V->α->Prop}(E:EqTy K k R):EqTy K (k+1) (IC K R):=by
 have fn:∀ {X:Cx}{pins:List (Addr × Obj)}{σ:St}{H:Hp}{s:Shared}{x:V}{a b:List α},X.K=K->Inv X pins σ H s->IC K R H x a->IC K R H x b->a=b:=by
  intro X pins σ H s x a b hK I ha hb;obtain ⟨l,xs,rfl,h1,p1⟩:=ha;obtain ⟨l',ys,e,h2,p2⟩:=hb;cases e;subst hK;have:=I.list_inj h1 h2;subst this;exact Gj (F:=R H) (fun _ _ _ p q=>E.fn rfl I p q) p1 p2
 have rc:∀ {X:Cx}{pins:List (Addr × Obj)}{σ:St}{H:Hp}{s:Shared}{x y:V}{u v:Value}{a b:List α}(A:Around),X.K=K->Inv X pins σ H s->A.units+(k+1)<cLine->RelV x u->RelV y v->IC K R H x a->IC K R H y b ->
   SeqAt.RcAt A s u v (decide (a=b))/\SeqAt.RcNeAt A s u v (!decide (a=b)):=by
  intro X pins σ H s x y u v a b A hK I hu r1 r2 ha hb;obtain ⟨l,xs,rfl,h1,p1⟩:=ha;obtain ⟨l',ys,rfl,h2,p2⟩:=hb;cases r1;cases r2;subst hK;obtain ⟨us,rx,plx,_⟩:=I.list h1;obtain ⟨vs,ry,ply,_⟩:=I.list h2;have lx:=rx.length;have ly:=ry.length;have lpx:=Paired.length p1;have lpy:=Paired.length p2;by_cases hl:a.length=b.length
  ·have hsz:us.toArray.size=vs.toArray.size:=by simp;omega
   have it:=Ip E rfl I hu rx ry p1 p2
   have ed:((List.range us.toArray.size).all fun j=>decide (a[j]? = b[j]?))=decide (a=b):=by
    rw [<- all_dec a b hl,qiB,<- lx,lpx]
   rw [<- ed];exact ⟨SeqAt.RcAt.lists plx.isList ply.isList hsz (by omega) it,SeqAt.RcNeAt.lists plx.isList ply.isList hsz (by omega) it⟩
  ·have hsz:(us.toArray.size != vs.toArray.size)=true:=by simp;omega
   have ne:a≠b:=fun e=>hl (by rw [e]);rw [decide_eq_false ne];exact ⟨SeqAt.RcAt.lists_lengths plx.isList ply.isList hsz (by omega),SeqAt.RcNeAt.lists_lengths plx.isList ply.isList hsz (by omega)⟩
 refine ⟨fn,?_,rc⟩;intro X pins σ H s x y u v a b A hK I hu r1 r2 ha hb;have h:=(rc A hK I hu r1 r2 ha hb).1;obtain ⟨l,xs,rfl,h1,p1⟩:=id ha;obtain ⟨l',ys,rfl,h2,p2⟩:=id hb;cases r1;cases r2;by_cases e:l=l'
 ·subst e;have:a=b:=fn hK I ha hb;rw [decide_eq_true this];exact SeqAt.EqAt.same _
 ·exact SeqAt.EqAt.of_refs e h
def Fh (K:FZ9){α β:Type}(R:Hp->V->α->Prop)(S:Hp->V->β->Prop):Hp->V->α × β->Prop:=fun H x p=>∃ t a b,x = .ref t/\SqT K H t [a,b]/\R H a p.1/\S H b p.2
theorem eqPair {K:FZ9}{k:Nat}{α β:Type}[DecidableEq α][DecidableEq β]{R:Hp->V->α->Prop}{S:Hp->V->β->Prop}(E:EqTy K k R)(G:EqTy K k S):EqTy K (k+1) (Fh K R S):=by
 have fn:∀ {X:Cx}{pins:List (Addr × Obj)}{σ:St}{H:Hp}{s:Shared}{x:V}{a b:α × β},X.K=K->Inv X pins σ H s->Fh K R S H x a->Fh K R S H x b->a=b:=by
  intro X pins σ H s x a b hK I ha hb;obtain ⟨l,x1,x2,rfl,h1,p1,p2⟩:=ha;obtain ⟨l',y1,y2,e,h2,q1,q2⟩:=hb;cases e;subst hK;have:=I.tuple_inj h1 h2;cases this;exact Prod.ext (E.fn rfl I p1 q1) (G.fn rfl I p2 q2)
 have rc:∀ {X:Cx}{pins:List (Addr × Obj)}{σ:St}{H:Hp}{s:Shared}{x y:V}{u v:Value}{a b:α × β}(A:Around),X.K=K->Inv X pins σ H s->A.units+(k+1)<cLine->RelV x u->RelV y v->Fh K R S H x a->Fh K R S H y b ->
   SeqAt.RcAt A s u v (decide (a=b))/\SeqAt.RcNeAt A s u v (!decide (a=b)):=by
  intro X pins σ H s x y u v a b A hK I hu r1 r2 ha hb;obtain ⟨l,x1,x2,rfl,h1,p1,p2⟩:=ha;obtain ⟨l',y1,y2,rfl,h2,q1,q2⟩:=hb;cases r1;cases r2;subst hK;obtain ⟨us,rx,plx,_⟩:=I.tuple h1;obtain ⟨vs,ry,ply,_⟩:=I.tuple h2;obtain ⟨u1,u2,rfl,ru1,ru2⟩:=Jl rx;obtain ⟨v1,v2,rfl,rv1,rv2⟩:=Jl ry;have e1:=E.eq A.in1 rfl I (show A.units+1+k<cLine by omega) ru1 rv1 p1 q1;have e2:=G.eq A.in1 rfl I (show A.units+1+k<cLine by omega) ru2 rv2 p2 q2
  have it:∀ j (h1:j < [u1,u2].toArray.size) (h2:j < [v1,v2].toArray.size),SeqAt.EqAt A.in1 s [u1,u2].toArray[j] [v1,v2].toArray[j] ((fun j=>if j=0 then decide (a.1=b.1) else decide (a.2=b.2)) j):=by
   intro j h1 h2
   match j,h1 with
   | 0,_=>exact e1
   | 1,_=>exact e2
   | j+2,h=>exact absurd h (by simp)
  have ed:((List.range (min [u1,u2].toArray.size [v1,v2].toArray.size)).all (fun j=>if j=0 then decide (a.1=b.1) else decide (a.2=b.2)) && [u1,u2].toArray.size == [v1,v2].toArray.size)=decide (a=b):=by
   apply Bool.eq_iff_iff.mpr;rw [decide_eq_true_iff];constructor
   ·intro h;have h:(decide (a.1=b.1) && (decide (a.2=b.2) && true) && true)=true:=h;simp only [Bool.and_true,Bool.and_eq_true,decide_eq_true_iff] at h;exact Prod.ext h.1 h.2
   ·rintro rfl;show (decide (a.1=a.1) && (decide (a.2=a.2) && true) && true)=true;simp
  rw [<- ed];exact ⟨SeqAt.RcAt.tuples plx ply (by omega) it,SeqAt.RcNeAt.tuples plx ply (by omega) it⟩
 refine ⟨fn,?_,rc⟩;intro X pins σ H s x y u v a b A hK I hu r1 r2 ha hb;have h:=(rc A hK I hu r1 r2 ha hb).1;obtain ⟨l,x1,x2,rfl,h1,p1,p2⟩:=id ha;obtain ⟨l',y1,y2,rfl,h2,q1,q2⟩:=id hb;cases r1;cases r2;by_cases e:l=l'
 ·subst e;have:a=b:=fn hK I ha hb;rw [decide_eq_true this];exact SeqAt.EqAt.same _
 ·exact SeqAt.EqAt.of_refs e h
section
variable {X:Cx}
theorem op_eqD {k j:Nat}{α:Type}[DecidableEq α]{R:Hp->V->α->Prop}(E:EqTy X.K k R)(hr:Room j X.A)(hk:k<=10):OpR X (compareOp .Eq) (fun x y H Q=>∃ a b,R H x a/\R H y b/\Q (.bl (decide (a=b))) H):=by
 intro pins s σ H x y v u Q I rx ry h;obtain ⟨a,b,h1,h2,q⟩:=h;exact (E.rc X.A rfl I (by have:=hr.un;omega) rx ry h1 h2).1 _ _ _ _ ⟨.bl _,H,I,rfl,q⟩
theorem op_neD {k j:Nat}{α:Type}[DecidableEq α]{R:Hp->V->α->Prop}(E:EqTy X.K k R)(hr:Room j X.A)(hk:k<=10):OpR X (compareOp .NotEq) (fun x y H Q=>∃ a b,R H x a/\R H y b/\Q (.bl (!decide (a=b))) H):=by
 intro pins s σ H x y v u Q I rx ry h;obtain ⟨a,b,h1,h2,q⟩:=h;exact (E.rc X.A rfl I (by have:=hr.un;omega) rx ry h1 h2).2 _ _ _ _ ⟨.bl _,H,I,rfl,q⟩
end
class Rp (α:Type) where
 rel:FZ9->Hp->V->α->Prop
 mono:∀ {K:FZ9}{H H':Hp}{v:V}{a:α},Same H H'->rel K H v a->rel K H' v a
theorem Same.rd {H H':Hp}{a:Addr}{u:HO}(s:Same H H')(h:Rd H a u):Rd H' a u:=by
 rcases h with h | ⟨o,h⟩
 ·exact .inl (s _ _ h)
 ·exact .inr ⟨o,s _ _ h⟩
theorem Same.tup {K:FZ9}{H H':Hp}{a:Addr}{xs:List V}(e:Same H H')(h:SqT K H a xs):SqT K H' a xs:=by
 rcases h with h|h
 ·exact .inl (e.rd h)
 ·exact .inr h
instance rpInt:Rp Int:=⟨fun _ _ v a=>v = .int a,fun _ h=>h⟩
instance rpBool:Rp Bool:=⟨fun _ _ v a=>v = .bl a,fun _ h=>h⟩
instance rpStr:Rp Str:=⟨fun _ _ v a=>v = .str a/\a.length<=sizeLine,fun _ h=>h⟩
instance rpUnit:Rp Unit:=⟨fun _ _ v _=>v = .non,fun _ h=>h⟩
instance rpList {α:Type}[Rp α]:Rp (List α) :=
 ⟨fun K H v as=>∃ l xs,v = .ref l/\Rd H l (.lst xs)/\xs.length<=sizeLine/\Paired (Rp.rel K H) xs as,
  fun s ⟨l,xs,e,h,z,p⟩=>⟨l,xs,e,s.rd h,z,Paired.imp' (fun _ _ r=>Rp.mono s r) p⟩⟩
instance rpPair {α β:Type}[Rp α][Rp β]:Rp (α × β) :=
 ⟨fun K H v p=>∃ t a b,v = .ref t/\SqT K H t [a,b]/\Rp.rel K H a p.1/\Rp.rel K H b p.2,
  fun s ⟨t,a,b,e,h,r1,r2⟩=>⟨t,a,b,e,s.tup h,Rp.mono s r1,Rp.mono s r2⟩⟩
structure T3 (α β γ:Type) where
 a:α
 b:β
 c:γ
 deriving DecidableEq
structure T4 (α β γ δ:Type) where
 a:α
 b:β
 c:γ
 d:δ
 deriving DecidableEq
structure Tp (α:Type) where
 l:List α
 deriving DecidableEq
instance rpTp {α:Type}[Rp α]:Rp (Tp α) :=
 ⟨fun K H v as=>∃ t xs,v = .ref t/\SqT K H t xs/\xs.length<=sizeLine/\Paired (Rp.rel K H) xs as.l,
  fun s ⟨l,xs,e,h,z,p⟩=>⟨l,xs,e,s.tup h,z,Paired.imp' (fun _ _ r=>Rp.mono s r) p⟩⟩
instance rpOpt {α:Type}[Rp α]:Rp (Option α) :=
 ⟨fun K H v o=>match o with|none=>v = .non|some a=>Rp.rel K H v a,
  fun {K H H' v o} s h=>by cases o with|none=>exact h|some a=>exact Rp.mono (α:=α) s h⟩
class RpA (α:Type) where
 n:Nat
 rel:FZ9->Hp->List V->α->Prop
 mono:∀ {K:FZ9}{H H':Hp}{v:List V}{a:α},Same H H'->rel K H v a->rel K H' v a
 len:∀ {K:FZ9}{H:Hp}{v:List V}{a:α},rel K H v a->v.length=n
instance raNil:RpA Unit:=⟨0,fun _ _ vs _=>vs=[],fun _ h=>h,fun h=>by rw [h];rfl⟩
instance raCons {α β:Type}[Rp α][RpA β]:RpA (α × β) :=
 ⟨RpA.n β+1,fun K H vs p=>∃ v r,vs=v::r/\Rp.rel K H v p.1/\RpA.rel K H r p.2,
  fun s ⟨v,r,e,h1,h2⟩=>⟨v,r,e,Rp.mono s h1,RpA.mono s h2⟩,fun ⟨v,r,e,h1,h2⟩=>by rw [e,qfA,RpA.len h2]⟩
structure Ext (G H G' H':Hp):Prop where
 gg:Same G G'
 gh:Same G' H'
 hh:Same H H'
 no:∀ b,G b=none->H b≠none->G' b=none
section
variable {G H G1 H1 G2 H2 G0 H0:Hp}{p:Addr}{o:HO}
theorem Ext.refl (s:Same G H):Ext G H G H:=⟨.refl _,s,.refl _,fun _ h _=>h⟩
theorem Ext.trans (x:Ext G H G1 H1)(y:Ext G1 H1 G2 H2):Ext G H G2 H2 :=
 ⟨x.gg.trans y.gg,y.gh,x.hh.trans y.hh,fun b h1 h2=>y.no b (x.no b h1 h2) fun z=>h2 (x.hh.free z)⟩
theorem Same.both (s:Same G H):Same (upd G p o) (upd H p o):=fun b u e=>by
 by_cases hb:b=p
 ·subst hb;rw [AM] at e ⊢;exact e
 ·rw [AK hb] at e ⊢;exact s b u e
theorem Ext.new (s:Same G H)(h:H p=none):Ext G H (upd G p o) (upd H p o) :=
 ⟨Same.new (s.free h),s.both,Same.new h,fun b h1 h2=>by
  have hb:b≠p:=fun z=>h2 (by rw [z];exact h);rw [AK hb]
  exact h1⟩
theorem Ext.own (s:Same G H)(h:H p=none):Ext G H G (upd H p o):=⟨.refl _,s.trans (Same.new h),Same.new h,fun _ h _=>h⟩
theorem Ext.put (x:Ext G0 H0 G H)(h0:H0 p=none)(hg:G p=none):Ext G0 H0 G (upd H p o):=⟨x.gg,x.gh.put hg,x.hh.put h0,x.no⟩
theorem Ext.frz (x:Ext G0 H0 G H)(h0:H0 p=none)(hg:G p=none)(hh:H p=some o):Ext G0 H0 (upd G p o) H :=
 ⟨x.gg.trans (Same.new hg),fun b u e=>by
  by_cases hb:b=p
  ·subst hb;rw [AM] at e;rw [hh];exact e
  ·rw [AK hb] at e
   exact x.gh b u e,x.hh,fun b h1 h2=>by
  have hb:b≠p:=fun z=>h2 (by rw [z];exact h0);rw [AK hb]
  exact x.no b h1 h2⟩
end
section
variable {K:FZ9}{σ:St}{G:Hp}
def EV (K:FZ9){α:Type}[Rp α](te:TE)(σ:St)(G:Hp)(m:Option α):Prop :=
 ∀ G1,Same G G1->∀ a,m=some a->∀ H,Same G1 H->∀ Q:VK,(∀ v G2 H2,Ext G1 H G2 H2->Rp.rel K G2 v a->Q v H2)->te σ H Q
def TV (t:TT)(σ:St)(G:Hp)(m:Option Bool):Prop :=
 ∀ G1,Same G G1->∀ a,m=some a->∀ H,Same G1 H->∀ Q:Bool->Hp->Prop,(∀ G2 H2,Ext G1 H G2 H2->Q a H2)->t σ H Q
def LV (K:FZ9){α:Type}[Rp α](t:TA)(σ:St)(G:Hp)(n:Nat)(m:Option (List α)):Prop :=
 ∀ G1,Same G G1->∀ a,m=some a->∀ H,Same G1 H->∀ Q:List V->Hp->Prop,(∀ vs G2 H2,Ext G1 H G2 H2->vs.length=n->Paired (Rp.rel K G2) vs a->Q vs H2)->t σ H Q
def OV (t:TO)(σ:St)(G:Hp)(m:Option (Option Int)):Prop :=
 ∀ G1,Same G G1->∀ a,m=some a->∀ H,Same G1 H->∀ Q:Option Int->Hp->Prop,(∀ G2 H2,Ext G1 H G2 H2->Q a H2)->t σ H Q
def FV (K:FZ9){α:Type}[Rp α](te:TE)(σ:St)(G:Hp)(m:Option (List α)):Prop :=
 ∀ G1,Same G G1->∀ a,m=some a->∀ H,Same G1 H->∀ Q:VK,(∀ p vs G2 H2,Ext G1 H G2 H2->H p=none->G2 p=none->H2 p=some (.lst vs)->vs.length<=sizeLine->Paired (Rp.rel K G2) vs a->Q (.ref p) H2)->te σ H Q
section
variable {α β γ δ:Type}[Rp α][Rp β][Rp γ][Rp δ]{ta tb tc td:TE}{ma:Option α}{mb:Option β}{mc:Option γ}
theorem EV.run {te:TE}{H:Hp}{a:α}{Q:VK}{m:Option α}(e:EV K te σ G m)(hm:m=some a)(s:Same G H)(k:∀ v G2 H2,Ext G H G2 H2->Rp.rel K G2 v a->Q v H2):te σ H Q:=e G (.refl G) a hm H s Q k
theorem TV.run {t:TT}{H:Hp}{a:Bool}{Q:Bool->Hp->Prop}{m:Option Bool}(e:TV t σ G m)(hm:m=some a)(s:Same G H)(k:∀ G2 H2,Ext G H G2 H2->Q a H2):t σ H Q:=e G (.refl G) a hm H s Q k
theorem EV.of {te:TE}{m m':Option α}(e:EV K te σ G m)(h:m=m'):EV K te σ G m':=h ▸ e
theorem FV.ev {te:TE}{m:Option (List α)}(e:FV K te σ G m):EV K te σ G m:=by
 intro G1 s1 a ha H sH Q k;refine e G1 s1 a ha H sH Q fun p vs G2 H2 x h0 hg hh hz hp=>?_;exact k _ _ _ (x.frz h0 hg hh) ⟨p,vs,rfl,.inl AM,hz,Paired.imp' (fun _ _ r=>Rp.mono (Same.new hg) r) hp⟩
theorem ev_var {i:Nat}{v:V}{a:α}(h:σ[i]? = some (some v))(r:Rp.rel K G v a):EV K (GG i) σ G (some a):=fun G1 s a' e H sH Q k=>by
 cases e;exact ⟨v,h,k v G1 H (.refl sH) (Rp.mono s r)⟩
theorem ev_c {v:V}{a:α}(h:∀ G,Rp.rel K G v a):EV K (tC v) σ G (some a):=fun G1 s a' e H sH Q k=>by
 cases e;exact k v G1 H (.refl sH) (h _)
theorem Ai {i:Int}:EV K (tC (.int i)) σ G (some i):=ev_c fun _=>rfl
theorem DJ {b:Bool}:EV K (tC (.bl b)) σ G (some b):=ev_c fun _=>rfl
theorem BD {x:Str}(h:x.length<=sizeLine:=by decide +kernel):EV K (tC (.str x)) σ G (some x):=ev_c fun _=>⟨rfl,h⟩
theorem ev_n:EV K (tC .non) σ G (some ()):=ev_c fun _=>rfl
theorem DH:EV K (tC .non) σ G (some (none:Option α)):=ev_c fun _=>rfl
theorem HL {te:TE}{m:Option α}(e:EV K te σ G m):EV K te σ G (m.bind fun a=>some (some a)):=by
 clear 7;obtain ⟨a,ha,hc⟩:=qaA.mp hc;cases hc;exact e G1 s1 a ha H sH Q k
theorem BE {r:R2}{f:α->β->Option γ}
  (h:∀ {G H:Hp}{v u:V}{a:α}{b:β}{c:γ},Same G H->Rp.rel K G v a->Rp.rel K G u b->f a b=some c->∀ {Q:VK},(∀ w G2 H2,Ext G H G2 H2->Rp.rel K G2 w c->Q w H2)->r v u H Q)
  (ea:EV K ta σ G ma) (eb:EV K tb σ G mb):EV K (tOp r ta tb) σ G (ma.bind fun a=>mb.bind fun b=>f a b):=by
 clear 7;obtain ⟨a,ha,hc⟩:=qaA.mp hc;obtain ⟨b,hb,hc⟩:=qaA.mp hc;clear 8 ea a ha;refine eb G2 (s1.trans x2.gg) b hb H2 x2.gh _ fun u G3 H3 x3 r3=>?_;exact h x3.gh (Rp.mono x3.gg r2) r3 hc fun w G4 H4 x4 r4=>k w G4 H4 ((x2.trans x3).trans x4) r4
theorem ev_un {r:V->Hp->VK->Prop}{f:α->Option γ}
  (h:∀ {G H:Hp}{v:V}{a:α}{c:γ},Same G H->Rp.rel K G v a->f a=some c->∀ {Q:VK},(∀ w G2 H2,Ext G H G2 H2->Rp.rel K G2 w c->Q w H2)->r v H Q)
  (ea:EV K ta σ G ma):EV K (tUn r ta) σ G (ma.bind fun a=>f a):=by
 clear 7;obtain ⟨a,ha,hc⟩:=qaA.mp hc;clear 8 ea a ha;exact h x2.gh r2 hc fun w G4 H4 x4 r4=>k w G4 H4 (x2.trans x4) r4
instance decMul (i j:Int):Decidable (CMul i j):=by unfold CMul;infer_instance
instance decDiv (i j:Int):Decidable (Iv i j):=by unfold Iv;infer_instance
def Im (a b:Int):Option Int:=if CMul a b then some (a * b) else none
def KF (a b:Int):Option Int:=if Iv a b then some (a / b) else none
def II (a b:Int):Option Int:=if 0<b then some (a % b) else none
theorem Av {p:Prop}[Decidable p]{α:Type}{a c:α}(h:(if p then some a else none)=some c):p/\a=c:=by
 by_cases hp:p
 ·rw [if_pos hp] at h;exact ⟨hp,qyA h⟩
 ·rw [if_neg hp] at h;cases h
section
variable {ia ib:Option Int}
theorem BY (ea:EV K ta σ G ia)(eb:EV K tb σ G ib):EV K (tOp (Gm K) ta tb) σ G (ia.bind fun a=>ib.bind fun b=>some (a+b)) :=
 BE (fun s ra rb e Q k=>by cases ra;cases rb;cases e;exact k _ _ _ (.refl s) rfl) ea eb
theorem ev_sub (ea:EV K ta σ G ia)(eb:EV K tb σ G ib):EV K (tOp (rI0 fun i j=>.int (i - j)) ta tb) σ G (ia.bind fun a=>ib.bind fun b=>some (a - b)) :=
 BE (fun s ra rb e Q k=>by cases ra;cases rb;cases e;exact ⟨_,_,rfl,rfl,k _ _ _ (.refl s) rfl⟩) ea eb
theorem JF (ea:EV K ta σ G ia)(eb:EV K tb σ G ib):EV K (tOp (rMul K) ta tb) σ G (ia.bind fun a=>ib.bind fun b=>Im a b) :=
 BE (fun s ra rb e Q k=>by cases ra;cases rb;obtain ⟨h,rfl⟩:=Av e;exact ⟨h,k _ _ _ (.refl s) rfl⟩) ea eb
theorem He (ea:EV K ta σ G ia)(eb:EV K tb σ G ib):EV K (tOp (rI (fun _ j=>0<j) fun i j=>.int (i % j)) ta tb) σ G (ia.bind fun a=>ib.bind fun b=>II a b) :=
 BE (fun s ra rb e Q k=>by cases ra;cases rb;obtain ⟨h,rfl⟩:=Av e;exact ⟨_,_,rfl,rfl,h,k _ _ _ (.refl s) rfl⟩) ea eb
theorem ev_div (ea:EV K ta σ G ia)(eb:EV K tb σ G ib):EV K (tOp (rI Iv fun i j=>.int (i / j)) ta tb) σ G (ia.bind fun a=>ib.bind fun b=>KF a b) :=
 BE (fun s ra rb e Q k=>by cases ra;cases rb;obtain ⟨h,rfl⟩:=Av e;exact ⟨_,_,rfl,rfl,h,k _ _ _ (.refl s) rfl⟩) ea eb
theorem ev_neg (ea:EV K ta σ G ia):EV K (tUn (rU fun i=>.int (-i)) ta) σ G (ia.bind fun a=>some (-a)) :=
 ev_un (fun s ra e Q k=>by cases ra;cases e;exact ⟨_,rfl,k _ _ _ (.refl s) rfl⟩) ea
theorem EG {p:Int->Int->Bool}{q:List Nat->List Nat->Bool}(ea:EV K ta σ G ia)(eb:EV K tb σ G ib):EV K (tOp (Ii p q) ta tb) σ G (ia.bind fun a=>ib.bind fun b=>some (p a b)) :=
 BE (fun s ra rb e Q k=>by cases ra;cases rb;cases e;exact k _ _ _ (.refl s) rfl) ea eb
theorem DO (ea:EV K ta σ G ia)(eb:EV K tb σ G ib):EV K (tOp rEq ta tb) σ G (ia.bind fun a=>ib.bind fun b=>some (decide (a=b))) :=
 BE (fun s ra rb e Q k=>by cases ra;cases rb;cases e;exact ⟨rfl,k _ _ _ (.refl s) (by show V.bl _=V.bl _;congr 1;simp)⟩) ea eb
theorem Ft (ea:EV K ta σ G ia)(eb:EV K tb σ G ib):EV K (tOp rNe ta tb) σ G (ia.bind fun a=>ib.bind fun b=>some (!decide (a=b))) :=
 BE (fun s ra rb e Q k=>by cases ra;cases rb;cases e;exact ⟨rfl,k _ _ _ (.refl s) (by show V.bl _=V.bl _;congr 1;simp)⟩) ea eb
end
section
variable {ba bb:Option Bool}
theorem Iy (ea:EV K ta σ G ba)(eb:EV K tb σ G bb):EV K (tAndV ta tb) σ G (ba.bind fun a=>cond a bb (some false)):=by
 clear 7;obtain ⟨a,ha,hc⟩:=qaA.mp hc;clear 8 ea a ha;cases r2;refine ⟨_,rfl,?_⟩
 cases a with
 | false=>cases hc;exact B8 (k _ _ _ x2 rfl)
 | true=>exact B7 (eb G2 (s1.trans x2.gg) c hc H2 x2.gh _ fun u G3 H3 x3 r3=>k _ _ _ (x2.trans x3) r3)
theorem ev_ifx {tt:TT}{m1 m2:Option α}(et:TV tt σ G ba)(ea:EV K ta σ G m1)(eb:EV K tb σ G m2):EV K (tIf tt ta tb) σ G (ba.bind fun a=>cond a m1 m2):=by
 clear 7;obtain ⟨a,ha,hc⟩:=qaA.mp hc;refine et G1 s1 a ha H sH _ fun G2 H2 x2=>?_
 cases a with
 | true=>exact B7 (ea G2 (s1.trans x2.gg) c hc H2 x2.gh _ fun u G3 H3 x3 r3=>k _ _ _ (x2.trans x3) r3)
 | false=>exact B8 (eb G2 (s1.trans x2.gg) c hc H2 x2.gh _ fun u G3 H3 x3 r3=>k _ _ _ (x2.trans x3) r3)
theorem AI (ea:EV K ta σ G ba):TV (tTest ta) σ G ba:=by
 clear 7;clear 8 ea c hc;cases r2;exact ⟨_,rfl,k _ _ x2⟩
theorem Bl {t:TT}(ea:TV t σ G ba):TV (tNot t) σ G (ba.bind fun a=>some (!a)):=by
 clear 7;obtain ⟨a,ha,hc⟩:=qaA.mp hc;cases hc;exact ea G1 s1 a ha H sH _ fun G2 H2 x2=>k _ _ x2
theorem tv_and {t u:TT}(ea:TV t σ G ba)(eb:TV u σ G bb):TV (tAnd t u) σ G (ba.bind fun a=>cond a bb (some false)):=by
 clear 7;obtain ⟨a,ha,hc⟩:=qaA.mp hc;refine ea G1 s1 a ha H sH _ fun G2 H2 x2=>?_
 cases a with
 | false=>cases hc;exact B8 (k _ _ x2)
 | true=>exact B7 (eb G2 (s1.trans x2.gg) c hc H2 x2.gh _ fun G3 H3 x3=>k _ _ (x2.trans x3))
theorem E8 {t u:TT}(ea:TV t σ G ba)(eb:TV u σ G bb):TV (tOr t u) σ G (ba.bind fun a=>cond a (some true) bb):=by
 clear 7;obtain ⟨a,ha,hc⟩:=qaA.mp hc;refine ea G1 s1 a ha H sH _ fun G2 H2 x2=>?_
 cases a with
 | true=>cases hc;exact B7 (k _ _ x2)
 | false=>exact B8 (eb G2 (s1.trans x2.gg) c hc H2 x2.gh _ fun G3 H3 x3=>k _ _ (x2.trans x3))
theorem tv_tru {f:α->Bool}(h:∀ {G:Hp}{v:V}{a:α},Rp.rel K G v a->TruV K v G (f a))(mn:∀ {G H:Hp}{v:V}{k:Bool},Same G H->TruV K v G k->TruV K v H k)(ea:EV K ta σ G ma) :
  TV (fun σ H Q=>ta σ H fun x H'=>∃ k,TruV K x H' k/\Q k H') σ G (ma.bind fun a=>some (f a)):=by
 clear 7;obtain ⟨a,ha,hc⟩:=qaA.mp hc;cases hc;clear 8 ea a ha;exact ⟨_,mn x2.gh (h r2),k _ _ x2⟩
end
end
end
section
variable {K:FZ9}{σ:St}{G:Hp}{α β γ δ:Type}[Rp α][Rp β][Rp γ][Rp δ]{ta tb tc td:TE}{ma:Option α}{mb:Option β}{mc:Option γ}{md:Option δ}
section
variable {sa sb:Option Str}{ia ib:Option Int}
def F0 (a b:Str):Option Str:=if a.length+b.length<=sizeLine then some (a++b) else none
theorem Bw (ea:EV K ta σ G sa)(eb:EV K tb σ G sb):EV K (tOp (Gm K) ta tb) σ G (sa.bind fun a=>sb.bind fun b=>F0 a b) :=
 BE (fun s ra rb e Q k=>by
  obtain ⟨rfl,z1⟩:=ra;obtain ⟨rfl,z2⟩:=rb;obtain ⟨h,rfl⟩:=Av e
  exact ⟨h,k _ _ _ (.refl s) ⟨rfl,by rw [len_app];exact h⟩⟩) ea eb
theorem FZ {p:Int->Int->Bool}{q:List Nat->List Nat->Bool}(ea:EV K ta σ G sa)(eb:EV K tb σ G sb):EV K (tOp (Ii p q) ta tb) σ G (sa.bind fun a=>sb.bind fun b=>some (q a.cps.toList b.cps.toList)) :=
 BE (fun s ra rb e Q k=>by obtain ⟨rfl,z1⟩:=ra;obtain ⟨rfl,z2⟩:=rb;cases e;exact k _ _ _ (.refl s) rfl) ea eb
theorem EL (ea:EV K ta σ G sa)(eb:EV K tb σ G sb):EV K (tOp rEq ta tb) σ G (sa.bind fun a=>sb.bind fun b=>some (decide (a=b))) :=
 BE (fun s ra rb e Q k=>by obtain ⟨rfl,z1⟩:=ra;obtain ⟨rfl,z2⟩:=rb;cases e;exact ⟨rfl,k _ _ _ (.refl s) (by show V.bl _=V.bl _;congr 1;simp)⟩) ea eb
theorem ev_neS (ea:EV K ta σ G sa)(eb:EV K tb σ G sb):EV K (tOp rNe ta tb) σ G (sa.bind fun a=>sb.bind fun b=>some (!decide (a=b))) :=
 BE (fun s ra rb e Q k=>by obtain ⟨rfl,z1⟩:=ra;obtain ⟨rfl,z2⟩:=rb;cases e;exact ⟨rfl,k _ _ _ (.refl s) (by show V.bl _=V.bl _;congr 1;simp)⟩) ea eb
def inS (a b:Str):Bool:=!(Builtin.Str.occurrences b a 0 b.length 1).isEmpty
theorem KL (ea:EV K ta σ G sa)(eb:EV K tb σ G sb):EV K (tOp (fun x y H Q=>∃ i j,x = .str i/\y = .str j/\Q (.bl (!(!(Builtin.Str.occurrences j i 0 j.length 1).isEmpty))) H) ta tb) σ G (sa.bind fun a=>sb.bind fun b=>some (!inS a b)) :=
 BE (fun s ra rb e Q k=>by obtain ⟨rfl,z1⟩:=ra;obtain ⟨rfl,z2⟩:=rb;cases e;exact ⟨_,_,rfl,rfl,k _ _ _ (.refl s) rfl⟩) ea eb
theorem F2 (ea:EV K ta σ G sa)(eb:EV K tb σ G ib):EV K (tOp (rAt K) ta tb) σ G (sa.bind fun a=>ib.bind fun i=>(atI a.cps.toList i).bind fun c=>some (⟨#[c]⟩:Str)) :=
 BE (fun s ra rb e Q k=>by
  obtain ⟨rfl,z1⟩:=ra;cases rb;obtain ⟨c,hc,e⟩:=qaA.mp e;cases e
  exact ⟨z1,c,hc,k _ _ _ (.refl s) ⟨rfl,by show 1<=sizeLine;decide⟩⟩) ea eb
end
theorem DS {R:V->α->Prop}{xs:List V}{as:List α}{i:Int}{a:α}(p:Paired R xs as)(h:atI as i=some a):∃ v,atI xs i=some v/\R v a:=by
 have hl:=Paired.length p;unfold atI at h ⊢;obtain ⟨j,hj,h⟩:=qaA.mp h;rw [hl,hj]
 have hlt:j<xs.length:=by
  have:=(qpA.mp h).1;omega
 exact ⟨xs[j],qqA hlt,Paired.at' p (qqA hlt) h⟩
theorem Paired.app {α β:Type}{F:α->β->Prop}:∀ {l1 l2:List α}{m1 m2:List β},Paired F l1 m1->Paired F l2 m2->Paired F (l1++l2) (m1++m2)
 | _,_,_,_,.nil,h=>h
 | _,_,_,_,.cons r t,h=>.cons r (Paired.app t h)
theorem Paired.tk {α β:Type}{F:α->β->Prop}:∀ (n:Nat) {l:List α}{m:List β},Paired F l m->Paired F (l.take n) (m.take n)
 | 0,_,_,_=>by simpa using .nil
 | n+1,_,_,.nil=>by simpa using .nil
 | n+1,_,_,.cons r t=>.cons r (Paired.tk n t)
theorem Paired.dp {α β:Type}{F:α->β->Prop}:∀ (n:Nat) {l:List α}{m:List β},Paired F l m->Paired F (l.drop n) (m.drop n)
 | 0,_,_,h=>h
 | n+1,_,_,.nil=>by simpa using .nil
 | n+1,_,_,.cons r t=>Paired.dp n t
theorem Paired.rep {α β:Type}{F:α->β->Prop}{l:List α}{m:List β}(h:Paired F l m):∀ n:Nat,Paired F (List.replicate n l).flatten (List.replicate n m).flatten
 | 0=>.nil
 | n+1=>by
  rw [List.replicate_succ,List.replicate_succ,List.flatten_cons,List.flatten_cons];exact Paired.app h (Paired.rep h n)
section
variable {la lb:Option (List α)}{ia ib:Option Int}
theorem FH (ea:EV K ta σ G la)(eb:EV K tb σ G ib):EV K (tOp (rAt K) ta tb) σ G (la.bind fun a=>ib.bind fun i=>atI a i) :=
 BE (fun s ra rb e Q k=>by
  obtain ⟨l,xs,rfl,h,z,p⟩:=ra;cases rb;obtain ⟨v,hv,r⟩:=DS p e
  exact .inl ⟨xs,v,.inl (s.rd h),hv,k _ _ _ (.refl s) r⟩) ea eb
theorem JK {τ:Type}[Rp τ]{mt:Option τ}{i:Int}{f:τ->α}(h:∀ {G:Hp}{v:V}{p:τ},Rp.rel K G v p->∃ t xs w,v = .ref t/\SqT K G t xs/\atI xs i=some w/\Rp.rel K G w (f p))(ea:EV K ta σ G mt) :
  EV K (tOp (rAt K) ta (tC (.int i))) σ G (mt.bind fun p=>some (f p)):=by
 clear 7;obtain ⟨a,ha,hc⟩:=qaA.mp hc;cases hc;clear 8 ea a ha;obtain ⟨t,xs,w,rfl,ht,hw,r⟩:=h r2;exact .inr ⟨xs,w,x2.gh.tup ht,hw,k _ _ _ x2 r⟩
theorem Fq {mt:Option (α × β)}(ea:EV K ta σ G mt):EV K (tOp (rAt K) ta (tC (.int 0))) σ G (mt.bind fun p=>some p.1) :=
 JK (τ:=α × β) (fun ⟨t,a,b,e,h,r1,r2⟩=>⟨t,_,a,e,h,rfl,r1⟩) ea
theorem F8 {mt:Option (α × β)}(ea:EV K ta σ G mt):EV K (tOp (rAt K) ta (tC (.int 1))) σ G (mt.bind fun p=>some p.2) :=
 JK (τ:=α × β) (fun ⟨t,a,b,e,h,r1,r2⟩=>⟨t,_,b,e,h,rfl,r2⟩) ea
theorem Gg {H:Hp}{Q:VK}{as:List α}{G1:Hp}(s:Same G1 H){vs:List V}(hz:vs.length<=sizeLine)(hp:Paired (Rp.rel K G1) vs as)
  (k:∀ p vs G2 H2,Ext G1 H G2 H2->H p=none->G2 p=none->H2 p=some (.lst vs)->vs.length<=sizeLine->Paired (Rp.rel K G2) vs as->Q (.ref p) H2):∀ p,H p=none->Q (.ref p) (upd H p (.lst vs)) :=
 fun p h=>k p vs G1 _ (.own s h) h (s.free h) AM hz hp
theorem FV.mono {H H' G1 G2:Hp}{as:List α}{Q:VK}(x:Ext G1 H G2 H')
  (k:∀ p vs G3 H3,Ext G1 H G3 H3->H p=none->G3 p=none->H3 p=some (.lst vs)->vs.length<=sizeLine->Paired (Rp.rel K G3) vs as->Q (.ref p) H3) :
  ∀ p vs G3 H3,Ext G2 H' G3 H3->H' p=none->G3 p=none->H3 p=some (.lst vs)->vs.length<=sizeLine->Paired (Rp.rel K G3) vs as->Q (.ref p) H3 :=
 fun p vs G3 H3 y h0=>k p vs G3 H3 (x.trans y) (x.hh.free h0)
def catL {α:Type}(a b:List α):Option (List α):=if a.length+b.length<=sizeLine then some (a++b) else none
theorem Ey (ea:EV K ta σ G la)(eb:EV K tb σ G lb):FV K (tOp (Gm K) ta tb) σ G (la.bind fun a=>lb.bind fun b=>catL a b):=by
 clear 7;obtain ⟨a,ha,hc⟩:=qaA.mp hc;obtain ⟨b,hb,hc⟩:=qaA.mp hc;obtain ⟨hl,rfl⟩:=Av hc;clear 8 ea a ha;refine eb G2 (s1.trans x2.gg) b hb H2 x2.gh _ fun u G3 H3 x3 r3=>?_;obtain ⟨l1,xs,rfl,h1,z1,p1⟩:=Rp.mono x3.gg r2;obtain ⟨l2,ys,rfl,h2,z2,p2⟩:=r3;have e1:=Paired.length p1;have e2:=Paired.length p2;have hz:(xs++ys).length<=sizeLine:=by rw [qeA];omega
 exact ⟨xs,ys,x3.gh.rd h1,x3.gh.rd h2,by rw [qeA] at hz;exact hz,Gg x3.gh hz (Paired.app p1 p2) (FV.mono (x2.trans x3) k)⟩
def Fj {α:Type}(xs:List α)(lo hi:Option Int):List α:=(xs.drop (HT.sIx xs.length 0 lo)).take (HT.sIx xs.length xs.length hi - HT.sIx xs.length 0 lo)
theorem Paired.cut {α:Type}{R:V->α->Prop}{xs:List V}{as:List α}(p:Paired R xs as)(lo hi:Option Int):Paired R (Ij xs lo hi) (Fj as lo hi):=by
 unfold Ij Fj;rw [Paired.length p];exact Paired.tk _ (Paired.dp _ p)
section
variable {t1 t2:TO}{m1 m2:Option (Option Int)}
theorem Bq:OV Jd σ G (some none):=fun G1 s1 a ha H sH Q k=>by
 cases ha;exact k _ _ (.refl sH)
theorem BN (ea:EV K ta σ G ia):OV (tPart ta) σ G (ia.bind fun i=>some (some i)):=by
 clear 7;obtain ⟨a,ha,hc⟩:=qaA.mp hc;cases hc;clear 8 ea a ha;cases r2;exact ⟨_,rfl,k _ _ x2⟩
theorem Fx (ea:EV K ta σ G la)(e1:OV t1 σ G m1)(e2:OV t2 σ G m2):FV K (tSl (rSl K) ta t1 t2) σ G (la.bind fun a=>m1.bind fun lo=>m2.bind fun hi=>some (Fj a lo hi)):=by
 clear 7;obtain ⟨a,ha,hc⟩:=qaA.mp hc;obtain ⟨lo,hlo,hc⟩:=qaA.mp hc;obtain ⟨hi,hhi,hc⟩:=qaA.mp hc;cases hc;clear 8 ea a ha;refine e1 G2 (s1.trans x2.gg) lo hlo H2 x2.gh _ fun G3 H3 x3=>?_;refine e2 G3 (s1.trans (x2.trans x3).gg) hi hhi H3 x3.gh _ fun G4 H4 x4=>?_;obtain ⟨l,xs,rfl,h,z,p⟩:=Rp.mono (x3.trans x4).gg r2;exact ⟨xs,.inl (x4.gh.rd h),Gg x4.gh (qwA (FL _ _ _) z) (Paired.cut p lo hi) (FV.mono ((x2.trans x3).trans x4) k)⟩
theorem BP {sa:Option Str}(ea:EV K ta σ G sa)(e1:OV t1 σ G m1)(e2:OV t2 σ G m2):EV K (tSl (rSl K) ta t1 t2) σ G (sa.bind fun a=>m1.bind fun lo=>m2.bind fun hi=>some (Txt.slice a lo hi)):=by
 clear 7;obtain ⟨a,ha,hc⟩:=qaA.mp hc;obtain ⟨lo,hlo,hc⟩:=qaA.mp hc;obtain ⟨hi,hhi,hc⟩:=qaA.mp hc;cases hc;clear 8 ea a ha;refine e1 G2 (s1.trans x2.gg) lo hlo H2 x2.gh _ fun G3 H3 x3=>?_;refine e2 G3 (s1.trans (x2.trans x3).gg) hi hhi H3 x3.gh _ fun G4 H4 x4=>?_;obtain ⟨rfl,z⟩:=r2;exact ⟨z,k _ _ _ ((x2.trans x3).trans x4) ⟨rfl,qwA (Txt.slice_le _ _ _) z⟩⟩
end
end
section
variable {t:TA}{n:Nat}{ml:Option (List α)}
theorem BJ:LV K Bd σ G 0 (some ([]:List α)):=fun G1 s1 a ha H sH Q k=>by
 cases ha;exact k _ _ _ (.refl sH) rfl .nil
theorem AF (ea:EV K ta σ G ma)(er:LV K t σ G n ml):LV K (Ao ta t) σ G (n+1) (ma.bind fun a=>ml.bind fun r=>some (a::r)):=by
 clear 7;obtain ⟨a,ha,hc⟩:=qaA.mp hc;obtain ⟨r,hr,hc⟩:=qaA.mp hc;cases hc;clear 8 ea a ha;refine er G2 (s1.trans x2.gg) r hr H2 x2.gh _ fun vs G3 H3 x3 hl hp=>?_;exact k _ _ _ (x2.trans x3) (by rw [qfA,hl]) (.cons (Rp.mono x3.gg r2) hp)
theorem Bz (e:LV K t σ G n ml)(hn:n<=sizeLine:=by decide):FV K (tLst t) σ G ml:=by
 clear 7;refine e G1 s1 c hc H sH _ fun vs G2 H2 x2 hl hp=>?_;exact ⟨by omega,Gg x2.gh (by omega) hp (FV.mono x2 k)⟩
theorem EU (e:LV K t σ G n ml)(hn:n<=sizeLine:=by decide):EV K (tTup t) σ G (ml.bind fun l=>some (Tp.mk l)):=by
 clear 7;obtain ⟨l,hl,hc⟩:=qaA.mp hc;cases hc;refine e G1 s1 l hl H sH _ fun vs G2 H2 x2 hl hp=>⟨by omega,fun p h=>?_⟩;exact k _ _ _ (x2.trans (.new x2.gh h)) ⟨p,vs,rfl,SqT.of AM,by omega,Paired.imp' (fun _ _ r=>Rp.mono (Same.new (x2.gh.free h)) r) hp⟩
theorem El (ea:EV K ta σ G ma)(eb:EV K tb σ G mb):EV K (tTup (Ao ta (Ao tb Bd))) σ G (ma.bind fun a=>mb.bind fun b=>some (a,b)):=by
 clear 7;obtain ⟨a,ha,hc⟩:=qaA.mp hc;obtain ⟨b,hb,hc⟩:=qaA.mp hc;cases hc;clear 8 ea a ha;refine eb G2 (s1.trans x2.gg) b hb H2 x2.gh _ fun u G3 H3 x3 r3=>⟨by show 2<=sizeLine;decide,fun p h=>?_⟩;have s:=Same.new (o:=.tup [v,u]) (x3.gh.free h);exact k _ _ _ ((x2.trans x3).trans (.new x3.gh h)) ⟨p,v,u,rfl,SqT.of AM,Rp.mono (x3.gg.trans s) r2,Rp.mono s r3⟩
end
section
variable {t:TA}{A B:Type}[RpA A][RpA B]{mA:Option A}
def spM (K:FZ9){A:Type}{ρ:Type}[RpA A][Rp ρ](m:A->Option ρ):Sp:=fun vs H Q _ =>
 ∃ G a r,Same G H/\RpA.rel K G vs a/\m a=some r/\∀ v G2 H2,Ext G H G2 H2->Rp.rel K G2 v r->Q v H2
theorem HJ {A:Type}{ρ:Type}[RpA A][Rp ρ]{m:A->Option ρ}{vs:List V}{H:Hp}{Q:VK}{E:XK}(h:spM K m vs H Q E):vs.length=RpA.n A:=by
 obtain ⟨G,a,r,_,h,_⟩:=h;exact RpA.len h
theorem GD {la:Option (List α)}(ea:EV K ta σ G la):EV K (tCB (Hy K) (Ao ta Bd)) σ G (la.bind fun a=>some (a.length:Int)):=by
 clear 7;obtain ⟨a,ha,hc⟩:=qaA.mp hc;cases hc;clear 8 ea a ha;obtain ⟨l,xs,rfl,h,z,p⟩:=r2;exact ⟨xs,.inl (.inl (x2.gh.rd h)),by rw [Paired.length p];exact k _ _ _ x2 rfl⟩
theorem Jx {la:Option (α × β)}(ea:EV K ta σ G la):EV K (tCB (Hy K) (Ao ta Bd)) σ G (la.bind fun _=>some (2:Int)):=by
 clear 7;obtain ⟨a,ha,hc⟩:=qaA.mp hc;cases hc;clear 8 ea a ha;obtain ⟨t,x,y,rfl,h,_⟩:=r2;exact ⟨_,.inr (x2.gh.tup h),k _ _ _ x2 rfl⟩
theorem Jv {sa:Option Str}(ea:EV K ta σ G sa):EV K (tCB (Hy K) (Ao ta Bd)) σ G (sa.bind fun a=>some (a.length:Int)):=by
 clear 7;obtain ⟨a,ha,hc⟩:=qaA.mp hc;cases hc;clear 8 ea a ha;obtain ⟨rfl,z⟩:=r2;exact ⟨z,k _ _ _ x2 rfl⟩
theorem ev_max {ia ib:Option Int}(ea:EV K ta σ G ia)(eb:EV K tb σ G ib):EV K (tCB (fun xs H Q=>∃ i j,xs=[.int i,.int j]/\Q (.int (if j > i then j else i)) H) (Ao ta (Ao tb Bd))) σ G (ia.bind fun a=>ib.bind fun b=>some (if b > a then b else a)):=by
 clear 7;obtain ⟨a,ha,hc⟩:=qaA.mp hc;obtain ⟨b,hb,hc⟩:=qaA.mp hc;cases hc;clear 8 ea a ha;refine eb G2 (s1.trans x2.gg) b hb H2 x2.gh _ fun u G3 H3 x3 r3=>?_;cases r2;cases r3;exact ⟨_,_,rfl,k _ _ _ (x2.trans x3) rfl⟩
theorem Jw {la:Option (List α)}(ea:EV K ta σ G la):FV K (tCB (fun xs H Q=>∃ p ys,xs=[.ref p]/\(SqL K H p ys\/SqT K H p ys)/\∀ l,H l=none->Q (.ref l) (upd H l (.lst ys))) (Ao ta Bd)) σ G la:=by
 intro G1 s1 a ha H sH Q k;clear 8 ea a ha;obtain ⟨l,xs,rfl,h,z,p⟩:=r2;exact ⟨l,xs,rfl,.inl (.inl (x2.gh.rd h)),Gg x2.gh z p (FV.mono x2 k)⟩
end
inductive TyS (K:FZ9)(H:Hp):V->String->Prop where
 | non:TyS K H .non "NoneType"
 | bl (x:Bool):TyS K H (.bl x) "bool"
 | int (i:Int):TyS K H (.int i) "int"
 | str (x:Str):TyS K H (.str x) "str"
 | lst {a:Addr}{xs:List V}(e:SqL K H a xs):TyS K H (.ref a) "list"
 | tup {a:Addr}{xs:List V}(e:SqT K H a xs):TyS K H (.ref a) "tuple"
 | dK {a:Addr}{kvs:List (Key × V)}(e:Rd H a (.dK kvs)):TyS K H (.ref a) "dict"
 | dT {a:Addr}{kvs:List (List Key × V)}(e:Rd H a (.dT kvs)):TyS K H (.ref a) "dict"
def JQ (K:FZ9):List V->Hp->VK->Prop:=fun vs H Q=>∃ x t T b,vs=[x,.ty T]/\TyS K H x t/\K2 t T=some b/\Q (.bl b) H
theorem K1 {X:Cx}:Cn X (.builtin "isinstance") (JQ X.K):=by
 intro pins s σ H vs us Q I r h;obtain ⟨x,t,T,b,rfl,ty,e,q⟩:=h;obtain ⟨u,w',rfl,rx,r2⟩:=Jl r;obtain rfl:w'=Value.type T:=r2;have e:=kit_of (K:=X.K) e;have fin:∀ tk,EP X pins σ Q (.bool b) { s with toks:=tk }:=fun tk=>⟨.bl b,H,I.tok tk,rfl,q⟩
 cases ty with
 | non=>cases (show u=Value.none from rx);exact PySem.W.kia_one PySem.W.kitx_none I.kIn True.intro e (fun z=>nomatch z) fin
 | bl y=>cases (show u=Value.bool y from rx);exact PySem.W.kia_one PySem.W.kitx_bool I.kIn True.intro e (fun z=>nomatch z) fin
 | int i=>obtain ⟨t,q'⟩:=(show ∃ t,u=Value.int i t from rx);cases q';exact PySem.W.kia_one PySem.W.kitx_int I.kIn True.intro e (fun z=>nomatch z) fin
 | str y=>obtain ⟨t,q'⟩:=(show ∃ t,u=Value.str y t from rx);cases q';exact PySem.W.kia_one PySem.W.kitx_str I.kIn True.intro e (fun z=>nomatch z) fin
 | @lst a xs ea =>
  cases (show u=Value.ref a from rx);obtain ⟨its,_,pl,_⟩:=I.list ea;obtain ⟨o,n,h1,h2,_⟩:=pl;exact PySem.W.kia_one PySem.W.kitx_list I.kIn ⟨o,h1,h2⟩ e (fun z=>nomatch z) fin
 | @tup a xs ea =>
  cases (show u=Value.ref a from rx);obtain ⟨its,_,pl,_⟩:=I.tuple ea;obtain ⟨o,h1,h2,_⟩:=pl;exact PySem.W.kia_one PySem.W.kitx_tuple I.kIn ⟨o,h1,h2⟩ e (fun z=>nomatch z) fin
 | @dK a kvs ea =>
  cases (show u=Value.ref a from rx);obtain ⟨_,_,vs,_,p⟩:=ea.ok I.hok;obtain ⟨o,es,ep,h1,h2,_⟩:=p;exact PySem.W.kia_one PySem.W.kitx_dict I.kIn ⟨o,h1,h2.1⟩ e (fun z=>nomatch z) fin
 | @dT a kvs ea =>
  cases (show u=Value.ref a from rx);obtain ⟨_,_,xs,_,o,es,ep,h1,h2,_⟩:=ea.ok I.hok;exact PySem.W.kia_one PySem.W.kitx_dict I.kIn ⟨o,h1,h2.1⟩ e (fun z=>nomatch z) fin
class RpT (α:Type) [Rp α] where
 tn:String
 ty:∀ {K:FZ9}{H:Hp}{v:V}{a:α},Rp.rel K H v a->TyS K H v tn
instance rtStr:RpT Str:=⟨"str",fun h=>by obtain ⟨rfl,_⟩:=h;exact .str _⟩
instance rtList:RpT (List α):=⟨"list",fun h=>by obtain ⟨l,xs,rfl,h,_⟩:=h;exact .lst (.inl h)⟩
instance rtPair:RpT (α × β):=⟨"tuple",fun h=>by obtain ⟨l,x,y,rfl,h,_⟩:=h;exact .tup h⟩
theorem TyS.mono {H H':Hp}{v:V}{t:String}(s:Same H H')(h:TyS K H v t):TyS K H' v t:=by
 cases h with
 | non=>exact .non
 | bl=>exact .bl _
 | int=>exact .int _
 | str=>exact .str _
 | lst e=>exact .lst (s.seq e)
 | tup e=>exact .tup (s.tup e)
 | dK e=>exact .dK (s.rd e)
 | dT e=>exact .dT (s.rd e)
theorem Ej [RpT α]{T:String}{b:Bool}(h:K2 (RpT.tn α) T=some b)(ea:EV K ta σ G ma):EV K (tCB (JQ K) (Ao ta (Ao (tC (.ty T)) Bd))) σ G (ma.bind fun _=>some b):=by
 clear 7;obtain ⟨a,ha,hc⟩:=qaA.mp hc;cases hc;clear 8 ea a ha;exact ⟨_,_,_,_,rfl,(RpT.ty r2).mono x2.gh,h,k _ _ _ x2 rfl⟩
theorem EqTy.imp {k:Nat}{α:Type}[DecidableEq α]{R R':Hp->V->α->Prop}(E:EqTy K k R)(h:∀ H v a,R' H v a->R H v a):EqTy K k R' :=
 ⟨fun hK I a b=>E.fn hK I (h _ _ _ a) (h _ _ _ b),fun A hK I hu r1 r2 a b=>E.eq A hK I hu r1 r2 (h _ _ _ a) (h _ _ _ b),fun A hK I hu r1 r2 a b=>E.rc A hK I hu r1 r2 (h _ _ _ a) (h _ _ _ b)⟩
class RpE (α:Type) [Rp α] [DecidableEq α] where
 k:Nat
 ty:∀ K:FZ9,EqTy K k (Rp.rel (α:=α) K)
instance reBool:RpE Bool:=⟨0,fun _=>eqBl⟩
instance reStr:RpE Str:=⟨0,fun _=>eqStr.imp fun _ _ _ h=>h.1⟩
instance reList {α:Type}[Rp α][DecidableEq α][RpE α]:RpE (List α):=⟨RpE.k α+1,fun K=>(eqLst (RpE.ty K)).imp fun _ _ _ ⟨l,xs,e,h,_,p⟩=>⟨l,xs,e,.inl h,p⟩⟩
theorem EqTy.up {k j:Nat}{α:Type}[DecidableEq α]{R:Hp->V->α->Prop}(E:EqTy K k R)(h:k<=j):EqTy K j R :=
 ⟨fun hK I a b=>E.fn hK I a b,fun A hK I hu r1 r2 a b=>E.eq A hK I (by omega) r1 r2 a b,fun A hK I hu r1 r2 a b=>E.rc A hK I (by omega) r1 r2 a b⟩
instance rePair {α β:Type}[Rp α][DecidableEq α][RpE α][Rp β][DecidableEq β][RpE β]:RpE (α × β) :=
 ⟨max (RpE.k α) (RpE.k β)+1,fun K=>(eqPair ((RpE.ty (α:=α) K).up (Nat.le_max_left _ _)) ((RpE.ty (α:=β) K).up (Nat.le_max_right _ _)))⟩
section
variable {α:Type}[Rp α][DecidableEq α]{m1 m2:Option α}
def rEqD (K:FZ9)(α:Type)[Rp α][DecidableEq α]:R2:=fun x y H Q=>∃ a b:α,Rp.rel K H x a/\Rp.rel K H y b/\Q (.bl (decide (a=b))) H
def rNeD (K:FZ9)(α:Type)[Rp α][DecidableEq α]:R2:=fun x y H Q=>∃ a b:α,Rp.rel K H x a/\Rp.rel K H y b/\Q (.bl (!decide (a=b))) H
theorem op_eqM {X:Cx}{j:Nat}(α:Type)[Rp α][DecidableEq α][RpE α](hr:Room j X.A)(hk:RpE.k α<=10):OpR X (compareOp .Eq) (rEqD X.K α):=op_eqD (RpE.ty X.K) hr hk
theorem op_neM {X:Cx}{j:Nat}(α:Type)[Rp α][DecidableEq α][RpE α](hr:Room j X.A)(hk:RpE.k α<=10):OpR X (compareOp .NotEq) (rNeD X.K α):=op_neD (RpE.ty X.K) hr hk
theorem ev_eq (ea:EV K ta σ G m1)(eb:EV K tb σ G m2):EV K (tOp (rEqD K α) ta tb) σ G (m1.bind fun a=>m2.bind fun b=>some (decide (a=b))) :=
 BE (fun s ra rb e Q k=>by cases e;exact ⟨_,_,Rp.mono s ra,Rp.mono s rb,k _ _ _ (.refl s) rfl⟩) ea eb
theorem ev_ne (ea:EV K ta σ G m1)(eb:EV K tb σ G m2):EV K (tOp (rNeD K α) ta tb) σ G (m1.bind fun a=>m2.bind fun b=>some (!decide (a=b))) :=
 BE (fun s ra rb e Q k=>by cases e;exact ⟨_,_,Rp.mono s ra,Rp.mono s rb,k _ _ _ (.refl s) rfl⟩) ea eb
end
end
inductive Fl (S ρ:Type) where
 | nx (s:S)
 | bk (s:S)
 | rt (r:ρ)
def ER {α S ρ:Type}(f:α->S->Option (Fl S ρ)):List α->S->Option (Fl S ρ)
 | [],s=>some (.nx s)
 | a::as,s=>(f a s).bind fun fl=>match fl with
  | .nx s'=>ER f as s'
  | .bk s'=>some (.nx s')
  | .rt r=>some (.rt r)
def FO {α β:Type}(fc:α->Option Bool)(fe:α->Option β):List α->Option (List β)
 | []=>some []
 | a::r=>(fc a).bind fun b=>cond b ((fe a).bind fun y=>(FO fc fe r).bind fun ys=>some (y::ys)) (FO fc fe r)
def E2 {α β:Type}(fe:α->Option β):List α->Option (List β)
 | []=>some []
 | a::r=>(fe a).bind fun y=>(E2 fe r).bind fun ys=>some (y::ys)
theorem Fb {α β:Type}(fe:α->Option β):∀ as,FO (fun _=>some true) fe as=E2 fe as
 | []=>rfl
 | a::r=>by
  show ((fe a).bind fun y=>(FO (fun _=>some true) fe r).bind fun ys=>some (y::ys))=_;rw [Fb fe r]
  rfl
def IV (lo hi:Int):Option (List Int):=if (-(2 ^ 62)<=lo/\lo<2 ^ 62/\-(2 ^ 62)<=hi/\hi<2 ^ 62)/\(hi - lo).toNat<=sizeLine then some ((List.range (hi - lo).toNat).map fun (i:Nat)=>lo+(i:Int)) else none
section
variable {K:FZ9}{σ:St}{G:Hp}{α β γ δ:Type}[Rp α][Rp β][Rp γ][Rp δ]{ta tb tc td:TE}{ma:Option α}{mb:Option β}{mc:Option γ}{md:Option δ}
def IW (K:FZ9){α:Type}[Rp α](wi:TI)(σ:St)(G:Hp)(m:Option (List α)):Prop :=
 ∀ G1,Same G G1->∀ a,m=some a->∀ H,Same G1 H->∀ R:It->Hp->Prop,(∀ J vs G2 H2,Ext G1 H G2 H2->Yields J G2 vs->vs.length<=sizeLine->Paired (Rp.rel K G2) vs a->R J H2)->wi σ H R
theorem Cr {la:Option (List α)}(ea:EV K ta σ G la):IW K (iAny K ta) σ G la:=by
 intro G1 s1 a ha H sH R k;clear 8 ea a ha;obtain ⟨l,xs,rfl,h,z,p⟩:=r2;exact .inl ⟨⟨xs,.inl (x2.gh.rd h)⟩,k _ xs G2 H2 x2 (Ic (.inl h)) z p⟩
def GE (x:Str):List Str:=x.cps.toList.map fun c=>(⟨#[c]⟩:Str)
theorem HX (x:Str)(H:Hp):Paired (Rp.rel K H) (Cv x) (GE x):=by
 unfold Cv GE
 induction x.cps.toList with
 | nil=>exact .nil
 | cons c r ih=>exact .cons ⟨rfl,by show 1<=sizeLine;decide⟩ ih
theorem iw_str {sa:Option Str}(ea:EV K ta σ G sa):IW K (iAny K ta) σ G (sa.bind fun a=>some (GE a)):=by
 intro G1 s1 a ha H sH R k;obtain ⟨b,hb,ha⟩:=qaA.mp ha;cases ha;clear 8 ea b hb;obtain ⟨rfl,z⟩:=r2;exact k _ (Cv b) G2 H2 x2 (J6 b G2) (by unfold Cv;rw [qdA];exact z) (HX b G2)
theorem FP (H:Hp)(f:Nat->Int):∀ l:List Nat,Paired (Rp.rel K H) (l.map fun i=>V.int (f i)) (l.map fun i=>f i)
 | []=>.nil
 | a::r=>.cons rfl (FP H f r)
theorem Dv {ia:Option Int}(ea:EV K ta σ G ia):IW K (iRng1 (Ao ta Bd)) σ G (ia.bind fun j=>IV 0 j):=by
 intro G1 s1 a ha H sH R k;obtain ⟨j,hj,ha⟩:=qaA.mp ha;obtain ⟨⟨hb,hz⟩,rfl⟩:=Av ha;clear 8 ea j hj;cases r2;refine ⟨j,rfl,hb.2.2.1,hb.2.2.2,?_⟩;have e:(j - 0).toNat=j.toNat:=by omega
 rw [e] at hz k;exact k (Itr 0 j.toNat) _ G2 H2 x2 (HM 0 j.toNat G2) (by rw [qdA,List.length_range];exact hz) (FP G2 (fun i=>(0:Int)+(i:Int)) _)
theorem tv_yes:TV KI σ G (some true):=fun G1 s1 a ha H sH Q k=>by
 cases ha;exact k _ _ (.refl sH)
theorem Paired.getR {F:V->α->Prop}:∀ {xs:List V}{as:List α}{i:Nat}{v:V},Paired F xs as->xs[i]? = some v->∃ a,as[i]? = some a/\F v a
 | _,_,_,_,.nil,e=>by simp at e
 | _,_,0,_,.cons r _,e=>by simp at e;subst e;exact ⟨_,rfl,r⟩
 | _,_,i+1,_,.cons _ t,e=>Paired.getR (i:=i) t (by simpa using e)
theorem fv_comp {cap:List Nat}{wi:TI}{tt:TT}{te:TE}{mi:Option (List α)}{fc:α->Option Bool}{fe:α->Option β}(ei:IW K wi σ G mi)
  (hb:∀ (x:V) (a:α) (G1:Hp),Same G G1->Rp.rel K G1 x a->TV tt ((BB cap σ).set 0 (some x)) G1 (fc a)/\EV K te ((BB cap σ).set 0 (some x)) G1 (fe a)) :
  FV K (Gz cap wi tt te) σ G (mi.bind fun as=>FO fc fe as):=by
 clear 7;obtain ⟨as,has,hc⟩:=qaA.mp hc;refine ei G1 s1 as has H sH _ fun J vs Ga Ha xa Y hz pr p hp=>?_;have hla:=Paired.length pr
 refine ⟨fun i m ys H2=>m=vs.length - i/\i<=vs.length/\∃ G2 bs cs,Ext Ga Ha G2 H2/\G2 p=none/\H2 p=some (.lst ys)/\ys.length<=i/\Paired (Rp.rel K G2) ys bs/\FO fc fe (as.drop i)=some cs/\c=bs++cs,
  ⟨vs.length,by simp,qsB _,Ga,[],c,.own xa.gh hp,xa.gh.free hp,AM,qvA _,.nil,hc,rfl⟩,?_⟩
 rintro i m ys H2 ⟨rfl,hi,G2,bs,cs,x2,hg,hh,hy,hpr,hcs,rfl⟩;by_cases hlt:i<vs.length
 ·refine .inr ⟨Y.go i _ (x2.gg.trans x2.gh) hlt,fun ys' H'=>∃ G2 bs' cs',Ext Ga Ha G2 H'/\G2 p=none/\H' p=some (.lst ys')/\ys'.length<=i+1/\Paired (Rp.rel K G2) ys' bs'/\FO fc fe (as.drop (i+1))=some cs'/\bs++cs=bs'++cs',
   fun ys' H' ⟨G3,bs',cs',h⟩=>⟨vs.length - (i+1),by omega,rfl,hlt,G3,bs',cs',h⟩,fun x H3 y=>?_⟩
  obtain ⟨rfl,hx⟩:=Y.yld i _ x H3 (x2.gg.trans x2.gh) hlt y;obtain ⟨a,hai,ra⟩:=Paired.getR pr hx
  have hd:as.drop i=a::as.drop (i+1):=by
   obtain ⟨h1,h2⟩:=qpA.mp hai;rw [List.drop_eq_getElem_cons h1,h2]
  rw [hd] at hcs;obtain ⟨b,hbb,hcs⟩:=qaA.mp hcs;have B:=hb x a G2 (s1.trans (xa.gg.trans x2.gg)) (Rp.mono x2.gg ra);refine B.1 G2 (.refl _) b hbb _ x2.gh _ fun G5 H5 x5=>?_;have hp5:H5 p=some (.lst ys):=x5.hh _ _ hh;have hg5:G5 p=none:=x5.no p hg (by rw [hh];exact fun z=>nomatch z)
  cases b with
  | false =>
   rw [if_neg qhB];exact ⟨G5,bs,cs,x2.trans x5,hg5,hp5,by omega,Paired.imp' (fun _ _ r=>Rp.mono x5.gg r) hpr,hcs,rfl⟩
  | true =>
   rw [if_pos rfl];obtain ⟨z,hze,hcs⟩:=qaA.mp hcs;obtain ⟨cs',hcs',hcs⟩:=qaA.mp hcs;cases hcs;refine B.2 G5 x5.gg z hze H5 x5.gh _ fun v G6 H6 x6 r6=>?_;have hp6:H6 p=some (.lst ys):=x6.hh _ _ hp5;have hg6:G6 p=none:=x6.no p hg5 (by rw [hp5];exact fun z=>nomatch z);refine ⟨hp6,by omega,G6,bs++[z],cs',((x2.trans x5).trans x6).put hp hg6,hg6,AM,?_,Paired.app (Paired.imp' (fun _ _ r=>Rp.mono (x5.trans x6).gg r) hpr) (.cons r6 .nil),hcs',by simp⟩;rw [qeA,qgA];omega
 ·have e:i=vs.length:=by omega
  subst e;have hd:as.drop vs.length=[]:=List.drop_eq_nil_of_le (by omega);rw [hd] at hcs;cases hcs;refine .inl ⟨Y.stop _ (x2.gg.trans x2.gh),?_⟩;rw [quA] at k;exact k p ys G2 H2 (xa.trans x2) (xa.hh.free hp) hg hh (by omega) hpr
theorem ES {cap:List Nat}{wi:TI}{te:TE}{mi:Option (List α)}{fe:α->Option β}(ei:IW K wi σ G mi)
  (hb:∀ (x:V) (a:α) (G1:Hp),Same G G1->Rp.rel K G1 x a->EV K te ((BB cap σ).set 0 (some x)) G1 (fe a)) :
  FV K (Gz cap wi KI te) σ G (mi.bind fun as=>E2 fe as):=by
 have h:=fv_comp (tt:=KI) (fc:=fun _=>some true) ei fun x a G1 s r=>⟨tv_yes,hb x a G1 s r⟩;have e:(fun as=>FO (fun _=>some true) fe as)=fun as=>E2 fe as:=funext (Fb fe);rw [e] at h;exact h
def HG (z:Str)(ys:List Str):Option Str:=if (ys.map (·.length)).sum+ys.length * z.length<=16777216 then some (Txt.join z ys) else none
theorem Dg {H:Hp}:∀ {xs:List V}{ys:List Str},Paired (Rp.rel K H) xs ys->xs=ys.map V.str
 | _,_,.nil=>rfl
 | _,_,.cons r t=>by
  obtain ⟨rfl,_⟩:=r;rw [Dg t]
  rfl
theorem Jg (z:Str):∀ (ps:List Str) (acc:Array Nat),(ps.foldl (fun acc p=>acc++z.cps++p.cps) acc).size=acc.size+(ps.map (·.length)).sum+ps.length * z.length
 | [],acc=>by simp
 | p::ps,acc=>by
  rw [List.foldl_cons,Jg z ps];simp only [Array.size_append,qsA,List.sum_cons,qfA,Nat.succ_mul];have:p.cps.size=p.length:=rfl;have:z.cps.size=z.length:=rfl;omega
theorem join_len (z:Str)(ys:List Str):(Txt.join z ys).length<=(ys.map (·.length)).sum+ys.length * z.length:=by
 show ((ys.drop 1).foldl (fun acc p=>acc++z.cps++p.cps) (ys.headD Str.empty).cps).size<=_;rw [Jg]
 cases ys with
 | nil=>simp;rfl
 | cons a r =>
  simp only [List.headD_cons,List.drop_succ_cons,List.drop_zero,qsA,List.sum_cons,qfA,Nat.succ_mul];have:a.cps.size=a.length:=rfl;omega
theorem JV {sa:Option Str}{lb:Option (List Str)}(ea:EV K ta σ G sa)(eb:EV K tb σ G lb):EV K (tBM K "str" (rJoin K) ta (Ao tb Bd)) σ G (sa.bind fun z=>lb.bind fun ys=>HG z ys):=by
 clear 7;obtain ⟨a,ha,hc⟩:=qaA.mp hc;obtain ⟨b,hb,hc⟩:=qaA.mp hc;obtain ⟨hz,rfl⟩:=Av hc;clear 8 ea a ha;obtain ⟨rfl,za⟩:=r2;refine ⟨rfl,?_⟩;refine eb G2 (s1.trans x2.gg) b hb H2 x2.gh _ fun u G3 H3 x3 r3=>?_;obtain ⟨l,xs,rfl,h,z,p⟩:=r3;obtain rfl:=Dg p;exact ⟨a,l,b,rfl,rfl,.inl (x3.gh.rd h),hz,k _ _ _ (x2.trans x3) ⟨rfl,qwA (join_len _ _) (by rw [qcB];exact hz)⟩⟩
def repL {α:Type}(a:List α)(k:Int):Option (List α):=if (-(2 ^ 63)<=k/\k<2 ^ 63)/\a.length * k.toNat<=sizeLine then some (List.replicate k.toNat a).flatten else none
theorem ev_isN {mo:Option (Option α)}(hn:∀ {G:Hp}{v:V}{a:α},Rp.rel K G v a->v ≠ .non)(ea:EV K ta σ G mo) :
  EV K (tOp (fun x y H Q=>y = .non/\Q (.bl (decide (x = .non))) H) ta (tC .non)) σ G (mo.bind fun o=>some o.isNone):=by
 clear 7;obtain ⟨a,ha,hc⟩:=qaA.mp hc;cases hc;refine ea G1 s1 a ha H sH _ fun v G2 H2 x2 r2=>⟨rfl,?_⟩;refine k _ _ _ x2 ?_;show V.bl _=V.bl _
 congr 1
 cases a with
 | none=>exact decide_eq_true r2
 | some a=>exact decide_eq_false (hn r2)
theorem ev_notN {mo:Option (Option α)}(hn:∀ {G:Hp}{v:V}{a:α},Rp.rel K G v a->v ≠ .non)(ea:EV K ta σ G mo) :
  EV K (tOp (fun x y H Q=>y = .non/\Q (.bl (!decide (x = .non))) H) ta (tC .non)) σ G (mo.bind fun o=>some o.isSome):=by
 clear 7;obtain ⟨a,ha,hc⟩:=qaA.mp hc;cases hc;refine ea G1 s1 a ha H sH _ fun v G2 H2 x2 r2=>⟨rfl,?_⟩;refine k _ _ _ x2 ?_;show V.bl _=V.bl _
 congr 1
 cases a with
 | none=>rw [decide_eq_true (show v=V.non from r2)];rfl
 | some a=>rw [decide_eq_false (hn (show Rp.rel K G2 v a from r2))];rfl
theorem JT {G:Hp}{v:V}{a:α × β}(h:Rp.rel K G v a):v ≠ .non:=by obtain ⟨_,_,_,rfl,_⟩:=h;exact fun z=>nomatch z
end
section
variable {K:FZ9}{σ:St}{G H:Hp}{α β:Type}[Rp α][Rp β]{te:TE}{tt:TT}{t u rest:TS}{D:Ends}{i:Nat}{a:α}{m:Option α}
theorem Ak (e:EV K te σ G m)(hm:m=some a)(s:Same G H)(k:∀ v G2 H2,Ext G H G2 H2->Rp.rel K G2 v a->rest D (σ.set i (some v)) H2):DA (Hd te (Cp i)) rest D σ H:=e.run hm s k
theorem AN (e:EV K te σ G m)(hm:m=some a)(s:Same G H)(k:∀ v G2 H2,Ext G H G2 H2->Rp.rel K G2 v a->D.rt v H2):DA (tRet te) rest D σ H:=e.run hm s k
theorem As {b:Bool}{m:Option Bool}(e:TV tt σ G m)(hm:m=some b)(s:Same G H)(k:∀ G2 H2,Ext G H G2 H2->if b=true then t { D with nx:=rest D } σ H2 else u { D with nx:=rest D } σ H2) :
  DA (Gd tt t u) rest D σ H:=e.run hm s k
theorem Du (Pv:St->Hp->Prop)(h:∀ nx:St->Hp->Prop,(∀ σ' H',Pv σ' H'->nx σ' H')->DA t BV { D with nx:=nx } σ H)(key:∀ σ' H',Pv σ' H'->rest D σ' H'):DA t rest D σ H:=h (rest D) key
structure LoopOb (K:FZ9){α S ρ:Type}[Rp α](RR:ρ->V->Hp->Hp->Prop)(f:α->S->Option (Fl S ρ))(g:TG)(tb:TS)(D:Ends)(σ:St)(G2 H2:Hp)(as:List α)(s0:S)(res:Fl S ρ)(RS:S->St->Hp->Hp->Prop):Prop where
 start:RS s0 σ G2 H2
 keep:∀ s σ' G' H',RS s σ' G' H'->Same G2 G'/\Same G' H'
 step:∀ (x:V) (a:α) (s:S) (σ1:St) (G1 H1:Hp) (fl:Fl S ρ),a∈as->RS s σ1 G1 H1->Rp.rel K G1 x a->f a s=some fl->∀ D':Ends,(∀ s' σ' G' H',fl = .nx s'->RS s' σ' G' H'->D'.nx σ' H')->(∀ s' σ' G' H',fl = .nx s'->RS s' σ' G' H'->D'.ct σ' H') ->
  (∀ s' σ' G' H',fl = .bk s'->RS s' σ' G' H'->D'.bk σ' H')->(∀ r v G' H',fl = .rt r->RR r v G' H'->D'.rt v H')->g x σ1 H1 fun σ2 H2=>tb D' σ2 H2
 nxt:∀ s σ' G' H',res = .nx s->RS s σ' G' H'->D.nx σ' H'
 rtn:∀ r v G' H',res = .rt r->RR r v G' H'->D.rt v H'
theorem F4 {S ρ:Type}{RR:ρ->V->Hp->Hp->Prop}{f:α->S->Option (Fl S ρ)}{wi:TI}{g:TG}{tb:TS}{mi:Option (List α)}{as:List α}{s0:S}{res:Fl S ρ}(ei:IW K wi σ G mi)(hm:mi=some as)(hf:ER f as s0=some res)(sg:Same G H)
  (k:∀ G2 H2,Ext G H G2 H2->∃ RS,LoopOb K RR f g tb { D with nx:=rest D } σ G2 H2 as s0 res RS):DA (tFor wi g tb) rest D σ H:=by
 refine ei G (.refl G) as hm H sg _ fun J vs G2 H2 x2 Y hz pr=>?_;obtain ⟨RS,L⟩:=k G2 H2 x2;have hla:=Paired.length pr;refine ⟨fun i m σ' H'=>m=vs.length - i/\i<=vs.length/\∃ s G',RS s σ' G' H'/\ER f (as.drop i) s=some res,⟨vs.length,by simp,qsB _,s0,G2,L.start,hf⟩,?_⟩;rintro i m σ' H' ⟨rfl,hi,s,G',rs,hfo⟩;obtain ⟨k1,k2⟩:=L.keep _ _ _ _ rs;by_cases hlt:i<vs.length
 ·refine .inr ⟨Y.go i _ (k1.trans k2) hlt,fun σ'' H''=>∃ s' G'',RS s' σ'' G'' H''/\ER f (as.drop (i+1)) s'=some res,fun σ'' H'' ⟨s',G'',h⟩=>⟨vs.length - (i+1),by omega,rfl,hlt,s',G'',h⟩,fun x H3 y=>?_⟩;obtain ⟨rfl,hx⟩:=Y.yld i _ x H3 (k1.trans k2) hlt y;obtain ⟨a,hai,ra⟩:=Paired.getR pr hx
  have hd:as.drop i=a::as.drop (i+1):=by
   obtain ⟨h1,h2⟩:=qpA.mp hai;rw [List.drop_eq_getElem_cons h1,h2]
  rw [hd] at hfo;obtain ⟨fl,hfl,hfo⟩:=qaA.mp hfo;refine L.step x a s σ' G' _ fl (qoA hai) rs (Rp.mono k1 ra) hfl _ ?_ ?_ ?_ ?_
  ·intro s' σ'' G'' H'' e r;subst e;exact ⟨s',G'',r,hfo⟩
  ·intro s' σ'' G'' H'' e r;subst e;exact ⟨s',G'',r,hfo⟩
  ·intro s' σ'' G'' H'' e r;subst e;exact L.nxt s' σ'' G'' H'' (qyA hfo).symm r
  ·intro r v G'' H'' e rl;subst e;exact L.rtn r v G'' H'' (qyA hfo).symm rl
 ·have e:i=vs.length:=by omega
  subst e;have hd:as.drop vs.length=[]:=List.drop_eq_nil_of_le (by omega);rw [hd] at hfo;exact .inl ⟨Y.stop _ (k1.trans k2),L.nxt s σ' G' H' (qyA hfo).symm rs⟩
end
structure Own (K:FZ9){α:Type}[Rp α](G H:Hp)(v:V)(p:Addr)(vs:List V)(as:List α):Prop where
 v:v = .ref p
 g:G p=none
 h:H p=some (.lst vs)
 z:vs.length<=sizeLine
 p:Paired (Rp.rel K G) vs as
section
variable {K:FZ9}{σ:St}{G H G1 H1 G0 H0:Hp}{α β:Type}[Rp α][Rp β]{te ti:TE}{tt:TT}{t u rest:TS}{D:Ends}{i:Nat}{a:α}{m:Option α}{as:List α}{v:V}{p q:Addr}{vs:List V}
theorem Own.ext (o:Own K G H v p vs as)(x:Ext G H G1 H1):Own K G1 H1 v p vs as :=
 ⟨o.v,x.no p o.g (by rw [o.h];exact fun z=>nomatch z),x.hh _ _ o.h,o.z,Paired.imp' (fun _ _ r=>Rp.mono x.gg r) o.p⟩
theorem Own.put {ho:HO}(o:Own K G H v p vs as)(h:p≠q):Own K G (upd H q ho) v p vs as:=⟨o.v,o.g,by rw [AK h];exact o.h,o.z,o.p⟩
theorem Own.tell (o:Own K G H v p vs as):Rp.rel K (upd G p (.lst vs)) v as:=⟨p,vs,o.v,.inl AM,o.z,Paired.imp' (fun _ _ r=>Rp.mono (Same.new o.g) r) o.p⟩
theorem Own.same (o:Own K G H v p vs as)(s:Same G H):Same (upd G p (.lst vs)) H:=fun b x e=>by
 by_cases hb:b=p
 ·subst hb;rw [AM] at e;rw [o.h];exact e
 ·rw [AK hb] at e;exact s b x e
theorem sv_own {m:Option (List α)}{as:List α}(e:FV K te σ G m)(hm:m=some as)(s:Same G H)(k:∀ p vs G2 H2,Ext G H G2 H2->H p=none->Own K G2 H2 (.ref p) p vs as->rest D (σ.set i (some (.ref p))) H2):DA (Hd te (Cp i)) rest D σ H :=
 e G (.refl G) as hm H s _ fun p vs G2 H2 x h0 hg hh hz hp=>k p vs G2 H2 x h0 ⟨rfl,hg,hh,hz,hp⟩
def Cs {α:Type}(as:List α)(a:α):Option (List α):=if as.length<sizeLine then some (as++[a]) else none
theorem Jz {as':List α}(hσ:σ[i]? = some (some v))(o:Own K G H v p vs as)(e:EV K te σ G m)(hm:m=some a)(hp:Cs as a=some as')(s:Same G H)
  (k:∀ G2 H2 w,Ext G H G2 H2->Own K G2 (upd H2 p (.lst (vs++[w]))) v p (vs++[w]) as'->rest D σ (upd H2 p (.lst (vs++[w])))):DA (GS (tBM K "list" Dw (GG i) (Ao te Bd))) rest D σ H:=by
 obtain ⟨hl,rfl⟩:=Av hp;have hlen:=Paired.length o.p;obtain ⟨rfl,og,oh,oz,op⟩:=o;refine ⟨_,hσ,.inl ⟨rfl,_,SqL.of oh⟩,?_⟩;refine e.run hm s fun w G2 H2 x r=>?_;refine ⟨p,vs,w,rfl,rfl,x.hh _ _ oh,by omega,?_⟩;refine k G2 H2 w x ⟨rfl,x.no p og (by rw [oh];exact fun z=>nomatch z),AM,?_,Paired.app (Paired.imp' (fun _ _ r=>Rp.mono x.gg r) op) (.cons r .nil)⟩;rw [qeA,qgA];omega
structure TupK (H H':Hp):Prop where
 rd:∀ b xs,Rd H b (.tup xs)->Rd H' b (.tup xs)
 eq:∀ b xs,H b=some (.tup xs)->H' b=some (.tup xs)
class Imm (α:Type) [Rp α]:Prop where
 im:∀ {K:FZ9}{H H':Hp}{v:V}{a:α},TupK H H'->Rp.rel K H v a->Rp.rel K H' v a
def del (G:Hp)(p:Addr):Hp:=fun b=>if b=p then none else G b
theorem Iq {G:Hp}{p b:Addr}(h:b≠p):del G p b=G b:=by unfold del;rw [if_neg h]
theorem IA {G:Hp}{p:Addr}:del G p p=none:=by unfold del;rw [if_pos rfl]
theorem Ext.del {ho:HO}{G2 H2:Hp}(hg:G p=none)(x:Ext (upd G p ho) H G2 H2):Ext G H (L2.del G2 p) H2 :=
 ⟨fun b o e=>by
  have hb:b≠p:=BK e hg;rw [Iq hb]
  exact x.gg b o (by rw [AK hb];exact e),fun b o e=>by
  by_cases hb:b=p
  ·subst hb;rw [IA] at e;cases e
  ·rw [Iq hb] at e
   exact x.gh b o e,x.hh,fun b h1 h2=>by
  by_cases hb:b=p
  ·subst hb;exact IA
  ·rw [Iq hb]
   exact x.no b (by rw [AK hb];exact h1) h2⟩
theorem TV.runB {mb:Option Bool}{b:Bool}{Q:Bool->Hp->Prop}(o:Own K G H v p vs as)(e:TV tt σ (upd G p (.lst vs)) mb)(hm:mb=some b)(s:Same G H)(k:∀ G2 H2,Ext G H G2 H2->Q b H2):tt σ H Q :=
 e.run hm (o.same s) fun G2 H2 x=>k (del G2 p) H2 (x.del o.g)
end
section
variable {K:FZ9}{σ:St}{G:Hp}
theorem BA {ρ A0:Type}[Rp ρ][Rp A0]{t0:TE}{m0:Option A0}{m:A0 × Unit->Option ρ}(e0:EV K t0 σ G m0):EV K (Gs (spM K m) [] E0 (Ao t0 Bd)) σ G (m0.bind fun a0=>m (a0,())):=by
 clear 7;obtain ⟨a0,ha0,hc⟩:=qaA.mp hc;refine e0 G1 s1 a0 ha0 H sH _ fun v0 G2 H2 x0 r0=>?_;have y0:=x0;exact ⟨G2,_,c,y0.gh,⟨v0,_,rfl,r0,rfl⟩,hc,fun v G9 H9 x9 r9=>k v G9 H9 (y0.trans x9) r9⟩
theorem Aq {ρ A0 A1:Type}[Rp ρ][Rp A0][Rp A1]{t0 t1:TE}{m0:Option A0}{m1:Option A1}{m:A0 × A1 × Unit->Option ρ}(e0:EV K t0 σ G m0)(e1:EV K t1 σ G m1):EV K (Gs (spM K m) [] E0 (Ao t0 (Ao t1 Bd))) σ G (m0.bind fun a0=>m1.bind fun a1=>m (a0,a1,())):=by
 clear 7;obtain ⟨a0,ha0,hc⟩:=qaA.mp hc;obtain ⟨a1,ha1,hc⟩:=qaA.mp hc;refine e0 G1 s1 a0 ha0 H sH _ fun v0 G2 H2 x0 r0=>?_;have y0:=x0;refine e1 G2 (s1.trans y0.gg) a1 ha1 H2 y0.gh _ fun v1 G3 H3 x1 r1=>?_;have y1:=y0.trans x1;exact ⟨G3,_,c,y1.gh,⟨v0,_,rfl,(Rp.mono x1.gg r0),⟨v1,_,rfl,r1,rfl⟩⟩,hc,fun v G9 H9 x9 r9=>k v G9 H9 (y1.trans x9) r9⟩
section
variable {ta tb:TE}{a b:Bool}{tt tu:TT}{mb:Option Bool}
theorem TV.of {m m':Option Bool}(e:TV tt σ G m)(h:m=m'):TV tt σ G m':=h ▸ e
theorem EJ (ea:TV tt σ G (some a))(eb:TV tu σ G (some b)):TV (tOr tt tu) σ G (some (a || b)):=(E8 ea eb).of (by cases a<;>rfl)
theorem ev_get {α:Type}[Rp α]{te:TE}{mo:Option (Option α)}(e:EV K te σ G mo):EV K te σ G (mo.bind fun o=>o):=by
 clear 7;obtain ⟨o,ho,hc⟩:=qaA.mp hc;subst hc;exact e G1 s1 _ ho H sH Q k
theorem TruV.mono {G H:Hp}{v:V}{k:Bool}(s:Same G H)(h:TruV K v G k):TruV K v H k:=by
 cases v with
 | ref p =>
  rcases h with ⟨xs,hx,e⟩ | ⟨xs,hx,e⟩ | ⟨kvs,hx,e⟩
  ·exact .inl ⟨xs,s.seq hx,e⟩
  ·exact .inr (.inl ⟨xs,s.tup hx,e⟩)
  ·exact .inr (.inr ⟨kvs,s _ _ hx,e⟩)
 | _=>exact h
theorem Dc {mb:Option Bool}(ea:EV K ta σ G mb):TV (fun σ H Q=>ta σ H fun x H'=>∃ k,TruV K x H' k/\Q k H') σ G mb:=by
 have h:=tv_tru (K:=K) (f:=fun (a:Bool)=>a) (fun {G v a}(r:Rp.rel K G v a)=>by cases r;exact rfl) (fun s=>TruV.mono s) ea;refine h.of ?_;cases mb<;>rfl
end
theorem cT {α:Type}{A B:Option α}{r:Option α}(h:cond true A B=r):A=r:=h
theorem cF {α:Type}{A B:Option α}{r:Option α}(h:cond false A B=r):B=r:=h
theorem Dq {i:Nat}{x:V}{σ:St}{H:Hp}{tb:TS}{D:Ends}(h:tb D (σ.set i (some x)) H):Cp i x σ H fun σ2 H2=>tb D σ2 H2:=h
end
section
variable {K:FZ9}{σ:St}{G H:Hp}{α β γ:Type}[Rp α][Rp β][Rp γ]{ta tb te:TE}{ia ib:Option Int}{c:Int}{rest t u:TS}{D:Ends}{i j:Nat}{tt:TT}
theorem Er (ea:EV K ta σ G ia)(hc:-(2 ^ 64)<c/\c<2 ^ 64:=by decide):EV K (tOp (rMul K) ta (tC (.int c))) σ G (ia.bind fun a=>some (a * c)):=by
 have h:=JF ea (Ai (K:=K) (σ:=σ) (G:=G) (i:=c))
 have e:(ia.bind fun a=>(some c).bind fun b=>Im a b)=ia.bind fun a=>some (a * c):=by
  congr 1;funext a
  show Im a c=_;unfold Im;rw [if_pos (.inr hc)]
 exact h.of e
theorem B1 (ea:EV K ta σ G ia)(hc:0<c:=by decide):EV K (tOp (rI (fun _ j=>0<j) fun i j=>.int (i % j)) ta (tC (.int c))) σ G (ia.bind fun a=>some (a % c)):=by
 have h:=He ea (Ai (K:=K) (σ:=σ) (G:=G) (i:=c))
 have e:(ia.bind fun a=>(some c).bind fun b=>II a b)=ia.bind fun a=>some (a % c):=by
  congr 1;funext a
  show II a c=_;unfold II;rw [if_pos hc]
 exact h.of e
theorem Cq (ea:EV K ta σ G ia)(hc:0<c/\c<1073741824:=by decide):EV K (tOp (rI Iv fun i j=>.int (i / j)) ta (tC (.int c))) σ G (ia.bind fun a=>some (a / c)):=by
 have h:=ev_div ea (Ai (K:=K) (σ:=σ) (G:=G) (i:=c))
 have e:(ia.bind fun a=>(some c).bind fun b=>KF a b)=ia.bind fun a=>some (a / c):=by
  congr 1;funext a
  show KF a c=_;unfold KF;rw [if_pos (show Iv a c from hc)]
 exact h.of e
structure Scr where
 l:List Int
instance rpScr:Rp Scr:=⟨fun K H v a=>∃ l,v = .ref l/\SqL K H l (a.l.map V.int),fun s ⟨l,e,h⟩=>⟨l,e,s.seq h⟩⟩
theorem Hs {ma:Option Scr}(ea:EV K ta σ G ma):EV K (tCB (Hy K) (Ao ta Bd)) σ G (ma.bind fun a=>some (a.l.length:Int)):=by
 clear 7;obtain ⟨a,ha,hc⟩:=qaA.mp hc;cases hc;clear 8 ea a ha;obtain ⟨l,rfl,h⟩:=r2;exact ⟨_,.inl (x2.gh.seq h),by rw [qdA];exact k _ _ _ x2 rfl⟩
theorem Jp {H:Hp}:∀ ns:List Int,Paired (Rp.rel K H) (ns.map V.int) ns
 | []=>.nil
 | _::r=>.cons rfl (Jp r)
theorem ev_atX {ma:Option Scr}(ea:EV K ta σ G ma)(eb:EV K tb σ G ib):EV K (tOp (rAt K) ta tb) σ G (ma.bind fun a=>ib.bind fun i=>atI a.l i) :=
 BE (fun s ra rb e Q k=>by
  obtain ⟨l,rfl,h⟩:=ra;cases rb;obtain ⟨v,hv,r⟩:=DS (Jp (K:=K) _) e
  exact .inl ⟨_,v,s.seq h,hv,k _ _ _ (.refl s) r⟩) ea eb
theorem JZ {X:Cx}:OpR X (binaryOp .Mult) (fun x y H Q=>∃ l k xs,x = .ref l/\y = .int k/\Rd H l (.lst xs)/\-(2 ^ 63)<=k/\k<2 ^ 63/\xs.length * k.toNat<=sizeLine/\∀ p,H p=none->Q (.ref p) (upd H p (.lst (List.replicate k.toNat xs).flatten))):=by
 intro pins s σ H x y v u Q I rx ry h;obtain ⟨l,k,xs,rfl,rfl,hH,h1,h2,hz,q⟩:=h;cases rx;obtain ⟨t,rfl⟩:=ry;obtain ⟨z,its,n,r,e⟩:=hH.ok I.hok;have hl:=r.length;have hlen:its.toArray.size * k.toNat<=sizeLine:=by rw [qiB,<- hl];exact hz
 have hcap:¬ its.toArray.size * k.toNat > (2 ^ 63 - 1) / 8:=by
  have:(sizeLine:Nat)<=(2 ^ 63 - 1) / 8:=by decide
  omega
 have hfit:¬ (!Builtin.List.listFitsIndex k)=true:=by
  rw [fitsIndex_both h1 h2];exact qhB
 have hlong:¬ Builtin.List.listTooLong (its.toArray.size * k.toNat)=true:=by
  rw [IM hlen];exact qhB
 have hnew:List.foldl (fun x1 x2=>x1++x2) #[] (List.replicate (if its.toArray.isEmpty=true then 0 else k.toNat) its.toArray)=(List.replicate k.toNat its).flatten.toArray:=by
  have f0:∀ m:Nat,List.foldl (fun x1 x2=>x1++x2) #[] (List.replicate m its.toArray)=(List.replicate m its).flatten.toArray:=fun m=>by
   have:=FC its m [];rw [List.nil_append] at this;exact this
  rw [f0]
  cases its with
  | nil=>simp
  | cons a r'=>rw [if_neg (by simp)]
 refine wpAny_binaryOp_repeat_ref (T := "list") (U := "int") (by decide) ⟨_,e,rfl⟩ (fun s'=>typeIs_int s' k t) noFill_list_mul F.fills_int_mul F.slot_int_rmul repeat_list F.slot_int_index.lookup
  (call_meets F.slot_int_rmul (typeIs_int s k t) F.entry_int_rmul (F.args_int_rmul_2 _ _) (int___rmul___int_list k t l its.toArray n)
   ⟨e,rfl,⟨_,e,rfl⟩,call_meets F.slot_list_mul ⟨_,e,rfl⟩ F.entry_list_mul (F.args_list_mul_2 _ _) (AutoListH.list___mul___list_int_3 l its.toArray n k t hfit hcap hlong) ⟨e,?_⟩⟩)
 rw [hnew];exact ⟨.ref _,_,I.lnew (t':=s.toks) (r.rep k.toNat) (by rw [Hg,Nat.mul_comm];exact hz),rfl,q _ I.fresh⟩
theorem fv_rep {la:Option (List α)}(ea:EV K ta σ G la)(eb:EV K tb σ G ib) :
  FV K (tOp (fun x y H Q=>∃ l k xs,x = .ref l/\y = .int k/\Rd H l (.lst xs)/\-(2 ^ 63)<=k/\k<2 ^ 63/\xs.length * k.toNat<=sizeLine/\∀ p,H p=none->Q (.ref p) (upd H p (.lst (List.replicate k.toNat xs).flatten))) ta tb) σ G (la.bind fun a=>ib.bind fun b=>repL a b):=by
 clear 7;obtain ⟨a,ha,hc⟩:=qaA.mp hc;obtain ⟨b,hb,hc⟩:=qaA.mp hc;obtain ⟨⟨hl,hz⟩,rfl⟩:=Av hc;clear 8 ea a ha;refine eb G2 (s1.trans x2.gg) b hb H2 x2.gh _ fun u G3 H3 x3 r3=>?_;obtain ⟨l1,xs,rfl,h1,z1,p1⟩:=Rp.mono x3.gg r2;cases r3;have e1:=Paired.length p1;rw [<- e1] at hz;exact ⟨l1,b,xs,rfl,rfl,x3.gh.rd h1,hl.1,hl.2,hz,Gg x3.gh (by rw [Hg,Nat.mul_comm];exact hz) (Paired.rep p1 _) (FV.mono (x2.trans x3) k)⟩
end
structure Own2 (K:FZ9){α β:Type}[Rp α][Rp β](G H:Hp)(v:V)(p q:Addr)(vs ws:List V)(a:List α × List β):Prop where
 t:∃ t,v = .ref t/\G t=some (.tup [.ref p,.ref q])
 o1:Own K G H (.ref p) p vs a.1
 o2:Own K G H (.ref q) q ws a.2
 ne:p≠q
section
variable {K:FZ9}{σ:St}{G H G1 H1 G0 H0:Hp}{α β γ:Type}[Rp α][Rp β][Rp γ]{ta tb te ti:TE}{tt:TT}{t u rest:TS}{D:Ends}{i j:Nat}{v:V}{p q r:Addr}{vs ws:List V}{a:List α × List β}
theorem Own2.ext (o:Own2 K G H v p q vs ws a)(x:Ext G H G1 H1):Own2 K G1 H1 v p q vs ws a :=
 ⟨let ⟨t,e,h⟩:=o.t;⟨t,e,x.gg _ _ h⟩,o.o1.ext x,o.o2.ext x,o.ne⟩
def two (G:Hp)(p q:Addr)(vs ws:List V):Hp:=upd (upd G p (.lst vs)) q (.lst ws)
theorem Own2.g2 (o:Own2 K G H v p q vs ws a):(upd G p (.lst vs)) q=none:=by rw [AK (Ne.symm o.ne)];exact o.o2.g
theorem Own2.up (o:Own2 K G H v p q vs ws a):Same G (two G p q vs ws):=(Same.new o.o1.g).trans (Same.new o.g2)
theorem Own2.same (o:Own2 K G H v p q vs ws a)(s:Same G H):Same (two G p q vs ws) H:=fun b x e=>by
 unfold two at e;by_cases hb:b=q
 ·subst hb;rw [AM] at e;rw [o.o2.h];exact e
 ·rw [AK hb] at e;exact o.o1.same s b x e
theorem Own2.tell (o:Own2 K G H v p q vs ws a):Rp.rel K (two G p q vs ws) v a:=by
 obtain ⟨t,rfl,ht⟩:=o.t;refine ⟨t,.ref p,.ref q,rfl,SqT.of (o.up _ _ ht),⟨p,vs,rfl,.inl ?_,o.o1.z,Paired.imp' (fun _ _ r=>Rp.mono o.up r) o.o1.p⟩,⟨q,ws,rfl,.inl AM,o.o2.z,Paired.imp' (fun _ _ r=>Rp.mono o.up r) o.o2.p⟩⟩;unfold two;rw [AK o.ne];exact AM
theorem Own2.frz (o:Own2 K G H v p q vs ws a)(x:Ext G0 H0 G H)(h1:H0 p=none)(h2:H0 q=none):Ext G0 H0 (two G p q vs ws) H :=
 (x.frz h1 o.o1.g o.o1.h).frz h2 o.g2 o.o2.h
def NV (K:FZ9){α β:Type}[Rp α][Rp β](te:TE)(σ:St)(G:Hp)(m:Option (List α × List β)):Prop :=
 ∀ G1,Same G G1->∀ a,m=some a->∀ H,Same G1 H->∀ Q:VK,(∀ v p q vs ws G2 H2,Ext G1 H G2 H2->H p=none->H q=none->Own2 K G2 H2 v p q vs ws a->Q v H2)->te σ H Q
theorem NV.ev {m:Option (List α × List β)}(e:NV K te σ G m):EV K te σ G m:=by
 intro G1 s1 a ha H sH Q k;refine e G1 s1 a ha H sH Q fun v p q vs ws G2 H2 x h1 h2 o=>?_;exact k v _ H2 (o.frz x h1 h2) o.tell
def spN (K:FZ9){A:Type}[RpA A]{α β:Type}[Rp α][Rp β](m:A->Option (List α × List β)):Sp:=fun vs H Q _ =>
 ∃ G a r,Same G H/\RpA.rel K G vs a/\m a=some r/\∀ v p q vs ws G2 H2,Ext G H G2 H2->H p=none->H q=none->Own2 K G2 H2 v p q vs ws r->Q v H2
theorem Ea {A0:Type}[Rp A0]{t0:TE}{m0:Option A0}{m:A0 × Unit->Option (List α × List β)}(e0:EV K t0 σ G m0):NV K (Gs (spN K m) [] E0 (Ao t0 Bd)) σ G (m0.bind fun a0=>m (a0,())):=by
 clear 7;obtain ⟨a0,ha0,hc⟩:=qaA.mp hc;refine e0 G1 s1 a0 ha0 H sH _ fun v0 G2 H2 x0 r0=>?_;have y0:=x0;exact ⟨G2,_,c,y0.gh,⟨v0,_,rfl,r0,rfl⟩,hc,fun v p q vs ws G9 H9 x9 h1 h2 o=>k v p q vs ws G9 H9 (y0.trans x9) (y0.hh.free h1) (y0.hh.free h2) o⟩
theorem JY {m:Option (List α × List β)}(e:NV K te σ G m)(hm:m=some a)(s:Same G H)(k:∀ v p q vs ws G2 H2,Ext G H G2 H2->H p=none->H q=none->Own2 K G2 H2 v p q vs ws a->rest D (σ.set i (some v)) H2):DA (Hd te (Cp i)) rest D σ H :=
 e G (.refl G) a hm H s _ fun v p q vs ws G2 H2 x h1 h2 o=>k v p q vs ws G2 H2 x h1 h2 o
theorem sv_retO2 {v1 v2:V}{as:List α}{bs:List β}(h1:σ[i]? = some (some v1))(h2:σ[j]? = some (some v2))(o1:Own K G H v1 p vs as)(o2:Own K G H v2 q ws bs)(ne:p≠q)(s:Same G H)
  (k:∀ v G2 H2,Ext G H G2 H2->Own2 K G2 H2 v p q vs ws (as,bs)->D.rt v H2):DA (tRet (tTup (Ao (GG i) (Ao (GG j) Bd)))) rest D σ H:=by
 obtain ⟨rfl,g1,hh1,z1,p1⟩:=o1;obtain ⟨rfl,g2,hh2,z2,p2⟩:=o2;refine ⟨_,h1,_,h2,by show 2<=sizeLine;decide,fun t ht=>?_⟩;have x4:Ext G H (upd G t (.tup [.ref p,.ref q])) (upd H t (.tup [.ref p,.ref q])):=.new s ht;exact k (.ref t) _ _ x4 ⟨⟨t,rfl,AM⟩,Own.ext ⟨rfl,g1,hh1,z1,p1⟩ x4,Own.ext ⟨rfl,g2,hh2,z2,p2⟩ x4,ne⟩
theorem Ext.del2 {G2 H2:Hp}(o:Own2 K G H v p q vs ws a)(x:Ext (two G p q vs ws) H G2 H2):Ext G H (L2.del (L2.del G2 q) p) H2:=(x.del o.g2).del o.o1.g
theorem TV.runB2 {mb:Option Bool}{b:Bool}{Q:Bool->Hp->Prop}(o:Own2 K G H v p q vs ws a)(e:TV tt σ (two G p q vs ws) mb)(hm:mb=some b)(s:Same G H)(k:∀ G2 H2,Ext G H G2 H2->Q b H2):tt σ H Q :=
 e.run hm (o.same s) fun G2 H2 x=>k _ H2 (x.del2 o)
theorem Jt {b:Bool}{m:Option Bool}(o:Own2 K G H v p q vs ws a)(e:TV tt σ (two G p q vs ws) m)(hm:m=some b)(s:Same G H)(k:∀ G2 H2,Ext G H G2 H2->if b=true then t { D with nx:=rest D } σ H2 else u { D with nx:=rest D } σ H2):DA (Gd tt t u) rest D σ H:=TV.runB2 o e hm s k
theorem FM {m:Option α}{c:α}{as':List α}(hσ:σ[i]? = some (some v))(o:Own2 K G H v p q vs ws a)(e:EV K te σ G m)(hm:m=some c)(hp:Cs a.1 c=some as')(s:Same G H)
  (k:∀ G2 H2 w,Ext G H G2 H2->Own2 K G2 (upd H2 p (.lst (vs++[w]))) v p q (vs++[w]) ws (as',a.2)->rest D σ (upd H2 p (.lst (vs++[w])))) :
  DA (GS (tBM K "list" Dw (tOp (rAt K) (GG i) (tC (.int 0))) (Ao te Bd))) rest D σ H:=by
 obtain ⟨hl,rfl⟩:=Av hp;have hlen:=Paired.length o.o1.p;obtain ⟨t,rfl,ht⟩:=o.t;refine ⟨_,hσ,.inr ⟨_,_,SqT.of (s _ _ ht),rfl,.inl ⟨rfl,_,SqL.of o.o1.h⟩,?_⟩⟩;refine e.run hm s fun w G2 H2 x r=>?_;have o2:=o.ext x;refine ⟨p,vs,w,rfl,rfl,o2.o1.h,by omega,?_⟩;refine k G2 H2 w x ⟨o2.t,⟨rfl,o2.o1.g,AM,?_,Paired.app o2.o1.p (.cons r .nil)⟩,o2.o2.put (Ne.symm o.ne),o.ne⟩;rw [qeA,qgA];omega
end
section
variable {X:Cx}{K:FZ9}
theorem op_plusK (h:X.K=K):OpR X (binaryOp .Add) (Gm K):=h ▸ op_plus
theorem DK (h:X.K=K):OpR X (binaryOp .Mult) (rMul K):=h ▸ op_mulU
theorem Be (h:X.K=K):SlR X (rSl K):=h ▸ sl_any
theorem ix_anyK (h:X.K=K):IxR X (rAt K):=h ▸ ix_any
theorem KJ (h:X.K=K):Cn X (.builtin "len") (Hy K):=h ▸ K6
theorem Az (h:X.K=K):Cn X (.builtin "isinstance") (JQ K):=h ▸ K1
theorem IP (h:X.K=K):MtR X "str.join" (rJoin K):=h ▸ mt_join
theorem op_eqK {j:Nat}(h:X.K=K)(α:Type)[Rp α][DecidableEq α][RpE α](hr:Room j X.A)(hk:RpE.k α<=10):OpR X (compareOp .Eq) (rEqD K α):=h ▸ op_eqM α hr hk
theorem Ix {j:Nat}(h:X.K=K)(α:Type)[Rp α][DecidableEq α][RpE α](hr:Room j X.A)(hk:RpE.k α<=10):OpR X (compareOp .NotEq) (rNeD K α):=h ▸ op_neM α hr hk
theorem GQ (h:X.K=K):Cn X (.type "list") (fun xs H Q=>∃ p ys,xs=[.ref p]/\(SqL K H p ys\/SqT K H p ys)/\∀ l,H l=none->Q (.ref l) (upd H l (.lst ys))):=h ▸ Ho
theorem CQ {tg l:Expr}{tl:TE}(h:X.K=K)(hl:PE X l tl):PI X tg l (iAny K tl):=h ▸ pi_any hl
theorem KS {a:Expr}{ta:TE}(h:X.K=K)(ha:PE X a ta)(he:∀ whole,isTrue a X.env whole=(do let v <- whole;standAt a.pos;holding [v] (truthy v))) :
  PT X a (fun σ H Q=>ta σ H fun x H'=>∃ k,TruV K x H' k/\Q k H'):=h ▸ pt_truth ha he
section
variable {o e:Expr}{es:List Expr}{to:TE}{t:TA}{name:Str}{apos cpos:Pos}{T id:String}{r:V->List V->Hp->VK->Prop}
theorem EF (h:X.K=K)(pa:PlainAttrs T)(slot:Slot T name id)(hty:typeOf (.builtin id)=pure (.type "method_descriptor"))(hm:MtR X id r)(ho:PE X o to)(ha:PA X (e::es) t)
  (hbase:attributeBase o name X.env (eval o X.env)=eval o X.env:=by rfl)
  (hfew:((backTo cpos (starEach (e::es) X.env)).all (fun x=>!x.1) && (backToKw cpos (keywordEach [] X.env)).all (fun x=>x.1.isSome)
   && decide ((e::es).length+([]:List Keyword).length+(if ([]:List Keyword).isEmpty then 0 else 1)<30))=true:=by rfl)
  (hline:(apos.endLine == cpos.line)=true:=by rfl) (hs:starEach (e::es) X.env=(false,eval e X.env)::starEach es X.env:=by rfl) (hplain:(backTo cpos (starEach es X.env)).any (·.1)=false:=by rfl) :
  PE X (.Call (.Attribute o name apos) (e::es) [] cpos) (tBM K T r to t):=h ▸ pe_bm pa slot hty hm ho ha hbase hfew hline hs hplain
end
end
theorem Go {f:St->Hp->Prop}{rt:VK}{bk ct:St->Hp->Prop}{σ:St}{H:Hp}(h:f σ H):({ nx:=f,rt:=rt,bk:=bk,ct:=ct }:Ends).nx σ H:=h
section
variable {K:FZ9}{σ:St}{G H:Hp}{α β γ:Type}[Rp α][Rp β][Rp γ]{ta tb te:TE}{rest t u:TS}{D:Ends}{i j:Nat}
def JR (K:FZ9):V->List V->Hp->VK->Prop:=fun x vs H Q=>∃ (l:Addr) (ys:List Str) (y:Str),x = .ref l/\vs=[.str y]/\SqL K H l (ys.map V.str)/\Q (.int (countIn (.str y) (ys.map PyData.str))) H
theorem KN {X:Cx}(h:X.K=K):MtR X "list.count" (JR K):=by
 subst h;intro pins s σ H x vs v us Q I rx rv h;obtain ⟨l,ys,y,rfl,rfl,hl,q⟩:=h;cases rx;obtain ⟨u,rfl,ru⟩:=EY rv;obtain ⟨t,rfl⟩:=ru;obtain ⟨its,r,pl,_⟩:=I.list hl;exact count_list_strs pl.isList (by simpa using GT r) ⟨.int _,H,I.tok _,⟨_,rfl⟩,q⟩
theorem EW (y:Str):∀ ys:List Str,countIn (.str y) (ys.map PyData.str)=((ys.count y:Nat):Int)
 | []=>rfl
 | a::r=>by
  show (if same (PyData.str a) (.str y) then (1:Int) else 0)+countIn (.str y) (r.map PyData.str)=_;rw [EW y r,List.count_cons];have e:same (PyData.str a) (.str y)=(a == y):=rfl;rw [e];by_cases h:(a == y)=true
  ·rw [if_pos h,if_pos h];omega
  ·rw [if_neg h,if_neg h];omega
theorem ev_count {la:Option (List Str)}{sb:Option Str}(ea:EV K ta σ G la)(eb:EV K tb σ G sb):EV K (tBM K "list" (JR K) ta (Ao tb Bd)) σ G (la.bind fun xs=>sb.bind fun y=>some ((xs.count y:Nat):Int)):=by
 clear 7;obtain ⟨a,ha,hc⟩:=qaA.mp hc;obtain ⟨b,hb,hc⟩:=qaA.mp hc;cases hc;clear 8 ea a ha;obtain ⟨l,xs,rfl,h,z,p⟩:=r2;obtain rfl:=Dg p;refine ⟨.inl ⟨rfl,_,.inl (x2.gh.rd h)⟩,?_⟩;refine eb G2 (s1.trans x2.gg) b hb H2 x2.gh _ fun u G3 H3 x3 r3=>?_;obtain ⟨rfl,_⟩:=r3;exact ⟨l,a,b,rfl,rfl,.inl (x3.gh.rd (x3.gg.rd h)),k _ _ _ (x2.trans x3) (by show V.int _=V.int _;rw [EW])⟩
end
inductive D where
 | non
 | bl (b:Bool)
 | int (i:Int)
 | str (x:Str)
 | lst (l:List D)
 | tup (l:List D)
 | dic
mutual
inductive RelD (K:FZ9)(H:Hp):V->D->Prop where
 | non:RelD K H .non .non
 | bl (b:Bool):RelD K H (.bl b) (.bl b)
 | int (i:Int):RelD K H (.int i) (.int i)
 | str (x:Str) (z:x.length<=sizeLine):RelD K H (.str x) (.str x)
 | lst {a:Addr}{xs:List V}{ds:List D}(h:Rd H a (.lst xs)) (z:xs.length<=sizeLine) (r:RelDs K H xs ds):RelD K H (.ref a) (.lst ds)
 | tup {a:Addr}{xs:List V}{ds:List D}(h:SqT K H a xs) (z:xs.length<=sizeLine) (r:RelDs K H xs ds):RelD K H (.ref a) (.tup ds)
 | dK {a:Addr}{kvs:List (Key × V)}(h:Rd H a (.dK kvs)):RelD K H (.ref a) .dic
inductive RelDs (K:FZ9)(H:Hp):List V->List D->Prop where
 | nil:RelDs K H [] []
 | cons {x:V}{d:D}{xs:List V}{ds:List D}(h:RelD K H x d) (t:RelDs K H xs ds):RelDs K H (x::xs) (d::ds)
end
mutual
theorem RelD.mono {K:FZ9}{H H':Hp}(s:Same H H'):∀ {v:V}{d:D},RelD K H v d->RelD K H' v d
 | _,_,.non=>.non
 | _,_,.bl b=>.bl b
 | _,_,.int i=>.int i
 | _,_,.str x z=>.str x z
 | _,_,.lst h z r=>.lst (s.rd h) z (RelDs.mono s r)
 | _,_,.tup h z r=>.tup (s.tup h) z (RelDs.mono s r)
 | _,_,.dK h=>.dK (s.rd h)
theorem RelDs.mono {K:FZ9}{H H':Hp}(s:Same H H'):∀ {v:List V}{d:List D},RelDs K H v d->RelDs K H' v d
 | _,_,.nil=>.nil
 | _,_,.cons h t=>.cons (RelD.mono s h) (RelDs.mono s t)
end
instance rpD:Rp D:=⟨RelD,fun s h=>RelD.mono s h⟩
theorem GR {K:FZ9}{H:Hp}:∀ {xs:List V}{ds:List D},Paired (Rp.rel K H) xs ds->RelDs K H xs ds
 | _,_,.nil=>.nil
 | _,_,.cons h t=>.cons h (GR t)
theorem Ed {K:FZ9}{H:Hp}:∀ {xs:List V}{ds:List D},RelDs K H xs ds->Paired (Rp.rel K H) xs ds
 | _,_,.nil=>.nil
 | _,_,.cons h t=>.cons h (Ed t)
class ToD (α:Type) [Rp α] where
 to:α->D
 rel:∀ {K:FZ9}{H:Hp}{v:V}{a:α},Rp.rel K H v a->RelD K H v (to a)
theorem toDs {K:FZ9}{H:Hp}{α:Type}[Rp α][ToD α]:∀ {xs:List V}{as:List α},Paired (Rp.rel K H) xs as->Paired (Rp.rel (α:=D) K H) xs (as.map ToD.to)
 | _,_,.nil=>.nil
 | _,_,.cons h t=>.cons (ToD.rel h) (toDs t)
instance tdD:ToD D:=⟨id,fun h=>h⟩
instance tdInt:ToD Int:=⟨.int,fun h=>by cases h;exact .int _⟩
instance tdBool:ToD Bool:=⟨.bl,fun h=>by cases h;exact .bl _⟩
instance tdStr:ToD Str:=⟨.str,fun h=>by obtain ⟨rfl,z⟩:=h;exact .str _ z⟩
instance tdUnit:ToD Unit:=⟨fun _=>.non,fun h=>by cases h;exact .non⟩
instance tdList {α:Type}[Rp α][ToD α]:ToD (List α):=⟨fun l=>.lst (l.map ToD.to),fun ⟨l,xs,e,h,z,p⟩=>by subst e;exact .lst h z (GR (toDs p))⟩
instance tdTp {α:Type}[Rp α][ToD α]:ToD (Tp α):=⟨fun l=>.tup (l.l.map ToD.to),fun ⟨l,xs,e,h,z,p⟩=>by subst e;exact .tup h z (GR (toDs p))⟩
instance tdPair {α β:Type}[Rp α][ToD α][Rp β][ToD β]:ToD (α × β):=⟨fun p=>.tup [ToD.to p.1,ToD.to p.2],fun ⟨t,x,y,e,h,r1,r2⟩=>by subst e;exact .tup h (by show 2<=sizeLine;decide) (.cons (ToD.rel r1) (.cons (ToD.rel r2) .nil))⟩
def GM:D->Option Str
 | .str x=>some x
 | _=>none
def dk:D->String
 | .non => "NoneType"
 | .bl _ => "bool"
 | .int _ => "int"
 | .str _ => "str"
 | .lst _ => "list"
 | .tup _ => "tuple"
 | .dic => "dict"
def isK (T:String)(d:D):Bool:=dk d == T || (T == "int" && dk d == "bool")
def lenD:D->Option Int
 | .str x=>some (x.length:Int)
 | .lst l=>some (l.length:Int)
 | .tup l=>some (l.length:Int)
 | _=>none
def atD:D->Int->Option D
 | .lst l,i=>atI l i
 | .tup l,i=>atI l i
 | .str x,i=>(atI x.cps.toList i).bind fun c=>some (.str ⟨#[c]⟩)
 | _,_=>none
section
variable {K:FZ9}{σ:St}{G:Hp}{α β:Type}[Rp α][Rp β]{ta tb te:TE}{md:Option D}
theorem Ad [ToD α]{m:Option α}(e:EV K te σ G m):EV K te σ G (m.bind fun a=>some (ToD.to a)):=by
 clear 7;obtain ⟨a,ha,hc⟩:=qaA.mp hc;cases hc;exact e G1 s1 a ha H sH Q fun v G2 H2 x r=>k v G2 H2 x (ToD.rel r)
theorem Es (e:EV K te σ G md):EV K te σ G (md.bind fun d=>GM d):=by
 clear 7;obtain ⟨d,hd,hc⟩:=qaA.mp hc;refine e G1 s1 d hd H sH Q fun v G2 H2 x r=>?_
 cases d with
 | str y =>
  cases hc
  cases r with
  | str _ z=>exact k _ _ _ x ⟨rfl,z⟩
 | _=>cases hc
theorem RelD.ty {H:Hp}{v:V}{d:D}(r:RelD K H v d):TyS K H v (dk d):=by
 cases r with
 | non=>exact .non
 | bl=>exact .bl _
 | int=>exact .int _
 | str=>exact .str _
 | lst h=>exact .lst (.inl h)
 | tup h=>exact .tup h
 | dK h=>exact .dK h
theorem kit_all:∀ n∈["NoneType","bool","int","str","list","tuple","dict"],∀ T∈["str","list","tuple","bool","int","dict"],K2 n T=some (n == T || (T == "int" && n == "bool")):=by decide +kernel
theorem isK_ok {T:String}(hT:T∈["str","list","tuple","bool","int","dict"])(d:D):K2 (dk d) T=some (isK T d):=by
 unfold isK;exact kit_all (dk d) (by cases d<;>simp [dk]) T hT
theorem Ci {T:String}(hT:T∈["str","list","tuple","bool","int","dict"])(ea:EV K ta σ G md):EV K (tCB (JQ K) (Ao ta (Ao (tC (.ty T)) Bd))) σ G (md.bind fun d=>some (isK T d)):=by
 clear 7;obtain ⟨a,ha,hc⟩:=qaA.mp hc;cases hc;clear 8 ea a ha;exact ⟨_,_,_,_,rfl,(RelD.ty r2).mono x2.gh,isK_ok hT a,k _ _ _ x2 rfl⟩
theorem RelDs.len {H:Hp}{xs:List V}{ds:List D}(r:RelDs K H xs ds):xs.length=ds.length:=Paired.length (Ed r)
theorem Hb (ea:EV K ta σ G md):EV K (tCB (Hy K) (Ao ta Bd)) σ G (md.bind fun d=>lenD d):=by
 clear 7;obtain ⟨a,ha,hc⟩:=qaA.mp hc;clear 8 ea a ha
 cases r2 with
 | str x z=>cases hc;exact ⟨z,k _ _ _ x2 rfl⟩
 | lst h z r=>cases hc;exact ⟨_,.inl (.inl (x2.gh.rd h)),by rw [r.len];exact k _ _ _ x2 rfl⟩
 | tup h z r=>cases hc;exact ⟨_,.inr (x2.gh.tup h),by rw [r.len];exact k _ _ _ x2 rfl⟩
 | _=>cases hc
theorem D4 {ib:Option Int}(ea:EV K ta σ G md)(eb:EV K tb σ G ib):EV K (tOp (rAt K) ta tb) σ G (md.bind fun d=>ib.bind fun i=>atD d i) :=
 BE (fun s ra rb e Q k=>by
  cases rb
  cases ra with
  | str x z =>
   obtain ⟨c,hc,e⟩:=qaA.mp e;cases e;exact ⟨z,c,hc,k _ _ _ (.refl s) (.str _ (by show 1<=sizeLine;decide))⟩
  | lst h z r =>
   obtain ⟨v,hv,r⟩:=DS (Ed r) e;exact .inl ⟨_,v,.inl (s.rd h),hv,k _ _ _ (.refl s) r⟩
  | tup h z r =>
   obtain ⟨v,hv,r⟩:=DS (Ed r) e;exact .inr ⟨_,v,s.tup h,hv,k _ _ _ (.refl s) r⟩
  | _=>cases e) ea eb
theorem ev_dnew:EV K tDNewK σ G (some D.dic):=by
 clear 7;cases hc;exact fun p hp=>k _ _ _ (.new sH hp) (.dK (.inl AM))
end
section
variable {K:FZ9}{σ:St}{G:Hp}{ta:TE}
def rAllB (K:FZ9):List V->Hp->VK->Prop:=fun vs H Q=>∃ (l:Addr) (bs:List Bool),vs=[.ref l]/\SqL K H l (bs.map V.bl)/\Q (.bl (bs.all id)) H
theorem bools_at {bs:List Bool}{its:List Value}(r:Vals (bs.map V.bl) its){i:Nat}{v:Value}(h:its.toArray[i]? = some v):v = .bool (bs.getD i true):=by
 have h:its[i]? = some v:=by simpa using h
 have hl:=r.length;rw [qdA] at hl;obtain ⟨hi,_⟩:=qpA.mp h
 have e:(bs.map V.bl)[i]? = some (V.bl (bs.getD i true)):=by
  have:i<bs.length:=by omega
  simp [this]
 obtain ⟨u,hu,ru⟩:=r.get e;rw [h] at hu;cases hu;exact ru
theorem KG {X:Cx}(hc:X.calm=true)(h:X.K=K):Cn X (.builtin "all") (rAllB K):=by
 subst h;intro pins s σ H vs us Q I r h;obtain ⟨l,bs,rfl,hl,q⟩:=h;obtain ⟨u,rfl,ru⟩:=EY r;cases ru;obtain ⟨its,rv,pl,_⟩:=I.list hl;have hL:=pl.isList;have hlt:l<s.heap.objs.size:=by obtain ⟨_,e,_⟩:=hL;exact qzA e
 have hlen:=rv.length;rw [qdA] at hlen;refine call_all_walk (wpAny_pyIter_list hL ?_);refine ⟨_,_,_,_,_,_,fun i=>bs.getD i true,rfl,Walks.list (A:=X.A.in1) (I.ok.hd hc) _ l (qpB hlt) its.toArray,⟨⟨_,qbB _ rfl,rfl,rfl⟩,hL.push _⟩,?_,fun h' tk hk=>?_⟩
 ·intro i v s' Q' E' hP hQ;rw [bools_at rv hP];exact wpAny_truthy_bool hQ
 ·have e:(List.range its.toArray.size).all (fun i=>bs.getD i true)=bs.all id:=by
   rw [qiB,<- hlen];apply Bool.eq_iff_iff.mpr;rw [List.all_eq_true,List.all_eq_true];constructor
   ·intro hh b hb;obtain ⟨i,hi⟩:=List.mem_iff_getElem?.mp hb;have hi2:=(qpA.mp hi).1;have:=hh i (qnA.mpr hi2);rw [List.getD_eq_getElem?_getD,hi] at this;exact this
   ·intro hh i hi;have hi2:=qnA.mp hi;have:=hh bs[i] (List.getElem_mem hi2);rw [List.getD_eq_getElem?_getD,qqA hi2];exact this
  rw [e];refine ⟨.bl _,H,I.kept fun b o eb=>?_,rfl,q⟩;refine hk b o (fun hm=>?_) (qaB _ eb);have:b=s.heap.objs.size:=by simpa using hm
  exact absurd (this ▸ qzA eb) (qxA _)
theorem En {H:Hp}:∀ {xs:List V}{ys:List Bool},Paired (Rp.rel K H) xs ys->xs=ys.map V.bl
 | _,_,.nil=>rfl
 | _,_,.cons r t=>by
  cases r;rw [En t]
  rfl
theorem ev_all {lb:Option (List Bool)}(ea:EV K ta σ G lb):EV K (tCB (rAllB K) (Ao ta Bd)) σ G (lb.bind fun bs=>some (bs.all id)):=by
 clear 7;obtain ⟨a,ha,hc⟩:=qaA.mp hc;cases hc;clear 8 ea a ha;obtain ⟨l,xs,rfl,h,z,p⟩:=r2;obtain rfl:=En p;exact ⟨l,a,rfl,.inl (x2.gh.rd h),k _ _ _ x2 rfl⟩
end
def OK {α:Type}(m:Option α)(P:α->Prop):Prop:=∃ a,m=some a/\P a
section
variable {α β S ρ:Type}{m:Option α}{P Q:α->Prop}{R:β->Prop}
theorem OK.mono (h:OK m P)(k:∀ a,P a->Q a):OK m Q:=let ⟨a,e,p⟩:=h;⟨a,e,k a p⟩
theorem AC {a:α}(h:P a):OK (some a) P:=⟨a,rfl,h⟩
theorem A9 {f:α->Option β}(h:OK m fun a=>OK (f a) R):OK (m.bind f) R:=by
 obtain ⟨a,rfl,h⟩:=h;exact h
theorem Bx {f:α->Option β}(h:OK m P)(k:∀ a,P a->OK (f a) R):OK (m.bind f) R:=A9 (h.mono k)
theorem Fg {a:α}{f:α->Option β}(h:OK (f a) R):OK ((some a).bind f) R:=h
theorem AY {b:Bool}{x y:Option α}(h1:b=true->OK x P)(h2:b=false->OK y P):OK (cond b x y) P:=by
 cases b with
 | true=>exact h1 rfl
 | false=>exact h2 rfl
theorem OK.eq {a:α}(h:OK m fun b=>b=a):m=some a:=by obtain ⟨b,e,rfl⟩:=h;exact e
theorem OK.of {a:α}(e:m=some a)(h:P a):OK m P:=⟨a,e,h⟩
theorem AE {α β:Type}(a:α)(f:α->Option β):(some a).bind f=f a:=by rw [Option.bind_some]
theorem AR {α:Type}(m:Option α):(m.bind fun x=>some x)=m:=by cases m<;>rfl
theorem Iz {a b:Int}{P:Int->Prop}(hb:0<b)(h:P (a % b)):OK (II a b) P:=⟨_,if_pos hb,h⟩
theorem ok_mul {a b:Int}{P:Int->Prop}(hb:CMul a b)(h:P (a * b)):OK (Im a b) P:=⟨_,if_pos hb,h⟩
theorem ok_div {a b:Int}{P:Int->Prop}(hb:0<b/\b<1073741824)(h:P (a / b)):OK (KF a b) P:=⟨_,if_pos hb,h⟩
theorem Br {a b:Str}{P:Str->Prop}(hb:a.length+b.length<=sizeLine)(h:P (a++b)):OK (F0 a b) P:=⟨_,if_pos hb,h⟩
theorem HV {a b:List α}{P:List α->Prop}(hb:a.length+b.length<=sizeLine)(h:P (a++b)):OK (catL a b) P:=⟨_,if_pos hb,h⟩
theorem JX {a:List α}{b:α}{P:List α->Prop}(hb:a.length<sizeLine)(h:P (a++[b])):OK (Cs a b) P:=⟨_,if_pos hb,h⟩
theorem ok_rep {a:List α}{k:Nat}{P:List α->Prop}(hk:a.length * k<=sizeLine)(hs:k<4611686018427387904)(h:P (List.replicate k a).flatten):OK (repL a (k:Int)) P :=
 ⟨_,if_pos ⟨⟨by omega,by omega⟩,by rw [Int.toNat_natCast];exact hk⟩,by rw [Int.toNat_natCast];exact h⟩
theorem F5 {lo hi:Int}{n:Nat}{P:List Int->Prop}(hn:hi - lo=n)(h0:-1000000000<=lo/\lo<=1000000000)(h1:n<=sizeLine)(h:P ((List.range n).map fun (i:Nat)=>lo+(i:Int))):OK (IV lo hi) P:=by
 have hs:sizeLine=16777216:=qcB;have e:(hi - lo).toNat=n:=by omega
 refine ⟨_,if_pos ⟨⟨by omega,by omega,by omega,by omega⟩,by omega⟩,?_⟩;rw [e];exact h
theorem Gq {a:List α}{i:Int}(h0:0<=i)(h1:i<a.length)(h:∀ x,a[i.toNat]? = some x->P x):OK (atI a i) P:=by
 obtain ⟨k,rfl⟩:=qeB h0;have hk:k<a.length:=by omega
 refine ⟨a[k],CY (by simp [hk]),h _ ?_⟩;rw [Int.toNat_natCast];simp [hk]
theorem Ig {f:α->S->Option (Fl S ρ)}{as:List α}{s0:S}(I:Nat->S->Prop)(J:S->Prop)(R:ρ->Prop){P:Fl S ρ->Prop}(h0:I 0 s0)
  (hs:∀ (i:Nat) a s,as[i]? = some a->I i s->OK (f a s) fun fl=>match fl with | .nx s'=>I (i+1) s' | .bk s'=>J s' | .rt r=>R r)
  (hn:∀ s,I as.length s->P (.nx s)) (hj:∀ s,J s->P (.nx s)) (hr:∀ r,R r->P (.rt r)):OK (ER f as s0) P:=by
 have key:∀ (n i:Nat) (s:S),n=as.length - i->i<=as.length->I i s->OK (ER f (as.drop i) s) P:=by
  intro n
  induction n with
  | zero =>
   intro i s hn0 hi hI;have e:i=as.length:=by omega
   subst e;rw [List.drop_length];exact AC (hn s hI)
  | succ n ih =>
   intro i s hn0 hi hI;have hlt:i<as.length:=by omega
   rw [List.drop_eq_getElem_cons hlt];obtain ⟨fl,e,h⟩:=hs i as[i] s (by simp [hlt]) hI;show OK ((f as[i] s).bind _) P;rw [e]
   cases fl with
   | nx s'=>exact ih (i+1) s' (by omega) hlt h
   | bk s'=>exact AC (hj s' h)
   | rt r=>exact AC (hr r h)
 exact key as.length 0 s0 (by omega) (qsB _) h0
theorem FS {f:α->S->Option (Fl S ρ)}{as:List α}{s0:S}(I:Nat->S->Prop){P:Fl S ρ->Prop}(h0:I 0 s0)
  (hs:∀ (i:Nat) a s,as[i]? = some a->I i s->OK (f a s) fun fl=>∃ s',fl = .nx s'/\I (i+1) s') (hn:∀ s,I as.length s->P (.nx s)):OK (ER f as s0) P :=
 Ig I (fun _=>False) (fun _=>False) h0 (fun i a s ha hI=>(hs i a s ha hI).mono fun fl ⟨s',e,h⟩=>by subst e;exact h) hn (fun _ h=>h.elim) fun _ h=>h.elim
theorem GK {f:α->Option β}{g:α->β}{P:List β->Prop}:∀ {as:List α},(∀ a∈as,f a=some (g a))->P (as.map g)->OK (E2 f as) P:=by
 intro as
 have key:∀ as:List α,(∀ a∈as,f a=some (g a))->E2 f as=some (as.map g):=by
  intro as
  induction as with
  | nil=>intro _;rfl
  | cons a r ih =>
   intro h;show ((f a).bind fun y=>(E2 f r).bind fun ys=>some (y::ys))=_;rw [h a qkA,ih fun x hx=>h x (qmA _ hx)]
   rfl
 exact fun h p=>⟨_,key as h,p⟩
theorem JO {f:α->Option β}{R:α->β->Prop}{P:List β->Prop}:∀ {as:List α},(∀ a∈as,OK (f a) (R a))->(∀ bs:List β,bs.length=as.length->(∀ b∈bs,∃ a∈as,R a b)->(∀ (i:Nat) a b,as[i]? = some a->bs[i]? = some b->R a b)->P bs)->OK (E2 f as) P:=by
 intro as
 have key:∀ as:List α,(∀ a∈as,OK (f a) (R a))->OK (E2 f as) fun bs=>bs.length=as.length/\(∀ b∈bs,∃ a∈as,R a b)/\∀ (i:Nat) a b,as[i]? = some a->bs[i]? = some b->R a b:=by
  intro as
  induction as with
  | nil=>intro _;exact AC ⟨rfl,fun b h=>by simp at h,fun i a b h=>by simp at h⟩
  | cons a r ih =>
   intro h;refine Bx (h a qkA) fun y hy=>Bx (ih fun x hx=>h x (qmA _ hx)) fun ys ⟨h1,h2,h3⟩=>AC ⟨by simp [h1],?_,?_⟩
   ·intro b hb;rcases qhA.mp hb with e|e
    ·subst e;exact ⟨a,qkA,hy⟩
    ·obtain ⟨x,hx,hr⟩:=h2 b e;exact ⟨x,qmA _ hx,hr⟩
   ·intro i x b hx hb
    cases i with
    | zero=>simp at hx hb;subst hx;subst hb;exact hy
    | succ i=>exact h3 i x b (by simpa using hx) (by simpa using hb)
 exact fun h p=>(key as h).mono fun bs ⟨h1,h2,h3⟩=>p bs h1 h2 h3
end
end L2
namespace Lasso
variable {α β:Type}
end Lasso
namespace Lasso
variable {α:Type}[DecidableEq α]
end Lasso
namespace L2
open PySem PySem.Spec PyProof.Rows
section
variable {X:Cx}{K:FZ9}{o:Expr}{to:TE}{name:Str}{apos cpos:Pos}{T id:String}{r:V->List V->Hp->VK->Prop}
theorem pe_bm0K (h:X.K=K)(pa:PlainAttrs T)(slot:Slot T name id)(hty:typeOf (.builtin id)=pure (.type "method_descriptor"))(hm:MtR X id r)(ho:PE X o to)
  (hbase:attributeBase o name X.env (eval o X.env)=eval o X.env:=by rfl) (hline:(apos.endLine == cpos.line)=true:=by rfl):PE X (.Call (.Attribute o name apos) [] [] cpos) (tBM0 K T r to):=h ▸ pe_bm0 pa slot hty hm ho hbase hline
end
inductive Nt where
 | txt (x:Str)
 | tup (l:List Nt)
 | int (n:Int)
mutual
def Nt.dec:(a b:Nt)->Decidable (a=b)
 | .txt x,.txt y=>if h:x=y then .isTrue (by rw [h]) else .isFalse fun e=>h (by cases e;rfl)
 | .txt _,.tup _=>.isFalse fun e=>by cases e
 | .tup _,.txt _=>.isFalse fun e=>by cases e
 | .int m,.int n=>if h:m=n then .isTrue (by rw [h]) else .isFalse fun e=>h (by cases e;rfl)
 | .int _,.txt _=>.isFalse fun e=>by cases e
 | .int _,.tup _=>.isFalse fun e=>by cases e
 | .txt _,.int _=>.isFalse fun e=>by cases e
 | .tup _,.int _=>.isFalse fun e=>by cases e
 | .tup l,.tup m=>match Nt.decs l m with
  | .isTrue h=>.isTrue (by rw [h])
  | .isFalse h=>.isFalse fun e=>h (by cases e;rfl)
def Nt.decs:(l m:List Nt)->Decidable (l=m)
 | [],[]=>.isTrue rfl
 | [],_::_=>.isFalse fun e=>by cases e
 | _::_,[]=>.isFalse fun e=>by cases e
 | a::l,b::m=>match Nt.dec a b with
  | .isFalse h=>.isFalse fun e=>h (by cases e;rfl)
  | .isTrue h=>match Nt.decs l m with
   | .isTrue h2=>.isTrue (by rw [h,h2])
   | .isFalse h2=>.isFalse fun e=>h2 (by cases e;rfl)
end
mutual
def Nt.dep:Nt->Nat
 | .txt _=>0
 | .int _=>0
 | .tup l=>Nt.deps l+1
def Nt.deps:List Nt->Nat
 | []=>0
 | a::l=>max (Nt.dep a) (Nt.deps l)
end
mutual
inductive RelN (K:FZ9)(H:Hp):V->Nt->Prop where
 | txt (x:Str) (z:x.length<=sizeLine):RelN K H (.str x) (.txt x)
 | int (n:Int):RelN K H (.int n) (.int n)
 | tup {a:Addr}{xs:List V}{ds:List Nt}(h:SqT K H a xs) (z:xs.length<=sizeLine) (r:RelNs K H xs ds) (l:ds[0]? = some (.txt "lamp")->H a=some (.tup xs)):RelN K H (.ref a) (.tup ds)
inductive RelNs (K:FZ9)(H:Hp):List V->List Nt->Prop where
 | nil:RelNs K H [] []
 | cons {x:V}{d:Nt}{xs:List V}{ds:List Nt}(h:RelN K H x d) (t:RelNs K H xs ds):RelNs K H (x::xs) (d::ds)
end
mutual
theorem RelN.mono {K:FZ9}{H H':Hp}(s:Same H H'):∀ {v:V}{d:Nt},RelN K H v d->RelN K H' v d
 | _,_,.txt x z=>.txt x z
 | _,_,.int n=>.int n
 | _,_,.tup h z r l=>.tup (s.tup h) z (RelNs.mono s r) fun e=>s _ _ (l e)
theorem RelNs.mono {K:FZ9}{H H':Hp}(s:Same H H'):∀ {v:List V}{d:List Nt},RelNs K H v d->RelNs K H' v d
 | _,_,.nil=>.nil
 | _,_,.cons h t=>.cons (RelN.mono s h) (RelNs.mono s t)
end
instance rpN:Rp Nt:=⟨RelN,fun s h=>RelN.mono s h⟩
theorem SqT.keep {K:FZ9}{H H':Hp}{a:Addr}{xs:List V}(s:TupK H H')(h:SqT K H a xs):SqT K H' a xs:=by
 rcases h with h|h
 ·exact .inl (s.rd _ _ h)
 ·exact .inr h
mutual
theorem RelN.keep {K:FZ9}{H H':Hp}(s:TupK H H'):∀ {v:V}{d:Nt},RelN K H v d->RelN K H' v d
 | _,_,.txt x z=>.txt x z
 | _,_,.int n=>.int n
 | _,_,.tup h z r l=>.tup (SqT.keep s h) z (RelNs.keep s r) fun e=>s.eq _ _ (l e)
theorem RelNs.keep {K:FZ9}{H H':Hp}(s:TupK H H'):∀ {v:List V}{d:List Nt},RelNs K H v d->RelNs K H' v d
 | _,_,.nil=>.nil
 | _,_,.cons h t=>.cons (RelN.keep s h) (RelNs.keep s t)
end
instance imN:Imm Nt:=⟨fun s h=>RelN.keep s h⟩
section
variable {K:FZ9}{σ:St}{G:Hp}{α:Type}[Rp α]{ta tb tc te:TE}{t1 t2:TO}{ia ib ic:Option Int}{m1 m2:Option (Option Int)}
class Flat (α:Type) [Rp α] [DecidableEq α]:Prop where
 fl:∀ {K:FZ9}{H:Hp}{v:V}{a:α},Rp.rel K H v a->GN v=true
 eq:∀ {K:FZ9}{H H':Hp}{v u:V}{a b:α},Rp.rel K H v a->Rp.rel K H' u b->eqV v u=decide (a=b)
end
mutual
def Nt.toD:Nt->D
 | .txt x=>.str x
 | .int n=>.int n
 | .tup l=>.tup (Nt.toDs l)
def Nt.toDs:List Nt->List D
 | []=>[]
 | a::l=>Nt.toD a::Nt.toDs l
end
mutual
theorem RelN.toD {K:FZ9}{H:Hp}:∀ {v:V}{a:Nt},RelN K H v a->RelD K H v a.toD
 | _,_,.txt x z=>by unfold Nt.toD;exact .str x z
 | _,_,.int n=>by unfold Nt.toD;exact .int n
 | _,_,.tup h z r _=>by unfold Nt.toD;exact .tup h z (RelNs.toD r)
theorem RelNs.toD {K:FZ9}{H:Hp}:∀ {xs:List V}{l:List Nt},RelNs K H xs l->RelDs K H xs (Nt.toDs l)
 | _,_,.nil=>by unfold Nt.toDs;exact .nil
 | _,_,.cons h t=>by unfold Nt.toDs;exact .cons (RelN.toD h) (RelNs.toD t)
end
instance tdN:ToD Nt:=⟨Nt.toD,fun h=>RelN.toD h⟩
section
variable {K:FZ9}{σ:St}{G H G1 H1 G0 H0:Hp}{α β γ:Type}[Rp α][Rp β][Rp γ]{te ti:TE}{tt:TT}{t u rest:TS}{D:Ends}{i j:Nat}{as:List α}{bs:List β}{v w:V}{p q:Addr}{vs ws:List V}
theorem Own.over {o:HO}(h:Own K G H v p vs as)(ne:p≠q)(hq:G q=none):Own K (upd G q o) H v p vs as :=
 ⟨h.v,by rw [AK ne];exact h.g,h.h,h.z,Paired.imp' (fun _ _ r=>Rp.mono (Same.new hq) r) h.p⟩
theorem TV.runBB {mb:Option Bool}{b:Bool}{Q:Bool->Hp->Prop}(o1:Own K G H v p vs as)(o2:Own K G H w q ws bs)(ne:q≠p)(e:TV tt σ (upd (upd G p (.lst vs)) q (.lst ws)) mb)(hm:mb=some b)(s:Same G H)
  (k:∀ G2 H2,Ext G H G2 H2->Q b H2):tt σ H Q :=
 TV.runB (o2.over ne o1.g) e hm (o1.same s) fun G2 H2 x=>k (del G2 p) H2 (x.del o1.g)
theorem sv_ifBB {b:Bool}{m:Option Bool}(o1:Own K G H v p vs as)(o2:Own K G H w q ws bs)(ne:q≠p)(e:TV tt σ (upd (upd G p (.lst vs)) q (.lst ws)) m)(hm:m=some b)(s:Same G H)
  (k:∀ G2 H2,Ext G H G2 H2->if b=true then t { D with nx:=rest D } σ H2 else u { D with nx:=rest D } σ H2):DA (Gd tt t u) rest D σ H:=TV.runBB o1 o2 ne e hm s k
end
class NoN (α:Type) [Rp α]:Prop where
 no_non:∀ {K:FZ9}{H:Hp}{x:V}{a:α},Rp.rel K H x a->x ≠ .non
 ne:∀ {K:FZ9}{X:Cx}{pins:List (Addr × Obj)}{σ:St}{H:Hp}{s:Shared}{x:V}{u:Value}{a:α}(A:Around),X.K=K->Inv X pins σ H s->A.units<cLine->RelV x u->Rp.rel K H x a ->
  (SeqAt.EqAt A s .none u false/\SeqAt.RcAt A s .none u false/\SeqAt.RcNeAt A s .none u true)/\SeqAt.EqAt A s u .none false/\SeqAt.RcAt A s u .none false/\SeqAt.RcNeAt A s u .none true
theorem eqOpt {K:FZ9}{k:Nat}{α:Type}[Rp α][DecidableEq α][NoN α](E:EqTy K k (Rp.rel (α:=α) K)):EqTy K k (Rp.rel (α:=Option α) K) where
 fn:=by
  intro X pins σ H s x a b hK I ha hb
  cases a with
  | none =>
   cases b with
   | none=>rfl
   | some b =>
    have ha:x = .non:=ha;subst ha;exact absurd rfl (NoN.no_non (α:=α) hb)
  | some a =>
   cases b with
   | none =>
    have hb:x = .non:=hb;subst hb;exact absurd rfl (NoN.no_non (α:=α) ha)
   | some b=>exact congrArg some (E.fn hK I ha hb)
 eq:=by
  intro X pins σ H s x y u v a b A hK I hu r1 r2 ha hb
  cases a with
  | none =>
   have ha:x = .non:=ha;subst ha;cases r1
   cases b with
   | none =>
    have hb:y = .non:=hb;subst hb;cases r2;exact SeqAt.EqAt.same _
   | some b=>exact (NoN.ne (α:=α) A hK I (by omega) r2 hb).1.1
  | some a =>
   cases b with
   | none =>
    have hb:y = .non:=hb;subst hb;cases r2;exact (NoN.ne (α:=α) A hK I (by omega) r1 ha).2.1
   | some b =>
    have:=E.eq A hK I hu r1 r2 ha hb;have e3:decide (some a=some b)=decide (a=b):=by simp
    rw [e3];exact this
 rc:=by
  intro X pins σ H s x y u v a b A hK I hu r1 r2 ha hb
  cases a with
  | none =>
   have ha:x = .non:=ha;subst ha;cases r1
   cases b with
   | none =>
    have hb:y = .non:=hb;subst hb;cases r2;exact ⟨SeqAt.RcAt.none_none,SeqAt.RcNeAt.none_none⟩
   | some b=>exact (NoN.ne (α:=α) A hK I (by omega) r2 hb).1.2
  | some a =>
   cases b with
   | none =>
    have hb:y = .non:=hb;subst hb;cases r2;exact (NoN.ne (α:=α) A hK I (by omega) r1 ha).2.2
   | some b =>
    have:=E.rc A hK I hu r1 r2 ha hb;have e3:decide (some a=some b)=decide (a=b):=by simp
    rw [e3];exact this
instance reOpt {α:Type}[Rp α][DecidableEq α][RpE α][NoN α]:RpE (Option α):=⟨RpE.k α,fun K=>eqOpt (RpE.ty K)⟩
class Fix (α:Type) [Rp α]:Prop where
 fx:∀ {K:FZ9}{G G':Hp}{v:V}{a:α},Rp.rel K G v a->Rp.rel K G' v a
end L2
namespace L3
open PySem
end L3
namespace L2
open PySem PySem.Spec PyProof.Rows
inductive SI where
 | s (x:Str)
 | i (n:Int)
 deriving DecidableEq
def RelSI (v:V):SI->Prop
 | .s x=>v = .str x/\x.length<=sizeLine
 | .i n=>v = .int n
instance rpSI:Rp SI:=⟨fun _ _ v a=>RelSI v a,fun _ h=>h⟩
theorem eqSI {K:FZ9}:EqTy K 0 (Rp.rel (α:=SI) K) where
 fn:=fun {X pins σ H s x a b} hK I h1 h2=>by
  cases a with
  | s y=>cases b with
   | s z=>obtain ⟨rfl,_⟩:=h1;obtain ⟨e,_⟩:=h2;cases e;rfl
   | i n=>obtain ⟨rfl,_⟩:=h1;cases h2
  | i m=>cases b with
   | s z=>obtain ⟨rfl,_⟩:=h2;cases h1
   | i n =>
    have h1:x = .int m:=h1;have h2:x = .int n:=h2;subst h1;cases h2
    rfl
 eq:=fun {X pins σ H s x y u v a b} A hK I hu r1 r2 h1 h2=>by
  cases a with
  | s p=>cases b with
   | s q =>
    obtain ⟨rfl,_⟩:=h1;obtain ⟨rfl,_⟩:=h2;have:=eqStr.eq (K:=K) (a:=p) (b:=q) A hK I hu r1 r2 rfl rfl
    rwa [show decide (SI.s p=SI.s q)=decide (p=q) from decide_eq_decide.mpr ⟨fun e=>by cases e;rfl,fun e=>by rw [e]⟩]
   | i n =>
    obtain ⟨rfl,_⟩:=h1;have h2:y = .int n:=h2;subst h2;obtain ⟨t,rfl⟩:=r1;obtain ⟨t',rfl⟩:=r2;rw [decide_eq_false (fun e=>by cases e)];exact SeqAt.EqAt.str_int _ _ _ _
  | i m=>cases b with
   | s q =>
    obtain ⟨rfl,_⟩:=h2;have h1:x = .int m:=h1;subst h1;obtain ⟨t,rfl⟩:=r1;obtain ⟨t',rfl⟩:=r2;rw [decide_eq_false (fun e=>by cases e)];exact SeqAt.EqAt.int_str _ _ _ _
   | i n =>
    have:=eqInt.eq (K:=K) (a:=m) (b:=n) A hK I hu r1 r2 h1 h2
    rwa [show decide (SI.i m=SI.i n)=decide (m=n) from decide_eq_decide.mpr ⟨fun e=>by cases e;rfl,fun e=>by rw [e]⟩]
 rc:=fun {X pins σ H s x y u v a b} A hK I hu r1 r2 h1 h2=>by
  cases a with
  | s p=>cases b with
   | s q =>
    obtain ⟨rfl,_⟩:=h1;obtain ⟨rfl,_⟩:=h2;have:=eqStr.rc (K:=K) (a:=p) (b:=q) A hK I hu r1 r2 rfl rfl
    rwa [show decide (SI.s p=SI.s q)=decide (p=q) from decide_eq_decide.mpr ⟨fun e=>by cases e;rfl,fun e=>by rw [e]⟩]
   | i n =>
    obtain ⟨rfl,_⟩:=h1;have h2:y = .int n:=h2;subst h2;obtain ⟨t,rfl⟩:=r1;obtain ⟨t',rfl⟩:=r2;rw [decide_eq_false (fun e=>by cases e)];exact ⟨SeqAt.RcAt.str_int _ _ _ _,SeqAt.RcNeAt.str_int _ _ _ _⟩
  | i m=>cases b with
   | s q =>
    obtain ⟨rfl,_⟩:=h2;have h1:x = .int m:=h1;subst h1;obtain ⟨t,rfl⟩:=r1;obtain ⟨t',rfl⟩:=r2;rw [decide_eq_false (fun e=>by cases e)];exact ⟨SeqAt.RcAt.int_str _ _ _ _,SeqAt.RcNeAt.int_str _ _ _ _⟩
   | i n =>
    have:=eqInt.rc (K:=K) (a:=m) (b:=n) A hK I hu r1 r2 h1 h2
    rwa [show decide (SI.i m=SI.i n)=decide (m=n) from decide_eq_decide.mpr ⟨fun e=>by cases e;rfl,fun e=>by rw [e]⟩]
instance reSI:RpE SI:=⟨0,fun _=>eqSI⟩
def rInE (K:FZ9)(α:Type)[Rp α][DecidableEq α](neg:Bool):R2:=fun x y H Q=>∃ p xs a as,y = .ref p/\SqL K H p xs/\Rp.rel (α:=α) K H x a/\Paired (Rp.rel (α:=α) K H) xs as/\Q (.bl (if neg then !decide (a∈as) else decide (a∈as))) H
open Classical in
def eqW {α:Type}[Rp α](K:FZ9)(H:Hp)(a:α)(u:Value):Bool:=decide (∃ y,RelV y u/\Rp.rel K H y a)
theorem eqW_of {α:Type}[Rp α][DecidableEq α][RpE α]{X:Cx}{pins:List (Addr × Obj)}{σ:St}{H:Hp}{s:Shared}(I:Inv X pins σ H s){a b:α}{y:V}{u:Value}(r:RelV y u)(h:Rp.rel X.K H y b):eqW X.K H a u=decide (b=a):=by
 unfold eqW
 classical
 by_cases e:b=a
 ·subst e;rw [decide_eq_true rfl,decide_eq_true];exact ⟨y,r,h⟩
 ·rw [decide_eq_false e,decide_eq_false];rintro ⟨z,rz,hz⟩;have:=RelV.inj r rz;subst this;exact e ((RpE.ty X.K).fn rfl I h hz)
theorem Jf {α:Type}[Rp α][DecidableEq α][RpE α]{X:Cx}{pins:List (Addr × Obj)}{σ:St}{H:Hp}{s:Shared}(I:Inv X pins σ H s){a:α}:∀ {xs:List V}{us:List Value}{as:List α},Vals xs us->Paired (Rp.rel X.K H) xs as->us.any (eqW X.K H a)=decide (a∈as)
 | _,_,_,.nil,.nil=>by simp
 | y::xs,u::us,b::as,.cons r t,.cons h p=>by
  rw [List.any_cons,eqW_of I r h,Jf I t p];by_cases e:b=a
  ·subst e;simp
  ·rw [decide_eq_false e,Bool.false_or]
   exact decide_eq_decide.mpr ⟨fun m=>qmA _ m,fun m=>by
    rcases qhA.mp m with rfl|m
    ·exact absurd rfl e
    ·exact m⟩
theorem Jn {α:Type}[Rp α][DecidableEq α][RpE α]{X:Cx}{A:Around}{pins:List (Addr × Obj)}{σ:St}{H:Hp}{s:Shared}(I:Inv X pins σ H s)(hA:A.units+RpE.k α<cLine){a:α}{x:V}{v:Value}(rx:RelV x v)(hx:Rp.rel X.K H x a):∀ {xs:List V}{us:List Value}{as:List α},Vals xs us->Paired (Rp.rel X.K H) xs as->∀ u∈us,SeqAt.EqAt A s u v (eqW X.K H a u)
 | _,_,_,.nil,.nil=>fun u hu=>by cases hu
 | y::xs,u::us,b::as,.cons r t,.cons h p=>fun u' hu=>by
  rcases qhA.mp hu with rfl|hu
  ·rw [eqW_of I r h];exact (RpE.ty X.K).eq A rfl I hA r rx h hx
  ·exact Jn I hA rx hx t p u' hu
theorem op_inE {X:Cx}{K:FZ9}{j:Nat}(hK:X.K=K)(α:Type)[Rp α][DecidableEq α][RpE α](hr:Room j X.A)(hk:RpE.k α<=40):OpR X (compareOp .In) (rInE K α false):=by
 subst hK;intro pins s σ H x y v u Q I rx ry h;obtain ⟨p,xs,a,as,rfl,hq,hx,pr,q⟩:=h;cases ry;obtain ⟨its,r,pl,hz⟩:=I.list hq;refine SeqAt.in_listAt (eqW X.K H a) pl.isList (fun w hw=>Jn I (by have:=hr.un;rw [Around.in1_units];omega) rx hx r pr w (by simpa using hw)) ⟨.bl _,H,I,rfl,?_⟩;rw [show its.toArray.any (eqW X.K H a)=its.any (eqW X.K H a) by simp,Jf I r pr];exact q
section
variable {K:FZ9}{σ:St}{G H:Hp}{ta tb te td ti:TE}{α:Type}[Rp α]
theorem ev_inE [DecidableEq α]{ma:Option α}{ml:Option (List α)}(ea:EV K ta σ G ma)(eb:EV K tb σ G ml):EV K (tOp (rInE K α false) ta tb) σ G (ma.bind fun a=>ml.bind fun l=>some (decide (a∈l))) :=
 BE (fun {G' H' x y a b c} s ra rb e Q k=>by
  cases e;obtain ⟨l,xs,rfl,h,z,p⟩:=rb
  exact ⟨l,xs,a,b,rfl,.inl (s.rd h),Rp.mono s ra,Paired.imp' (fun _ _ r=>Rp.mono s r) p,k _ _ _ (.refl s) rfl⟩) ea eb
end
structure Mp (α:Type) where
 l:List (Int × α)
theorem HD:∀ ys:List Str,(ys.map V.str).all GN=true
 | []=>rfl
 | y::ys=>by rw [qsA,List.all_cons,HD ys];rfl
theorem Je {ys:List Str}{its:List Value}(r:Vals (ys.map V.str) its)(y:Str)(j:Nat)(hj:j<its.length)(hy:j<ys.length):eqU (V.str y) its[j]=(ys[j] == y):=by
 obtain ⟨u,hu,ru⟩:=r.get (i:=j) (x:=V.str ys[j]) (by simp [hy]);have:its[j]=u:=by rw [qqA hj] at hu;exact qyA hu
 rw [this,eqU_of ru rfl]
 rfl
section
variable {K:FZ9}{σ:St}{G H:Hp}{ta tb te:TE}{rest:TS}{D:Ends}{i:Nat}{v:V}{p:Addr}{vs:List V}
theorem Ek {G:Hp}:∀ {xs:List V}{ys:List Str},Paired (Rp.rel K G) xs ys->xs=ys.map V.str
 | _,_,.nil=>rfl
 | _,_,.cons h t=>by
  obtain ⟨rfl,_⟩:=h;rw [qsA,Ek t]
end
structure MpS (α:Type) where
 l:List (Str × α)
end L2
namespace HT
open PySem PySem.Spec PyProof.Rows
end HT
namespace L2
open PySem PySem.Spec PyProof.Rows
def JB {α:Type}[DecidableEq α](a:α)(l:List α):Bool:=decide (a∈l)
section
variable {K:FZ9}{σ:St}{G:Hp}{α:Type}[Rp α][DecidableEq α]{ta tb:TE}{ma:Option α}{ml:Option (List α)}
theorem Jy (ea:EV K ta σ G ma)(eb:EV K tb σ G ml):EV K (tOp (rInE K α false) ta tb) σ G (ma.bind fun a=>ml.bind fun l=>some (JB a l)):=ev_inE ea eb
end
theorem se_int {i:Int}{j:Nat}{p:Pos}{es:List Expr}{env:Env}:starEach (.Constant (.int i) j p::es) env=(false,eval (.Constant (.int i) j p) env)::starEach es env:=by
 rw [starEach];intro _ _ h;cases h
section
variable {X:Cx}{es:List Expr}{t:TA}{te:TE}{p:Pos}
theorem pa_cI {i:Int}{j:Nat}(hr:PA X es t):PA X (.Constant (.int i) j p::es) (Ao (tC (.int i)) t):=A2 A8 hr se_int
end
structure Rk where
 l:List SI
section
variable {κ:PyProof.Rows.KeyKind}
def ky (κ:PyProof.Rows.KeyKind)(p:Keyed):κ.α:=(κ.keyOf p.1).getD κ.dflt
variable {prog:Program}{w:World}{A:Around}{E:Value->Shared->Prop}{s:Shared}
end
section
variable {κ:PyProof.Rows.KeyKind}
def kl (κ:PyProof.Rows.KeyKind)(x y:Keyed):Prop:=κ.kle (ky κ x) (ky κ y)
end
def sg (st:SortSt)(g:Nat):SortSt:=SortSt.mk' (kindOf st) (arrOf st) (pendingOf st) g (failedOf st)
end L2
set_option maxHeartbeats 2000000
namespace L2
open PySem PySem.Spec PyProof.Rows
end L2
set_option maxHeartbeats 2000000
namespace L2
open PySem PySem.Spec PyProof.Rows
end L2
set_option maxHeartbeats 2000000
namespace L2
open PySem PySem.Spec PyProof.Rows
end L2
set_option maxHeartbeats 2000000
namespace L2
open PySem PySem.Spec PyProof.Rows
end L2
set_option maxHeartbeats 2000000
namespace L2
open PySem PySem.Spec PyProof.Rows
end L2
set_option maxHeartbeats 2000000
namespace L2
open PySem PySem.Spec PyProof.Rows
end L2
set_option maxHeartbeats 2000000
namespace L2
open PySem PySem.Spec PyProof.Rows
end L2
set_option maxHeartbeats 2000000
namespace L2
open PySem PySem.Spec PyProof.Rows
section
variable {κ:PyProof.Rows.KeyKind}{prog:Program}{w:World}{A:Around}{E:Value->Shared->Prop}{s:Shared}
abbrev mk (X:Array Keyed)(p:Array (Nat × Nat × Nat))(g:Nat):SortSt:=SortSt.mk' oneType' X p g none
end
end L2
set_option maxHeartbeats 2000000
namespace L2
open PySem PySem.Spec PyProof.Rows
end L2
set_option maxHeartbeats 2000000
namespace L2
open PySem PySem.Spec PyProof.Rows
structure MpR (α:Type) where
 l:List (Rk × α)
def cv:Option Addr->V
 | none=>.non
 | some q=>.ref q
class RpC (γ:Type) [Rp γ] where
 P:FZ9->Hp->HO->γ->Prop
 mono:∀ {K:FZ9}{G G':Hp}{ho:HO}{a:γ},Same G G'->P K G ho a->P K G' ho a
 rel:∀ {K:FZ9}{G:Hp}{ho:HO}{a:γ}{q:Addr},P K G ho a->G q=some ho->Rp.rel K G (.ref q) a
instance rcList {α:Type}[Rp α]:RpC (List α) :=
 ⟨fun K G ho as=>∃ vs,ho = .lst vs/\vs.length<=sizeLine/\Paired (Rp.rel K G) vs as,fun s ⟨vs,e,z,p⟩=>⟨vs,e,z,Paired.imp' (fun _ _ r=>Rp.mono s r) p⟩,
  fun ⟨vs,e,z,p⟩ h=>⟨_,vs,rfl,.inl (by rw [h,e]),z,p⟩⟩
def CellR (K:FZ9){γ:Type}[Rp γ][RpC γ](G H:Hp):Option Addr->Option γ->Prop
 | none,none=>True
 | some q,some x=>G q=none/\∃ ho,H q=some ho/\RpC.P K G ho x
 | _,_=>False
structure OwnC (K:FZ9){γ:Type}[Rp γ][RpC γ](H0 G H:Hp)(v:V)(p:Addr)(cs:List (Option Addr))(as:List (Option γ)):Prop where
 v:v = .ref p
 g:G p=none
 h:H p=some (.lst (cs.map cv))
 z:cs.length<=sizeLine
 h0:H0 p=none
 c0:∀ q,some q∈cs->H0 q=none/\q≠p
 nd:∀ (i j:Nat) q,cs[i]? = some (some q)->cs[j]? = some (some q)->i=j
 p:Paired (CellR K G H) cs as
def FA (G H:Hp)(C:List Addr):Hp:=fun b=>if b∈C then H b else G b
def DZ (p:Addr)(cs:List (Option Addr)):List Addr:=p::cs.filterMap id
theorem mem_addrs {p b:Addr}{cs:List (Option Addr)}:b∈DZ p cs ↔ b=p\/some b∈cs:=by
 unfold DZ;rw [qhA,List.mem_filterMap];constructor
 ·rintro (h | ⟨a,h1,h2⟩)
  ·exact .inl h
  ·exact .inr (by rw [<- h2];exact h1)
 ·rintro (h|h)
  ·exact .inl h
  ·exact .inr ⟨some b,h,rfl⟩
section
variable {K:FZ9}{σ:St}{G H G1 H1 G0 H0:Hp}{γ α β:Type}[Rp γ][RpC γ][Rp α][Rp β]{t1 t2 te ti tk:TE}{rest:TS}{D:Ends}{i:Nat}{v:V}{p:Addr}{cs:List (Option Addr)}{as:List (Option γ)}
theorem IR:∀ {cs:List (Option Addr)}{as:List (Option γ)}{j:Nat}{c:Option Addr},Paired (CellR K G H) cs as->cs[j]? = some c->∃ a,as[j]? = some a/\CellR K G H c a
 | _,_,_,_,.nil,e=>by simp at e
 | _,_,0,_,.cons r _,e=>by simp at e;subst e;exact ⟨_,rfl,r⟩
 | _,_,j+1,_,.cons _ t,e=>IR (j:=j) t (by simpa using e)
theorem HA {a:Option γ}:∀ {cs:List (Option Addr)}{as:List (Option γ)}{j:Nat},Paired (CellR K G H) cs as->as[j]? = some a->∃ c,cs[j]? = some c/\CellR K G H c a
 | _,_,_,.nil,e=>by simp at e
 | _,_,0,.cons r _,e=>by simp at e;subst e;exact ⟨_,rfl,r⟩
 | _,_,j+1,.cons _ t,e=>HA (j:=j) t (by simpa using e)
theorem OwnC.cell (o:OwnC K H0 G H v p cs as){q:Addr}(h:some q∈cs):G q=none/\H q≠none:=by
 obtain ⟨j,hj⟩:=List.mem_iff_getElem?.mp h;obtain ⟨a,_,r⟩:=IR o.p hj
 cases a with
 | none=>exact r.elim
 | some a =>
  obtain ⟨g,ho,hh,_⟩:=r;exact ⟨g,by rw [hh];exact fun z=>nomatch z⟩
theorem OwnC.gC (o:OwnC K H0 G H v p cs as){b:Addr}(h:b∈DZ p cs):G b=none:=by
 rcases mem_addrs.mp h with rfl|h
 ·exact o.g
 ·exact (o.cell h).1
theorem OwnC.zC (o:OwnC K H0 G H v p cs as){b:Addr}(h:b∈DZ p cs):H0 b=none:=by
 rcases mem_addrs.mp h with rfl|h
 ·exact o.h0
 ·exact (o.c0 _ h).1
theorem CellR.imp {c:Option Addr}{a:Option γ}(sg:Same G G1)(hg:∀ q,c=some q->G q=none->G1 q=none)(hh:∀ q ho,c=some q->H q=some ho->H1 q=some ho)(r:CellR K G H c a):CellR K G1 H1 c a:=by
 cases c with
 | none=>cases a with
  | none=>trivial
  | some a=>exact r.elim
 | some q=>cases a with
  | none=>exact r.elim
  | some a =>
   obtain ⟨g,ho,e,pp⟩:=r;exact ⟨hg q rfl g,ho,hh q ho rfl e,RpC.mono sg pp⟩
theorem pimp {F F':Option Addr->Option γ->Prop}:∀ {cs:List (Option Addr)}{as:List (Option γ)},(∀ c a,c∈cs->F c a->F' c a)->Paired F cs as->Paired F' cs as
 | _,_,_,.nil=>.nil
 | _,_,h,.cons r t=>.cons (h _ _ (qkA ..) r) (pimp (fun c a hc=>h c a (qmA _ hc)) t)
theorem OwnC.ext (o:OwnC K H0 G H v p cs as)(x:Ext G H G1 H1):OwnC K H0 G1 H1 v p cs as :=
 ⟨o.v,x.no p o.g (by rw [o.h];exact fun z=>nomatch z),x.hh _ _ o.h,o.z,o.h0,o.c0,o.nd,
  pimp (fun c a hc r=>r.imp x.gg (fun q e g=>x.no q g (o.cell (e ▸ hc)).2) (fun q ho _ e=>x.hh _ _ e)) o.p⟩
theorem OwnC.up (o:OwnC K H0 G H v p cs as):Same G (FA G H (DZ p cs)):=fun b u e=>by
 unfold FA;rw [if_neg (fun hb=>by rw [o.gC hb] at e;cases e)];exact e
theorem OwnC.sm (o:OwnC K H0 G H v p cs as)(s:Same G H):Same (FA G H (DZ p cs)) H:=fun b u e=>by
 unfold FA at e;split at e
 ·exact e
 ·exact s _ _ e
theorem OwnC.frz (o:OwnC K H0 G H v p cs as)(x:Ext G0 H0 G H):Ext G0 H0 (FA G H (DZ p cs)) H :=
 ⟨x.gg.trans o.up,o.sm x.gh,x.hh,fun b h1 h2=>by
  unfold FA;rw [if_neg (fun hb=>h2 (o.zC hb))]
  exact x.no b h1 h2⟩
theorem OwnC.pv (o:OwnC K H0 G H v p cs as):Paired (Rp.rel K (FA G H (DZ p cs))) (cs.map cv) as:=by
 have key:∀ (cs':List (Option Addr)) (as':List (Option γ)),(∀ c∈cs',c∈cs)->Paired (CellR K G H) cs' as'->Paired (Rp.rel K (FA G H (DZ p cs))) (cs'.map cv) as':=by
  intro cs' as' hs pr
  induction pr with
  | nil=>exact .nil
  | @cons c a cs2 as2 r t ih =>
   refine .cons ?_ (ih fun c hc=>hs c (qmA _ hc))
   cases c with
   | none=>cases a with
    | none=>exact (rfl:V.non=V.non)
    | some a=>exact r.elim
   | some q=>cases a with
    | none=>exact r.elim
    | some a =>
     obtain ⟨g,ho,e,pp⟩:=r
     have hq:FA G H (DZ p cs) q=some ho:=by
      unfold FA;rw [if_pos (mem_addrs.mpr (.inr (hs _ (qkA ..))))];exact e
     exact (RpC.rel (a:=a) (RpC.mono o.up pp) hq:Rp.rel K _ (V.ref q) a)
 exact key cs as (fun _ h=>h) o.p
theorem OwnC.tell (o:OwnC K H0 G H v p cs as):Rp.rel K (FA G H (DZ p cs)) v as:=by
 refine ⟨p,cs.map cv,o.v,.inl ?_,by rw [qdA];exact o.z,o.pv⟩;unfold FA;rw [if_pos (mem_addrs.mpr (.inl rfl))];exact o.h
theorem Ep {G:Hp}:∀ {xs:List V}{ls:List γ},Paired (Rp.rel K G) xs (ls.map some)->Paired (Rp.rel K G) xs ls
 | [],[],_=>.nil
 | _::_,_::_,.cons r t=>.cons r (Ep t)
theorem OwnC.tellL {ls:List γ}(o:OwnC K H0 G H v p cs (ls.map some)):Rp.rel K (FA G H (DZ p cs)) v ls:=by
 obtain ⟨l,xs,e,h,z,pr⟩:=o.tell;exact ⟨l,xs,e,h,z,Ep pr⟩
theorem OwnC.cellput {j:Nat}{q:Addr}{ho ho':HO}{a:γ}(o:OwnC K H0 G H v p cs as)(hj:cs[j]? = some (some q))(hp:RpC.P K G ho' a):OwnC K H0 G (upd H q ho') v p cs (as.set j (some a)):=by
 have hm:some q∈cs:=qoA hj;have np:=(o.c0 q hm).2;refine ⟨o.v,o.g,by rw [AK (Ne.symm np)];exact o.h,o.z,o.h0,o.c0,o.nd,?_⟩
 have key:∀ (cs':List (Option Addr)) (as':List (Option γ)) (n:Nat),(∀ i,cs'[i]? = cs[n+i]?)->Paired (CellR K G H) cs' as'->∀ m,m+n=j\/(j<n/\cs'.length<=m)->Paired (CellR K G (upd H q ho')) cs' (as'.set m (some a)):=by
  intro cs' as' n hs pr
  induction pr generalizing n with
  | nil=>intro m _;exact .nil
  | @cons c x cs2 as2 r t ih =>
   intro m hm';have hc:cs[n]? = some c:=by have:=hs 0;simpa using this.symm
   have hs2:∀ i,cs2[i]? = cs[n+1+i]?:=fun i=>by
    have:=hs (i+1);rw [List.getElem?_cons_succ] at this;rw [this]
    congr 1
    omega
   have other:n≠j->CellR K G (upd H q ho') c x:=fun hne=>by
    refine r.imp (.refl _) (fun _ _ g=>g) fun b u e hb=>?_;rw [AK (fun z=>hne (o.nd n j q (by rw [hc,e,z]) hj))];exact hb
   cases m with
   | zero =>
    rcases hm' with hm' | ⟨_,hl⟩
    ·have hn:n=j:=by omega
     subst hn;rw [hj] at hc;cases hc;rw [List.set_cons_zero];refine .cons ?_ ?_
     ·cases x with
      | none=>exact r.elim
      | some x=>exact ⟨r.1,ho',AM,hp⟩
     ·have hl:(as2.set as2.length (some a))=as2:=List.set_eq_of_length_le (qvA _);have:=ih (n+1) hs2 as2.length (.inr ⟨by omega,by rw [Paired.length t];exact qvA _⟩);rw [hl] at this;exact this
    ·rw [qfA] at hl;omega
   | succ m =>
    rw [List.set_cons_succ];rcases hm' with hm' | ⟨h1,hl⟩
    ·exact .cons (other (by omega)) (ih (n+1) hs2 m (.inl (by omega)))
    ·rw [qfA] at hl;exact .cons (other (by omega)) (ih (n+1) hs2 m (.inr ⟨by omega,by omega⟩))
 exact key cs as 0 (fun i=>by rw [Nat.zero_add]) o.p j (.inl (by omega))
theorem Ext.putC (x:Ext G0 H0 G H)(o:OwnC K H0 G H v p cs as){q:Addr}{ho:HO}(hq:some q∈cs):Ext G0 H0 G (upd H q ho):=x.put (o.c0 q hq).1 (o.cell hq).1
end
section
variable {K:FZ9}{σ:St}{G H G1 H1 G0 H0:Hp}{γ α β:Type}[Rp γ][RpC γ][Rp α][Rp β]{t1 t2 te ti tk:TE}{rest:TS}{D:Ends}{i:Nat}{v:V}{p:Addr}{cs:List (Option Addr)}
def IQ {α:Type}(as:List (List α))(k:Int)(a:α):Option (List (List α)):=(ixN as.length k).bind fun j=>as[j]?.bind fun l=>(Cs l a).bind fun l'=>some (as.set j l')
theorem atI_cell {ls:List γ}{j:Nat}{k:Int}{l:γ}(o:OwnC K H0 G H v p cs (ls.map some))(hj:ixN ls.length k=some j)(hl:ls[j]? = some l):∃ q ho,cs[j]? = some (some q)/\atI (cs.map cv) k=some (.ref q)/\G q=none/\H q=some ho/\RpC.P K G ho l:=by
 have hlen:=Paired.length o.p;rw [qdA] at hlen;obtain ⟨c,hc,r⟩:=HA o.p (show (ls.map some)[j]? = some (some l) by rw [qrA,hl];rfl)
 cases c with
 | none=>exact r.elim
 | some q =>
  obtain ⟨g,ho,e,pp⟩:=r;refine ⟨q,ho,hc,?_,g,e,pp⟩;unfold atI;rw [qdA,hlen,hj];show (cs.map cv)[j]? = _;rw [qrA,hc]
  rfl
theorem sv_appAt {ls ls':List (List α)}{m1:Option Int}{k1:Int}{m2:Option α}{a:α}(hσ:σ[i]? = some (some v))(o:OwnC K H0 G H v p cs (ls.map some))(e1:EV K t1 σ G m1)(h1:m1=some k1)(e2:EV K t2 σ G m2)(h2:m2=some a)(hs:IQ ls k1 a=some ls')(xt:Ext G0 H0 G H)
  (k:∀ G2 H2 H3,Ext G H G2 H2->Ext G0 H0 G2 H3->OwnC K H0 G2 H3 v p cs (ls'.map some)->rest D σ H3):DA (GS (tBM K "list" Dw (tOp (rAt K) (GG i) t1) (Ao t2 Bd))) rest D σ H:=by
 obtain ⟨j,hj,hs⟩:=qaA.mp hs;obtain ⟨l,hl,hs⟩:=qaA.mp hs;obtain ⟨l',hl',hs⟩:=qaA.mp hs;cases hs;obtain ⟨hz,rfl⟩:=Av hl';have ov:=o.v;subst ov;refine ⟨_,hσ,?_⟩;refine e1.run h1 xt.gh fun v1 G1 H1 x1 r1=>?_;cases r1;have o1:=o.ext x1;obtain ⟨q,ho,hc,hat,gq,hq,vs,rfl,z,pr⟩:=atI_cell o1 hj hl;refine .inl ⟨cs.map cv,.ref q,SqL.of o1.h,hat,?_⟩;refine ⟨.inl ⟨rfl,vs,SqL.of hq⟩,?_⟩;refine e2 G1 x1.gg a h2 H1 x1.gh _ fun w G2 H2 x2 r2=>?_;have o2:=o1.ext x2;have hlen:=Paired.length pr;refine ⟨q,vs,w,rfl,rfl,x2.hh _ _ hq,by omega,?_⟩;have hm:=qoA hc;have o3:=o2.cellput (ho:=.lst vs) (ho':=.lst (vs++[w])) (a:=l++[a]) hc ⟨vs++[w],rfl,by rw [qeA,qgA];omega,Paired.app (Paired.imp' (fun _ _ r=>Rp.mono x2.gg r) pr) (.cons r2 .nil)⟩;refine k G2 H2 _ (x1.trans x2) ((xt.trans (x1.trans x2)).putC o2 hm) ?_;rw [List.map_set];exact o3
end
section
variable {K:FZ9}{σ:St}{G H:Hp}{α:Type}[Rp α]{te ti ta:TE}{rest:TS}{D:Ends}{i:Nat}{v:V}{p:Addr}{vs:List V}{as:List α}{w:World}
instance tdOpt {α:Type}[Rp α][ToD α]:ToD (Option α):=⟨fun a=>match a with|none=>.non|some a=>ToD.to a,fun {K H v a} h=>by
 cases a with
 | none=>cases h;exact .non
 | some a=>exact ToD.rel (α:=α) h⟩
end
structure MpRF (α:Type) where
 l:List (Rk × α)
structure DIn (K:FZ9)(mg:Str->Option Value)(x:Str)(st:Stmt):Prop where
 ex:∃ f fd,mg x=some (.ref f)/\Fun K x x st f fd
def BnO (x:Str)(st:Stmt)(ps:List Str):Prop:=∀ (kV doc pm:Value) (an:Option Addr) (cdv ct:Value) (us:List Value),us.length=ps.length->bindArgs (qnB x x (Co st) (BU st) (AA st) .none kV doc pm an cdv ct) ⟨us,[]⟩=pure (ps.zip us)
abbrev Nn (K:FZ9)(x:Str):Prop:=qjB K mainGlobals x=some none
theorem scm {N ps:List Str}{sc:Scope}(a:sc.kind = .function:=by rfl)(b:sc.isCoroutine=false:=by rfl)(c:sc.isGenerator=false:=by rfl)(d:N.Nodup:=by decide +kernel)(e:N.take ps.length=ps:=by rfl)(f:∀ x∈ps,sc.names.lookup x=some .local \/ sc.names.lookup x=some .cell:=by decide +kernel)(g:∀ y∈sc.names,y.2 ≠ .free:=by decide +kernel):FnScope N ps sc:=⟨a,b,c,d,e,f,g⟩
theorem din {K:FZ9}{h:Heap}{mg:Str->Option Value}{x:Str}{st:Stmt}{f:Addr}{oc:Value}{od an:Option Addr}{osl:Array (Option Value)}{kV doc pm cdv ct:Value}(X:K.In h)(G:h.Ns mainGlobals mg)(a:qjB K mainGlobals x=some (some (.ref f)))
  (l:K.lookup f=some ⟨oc,od,.func (qnB x x (Co st) (BU st) (AA st) .none kV doc pm an cdv ct),osl⟩) (c:PySem.W.codeIn K cdv x=true) (k:qmB K (.ref f)=true):DIn K mg x st:=⟨f,_,qkB X G a,fun_mk l c k⟩
section
variable {P:Program}{w:World}{K:FZ9}{mg:Str->Option Value}{base:Heap}{x:Str}{st:Stmt}{N ps:List Str}{k:Nat}{sp:Sp}{ρ:Type}[Rp ρ]
theorem DIn.ok (Z:DIn K mg x st)(S:FnScope N ps (AA st))(b:BnO x st ps)(len:∀ vs H Q E,sp vs H Q E->vs.length=ps.length)
  (hbody:∀ (f:Addr) (cdv:Value) (A:Around) (outer:List Env) (s:Shared) (H:Hp) (vs:List V) (Q:VK) (E:XK),Room k (A.deeper (envOfC x (AA st) s.heap.objs.size f cdv))->sp vs H Q E ->
   ∃ t,PSs (F1 CX0 P w K mg base N x (AA st) f cdv A outer s H E).nox (BU st) t/\t { nx:=fun _ H'=>Q .non H',rt:=Q } (start N vs) H):DefOk P w K mg base x (k+1) ps sp:=by
 obtain ⟨f,fd,a,F⟩:=Z.ex;exact def_of F a (F.binds b) (F.ok S len fun cdv A outer s H vs Q E hr h=>hbody f cdv A outer s H vs Q E hr h)
theorem bn1 {p0:Str}(h:∀ (kV doc pm:Value) (an:Option Addr) (cdv ct:Value) (a0:Value),bindArgs (qnB x x (Co st) (BU st) (AA st) .none kV doc pm an cdv ct) ⟨[a0],[]⟩=pure (List.zip [p0] [a0]):=by intros;rfl):BnO x st [p0]:=fun kV doc pm an cdv ct us hl=>match us,hl with | [a0],_=>h kV doc pm an cdv ct a0
theorem DIn.okM1 {α0:Type}[Rp α0]{p0:Str}{m:α0->Option ρ}(Z:DIn K mg x st)(S:FnScope N [p0] (AA st))
  (hbody:∀ (f:Addr) (cdv:Value) (A:Around) (outer:List Env) (s:Shared) (H:Hp) (Q:VK) (E:XK),Room k (A.deeper (envOfC x (AA st) s.heap.objs.size f cdv))->∀ G a0 res v0,Ext G H G H->Rp.rel K G v0 a0->m a0=some res->(∀ v G2 H2,Ext G H G2 H2->Rp.rel K G2 v res->Q v H2) ->
   ∃ t,PSs (F1 CX0 P w K mg base N x (AA st) f cdv A outer s H E).nox (BU st) t/\t { nx:=fun _ H'=>Q .non H',rt:=Q } (start N [v0]) H)
  (b:BnO x st [p0]:=by exact bn1):DefOk P w K mg base x (k+1) [p0] (spM K fun x:α0 × Unit=>m x.1) :=
 Z.ok S b (fun vs H Q E h=>(HJ h).trans rfl) fun f cdv A outer s H vs Q E hr h=>by
  obtain ⟨G,⟨a0,⟨⟩⟩,res,sg,⟨v0,_,rfl,r0,rfl⟩,hm,q⟩:=h;exact hbody f cdv A outer s H Q E hr G a0 res v0 (Ext.refl sg) r0 hm q
theorem bn2 {p0 p1:Str}(h:∀ (kV doc pm:Value) (an:Option Addr) (cdv ct:Value) (a0 a1:Value),bindArgs (qnB x x (Co st) (BU st) (AA st) .none kV doc pm an cdv ct) ⟨[a0,a1],[]⟩=pure (List.zip [p0,p1] [a0,a1]):=by intros;rfl):BnO x st [p0,p1]:=fun kV doc pm an cdv ct us hl=>match us,hl with | [a0,a1],_=>h kV doc pm an cdv ct a0 a1
theorem DIn.okM2 {α0 α1:Type}[Rp α0][Rp α1]{p0 p1:Str}{m:α0->α1->Option ρ}(Z:DIn K mg x st)(S:FnScope N [p0,p1] (AA st))
  (hbody:∀ (f:Addr) (cdv:Value) (A:Around) (outer:List Env) (s:Shared) (H:Hp) (Q:VK) (E:XK),Room k (A.deeper (envOfC x (AA st) s.heap.objs.size f cdv))->∀ G a0 a1 res v0 v1,Ext G H G H->Rp.rel K G v0 a0->Rp.rel K G v1 a1->m a0 a1=some res->(∀ v G2 H2,Ext G H G2 H2->Rp.rel K G2 v res->Q v H2) ->
   ∃ t,PSs (F1 CX0 P w K mg base N x (AA st) f cdv A outer s H E).nox (BU st) t/\t { nx:=fun _ H'=>Q .non H',rt:=Q } (start N [v0,v1]) H)
  (b:BnO x st [p0,p1]:=by exact bn2):DefOk P w K mg base x (k+1) [p0,p1] (spM K fun x:α0 × α1 × Unit=>m x.1 x.2.1) :=
 Z.ok S b (fun vs H Q E h=>(HJ h).trans rfl) fun f cdv A outer s H vs Q E hr h=>by
  obtain ⟨G,⟨a0,a1,⟨⟩⟩,res,sg,⟨v0,_,rfl,r0,⟨v1,_,rfl,r1,rfl⟩⟩,hm,q⟩:=h;exact hbody f cdv A outer s H Q E hr G a0 a1 res v0 v1 (Ext.refl sg) r0 r1 hm q
end
section
variable {X:Cx}{K:FZ9}{N ps:List Str}{sc:Scope}{i:Nat}{x:Str}{e a b:Expr}{te ta tb:TE}{pos pos':Pos}{σ:St}{G:Hp}{α:Type}[Rp α]{v:V}{c:α}
theorem Aa (S:FnScope N ps sc)(he:PE X e te)(hN:X.N=N:=by rfl)(hi:X.N[i]? = some x:=by rfl)(hx:Loc X.env.scope x:=by first|exact Or.inl rfl|exact Or.inr rfl)(hs:swapsWith e (some (.Name x pos')) pos.line X.env=pure false:=by rfl)(hf:X.fn x=true\/X.env.scope.names.lookup x=some .local := by first|exact .inl rfl|exact .inr rfl|assumption) :
  PS X (.Assign [.Name x pos'] e pos) (Hd te (Cp i)):=HP (hN ▸ S.nd) hi hx he hs hf
theorem DD (S:FnScope N ps sc)(hN:X.N=N:=by rfl)(hi:X.N[i]? = some x:=by rfl)(hx:Loc X.env.scope x:=by first|exact Or.inl rfl|exact Or.inr rfl)(hf:X.fn x=true\/X.env.scope.names.lookup x=some .local := by first|exact .inl rfl|exact .inr rfl|assumption):PG X (.Name x pos) (Cp i):=pg_name (hN ▸ S.nd) hi hx hf
theorem AV (K:FZ9)(ha:PE X a ta)(hb:PE X b tb)(hs:JS b:=by exact fun _ _=>rfl)(h:X.K=K:=by rfl):PE X (.Subscript a b pos) (tOp (rAt K) ta tb):=pe_ix (ix_anyK h) ha hb hs
theorem AH (K:FZ9)(ha:PE X a ta)(hb:PE X b tb)(h:X.K=K:=by rfl):PE X (.BinOp a .Add b pos) (tOp (Gm K) ta tb):=Af (op_plusK h) ha hb
theorem BM (K:FZ9)(hm:X.mg "len" = none)(ha:PE X e te)(hg:Gl X "len" := by rfl)(h:X.K=K:=by rfl)(he:starEach [e] X.env=(false,eval e X.env)::starEach [] X.env:=by rfl):PE X (.Call (.Name "len" pos') [e] [] pos) (tCB (Hy K) (Ao te Bd)):=AT (KJ h) hg hm bt_len (A2 ha A5 he) (by decide) (by decide) he rfl
theorem Am (K:FZ9)(ha:PE X a ta)(he:∀ whole,isTrue a X.env whole=(do let v <- whole;standAt a.pos;holding [v] (truthy v)):=by exact fun _=>rfl)(h:X.K=K:=by rfl):PT X a (fun σ H Q=>ta σ H fun x H'=>∃ k,TruV K x H' k/\Q k H'):=KS h ha he
theorem DT (K:FZ9)(ha:PE X a ta)(hb:PE X e te)(h:X.K=K:=by rfl)(hbase:attributeBase a "append" X.env (eval a X.env)=eval a X.env:=by rfl)
  (hfew:((backTo pos (starEach [e] X.env)).all (fun x=>!x.1) && (backToKw pos (keywordEach [] X.env)).all (fun x=>x.1.isSome) && decide ([e].length+([]:List Keyword).length+(if ([]:List Keyword).isEmpty then 0 else 1)<30))=true:=by rfl)
  (hline:(pos'.endLine == pos.line)=true:=by rfl) (hs:starEach [e] X.env=(false,eval e X.env)::starEach [] X.env:=by rfl) (hplain:(backTo pos (starEach [] X.env)).any (·.1)=false:=by rfl) :
  PE X (.Call (.Attribute a "append" pos') [e] [] pos) (tBM K "list" Dw ta (Ao te Bd)):=EF h PySem.F.plainAttrs_list PySem.F.slot_list_append PySem.F.type_list_append F7 ha (A2 hb A5 hs) hbase hfew hline hs hplain
theorem Eb (S:FnScope N ps sc):N.Nodup:=S.nd
theorem A7 (r:Rp.rel K G v c)(h:σ[i]? = some (some v):=by rfl):EV K (GG i) σ G (some c):=ev_var h r
end
def K3:D->Option SI
 | .str x=>some (.s x)
 | .int i=>some (.i i)
 | _=>none
section
variable {K:FZ9}{σ:St}{G H:Hp}{α β γ δ:Type}[Rp α][Rp β][Rp γ][Rp δ]{ta te:TE}
theorem FY {md:Option D}(e:EV K te σ G md):EV K te σ G (md.bind fun d=>K3 d):=by
 clear 7;obtain ⟨d,hd,hc⟩:=qaA.mp hc;refine e G1 s1 d hd H sH Q fun v G2 H2 x r=>k v G2 H2 x ?_
 cases d with
 | int i =>
  have e:=qyA (show some (SI.i i)=some c from hc);subst e;cases (show RelD K G2 v (.int i) from r);exact rfl
 | str y =>
  have e:=qyA (show some (SI.s y)=some c from hc);subst e
  cases (show RelD K G2 v (.str y) from r) with
  | str _ z=>exact ⟨rfl,z⟩
 | _=>exact nomatch hc
end
def n4 {α β γ δ:Type}(a:T4 (List α) (List β) (List γ) (List δ))(x y z u:V):List (V × Nat):=[(x,a.a.length),(y,a.b.length),(z,a.c.length),(u,a.d.length)]
open Builtin Builtin.Str
section
variable {prog:Program}{w:World}{A:Around}{E:Value->Shared->Prop}{s:Shared}{x y:Str}{t u:Tok}{Q:Value->Shared->Prop}
theorem K8 (hy:(y.length == 0)=false)
  (hq:∀ (l:List (Str × Tok)) (tk:Nat),l.map (·.1)=Txt.split x y->Q (.ref s.heap.objs.size) { s with toks:=tk,heap:=s.heap.push { cls:=.type "list",data:=.seq (strValues l).toArray } })
  (hsz:x.length<=sizeLine) (hsz2:(partsBetween x (occurrences x y 0 x.length (x.length+1)) y.length).length<=sizeLine) :
  wpAny (model prog w) A (call (.builtin "str.split") [.str x t,.str y u]) Q E s:=by
 cases h1:(decide (x.length<y.length) || decide (strKind x<strKind y))
 ·cases hf:(occurrences x y 0 x.length (x.length+1)).isEmpty
  ·refine call_meets PySem.F.slot_str_split (typeIs_str _ _ _) PySem.F.entry_str_split (PySem.F.args_str_split_2 _ _) (meets_str_split_sep x y t u h1 hy hf hsz hsz2) ?_;show wants Q E _ { s with toks:=_,heap:=s.heap.push { cls:=.type "list",data:=.seq (strsFrom s.toks (partsBetween x (occurrences x y 0 x.length (x.length+1)) y.length)).toArray } };rw [strsFrom_eq];exact hq (numbered s.toks _) _ ((numbered_texts _ _).trans ((if_neg (ne_true_of_eq_false h1)).trans (if_neg (ne_true_of_eq_false hf))).symm)
  ·exact call_meets PySem.F.slot_str_split (typeIs_str _ _ _) PySem.F.entry_str_split (PySem.F.args_str_split_2 _ _) (meets_str_split_not_found x y t u h1 hy hf)
    (hq [(x,t)] s.toks ((if_neg (ne_true_of_eq_false h1)).trans (if_pos hf)).symm)
 ·exact call_meets PySem.F.slot_str_split (typeIs_str _ _ _) PySem.F.entry_str_split (PySem.F.args_str_split_2 _ _) (meets_str_split_cannot_occur x y t u h1)
   (hq [(x,t)] s.toks (if_pos h1).symm)
end
def Ev (x y:Str):Option (List Str) :=
 if y.length≠0/\x.length<=sizeLine/\(partsBetween x (occurrences x y 0 x.length (x.length+1)) y.length).length<=sizeLine/\(Txt.split x y).length<=sizeLine/\((Txt.split x y).all fun z=>decide (z.length<=sizeLine))=true then some (Txt.split x y) else none
def rSplit:V->List V->Hp->VK->Prop:=fun v vs H Q=>∃ x y zs,v = .str x/\vs=[.str y]/\Ev x y=some zs/\∀ p,H p=none->Q (.ref p) (upd H p (.lst (zs.map V.str)))
theorem Gu:∀ {l:List (Str × Tok)},Vals ((l.map (·.1)).map V.str) (strValues l)
 | []=>.nil
 | p::l=>.cons ⟨p.2,rfl⟩ Gu
theorem IL {X:Cx}:MtR X "str.split" rSplit:=by
 intro pins s σ H v vs v' us Q I rx rv h;obtain ⟨x,y,zs,rfl,rfl,hz,q⟩:=h;obtain ⟨t,rfl⟩:=rx;obtain ⟨u,rfl,ru⟩:=EY rv;obtain ⟨t2,rfl⟩:=ru;obtain ⟨⟨h1,h2,h3,h4,h5⟩,rfl⟩:=Av hz;refine K8 (by simpa using h1) (fun l tk e=>?_) h2 h3;refine ⟨.ref s.heap.objs.size,_,I.laid (a:=s.heap.objs.size) (t':=tk) (o:=.lst ((Txt.split x y).map V.str)) (fun b ob q=>qaB _ q) (qvA _) ?_,rfl,q _ (I.hok.fresh (qvA _))⟩;refine ⟨by rw [qdA];exact h4,strValues l,0,?_,qbB _ rfl⟩;rw [<- e];exact Gu
section
variable {K:FZ9}{σ:St}{G:Hp}{ta tb:TE}
theorem IE {ma mb:Option Str}(ea:EV K ta σ G ma)(eb:EV K tb σ G mb):FV K (tBM K "str" rSplit ta (Ao tb Bd)) σ G (ma.bind fun a=>mb.bind fun b=>Ev a b):=by
 clear 7;obtain ⟨a,ha,hc⟩:=qaA.mp hc;obtain ⟨b,hb,hc⟩:=qaA.mp hc;obtain ⟨⟨h1,h2,h3,h4,h5⟩,e⟩:=Av (show Ev a b=some c from hc);clear 8 ea a ha;obtain ⟨rfl,z2⟩:=r2;refine ⟨rfl,eb G2 (s1.trans x2.gg) b hb H2 x2.gh _ fun u G3 H3 x3 r3=>?_⟩;obtain ⟨rfl,z3⟩:=r3;refine ⟨a,b,c,rfl,rfl,hc,?_⟩;refine Gg (x2.trans x3).gh ?_ ?_ (FV.mono (x2.trans x3) k)
 ·rw [qdA,<- e];exact h4
 ·have:∀ l:List Str,(∀ z∈l,z.length<=sizeLine)->Paired (Rp.rel K G3) (l.map V.str) l:=by
   intro l
   induction l with
   | nil=>intro _;exact .nil
   | cons z l ih=>intro h;exact .cons ⟨rfl,h z qkA⟩ (ih fun w hw=>h w (qmA _ hw))
  refine this c fun z hz=>?_;rw [<- e] at hz;exact of_decide_eq_true (List.all_eq_true.mp h5 z hz)
end
end L2
namespace PySem
open Sem (wp)
end PySem
namespace L2
open PySem PySem.Spec PyProof.Rows
def Iw (h:Heap)(b:Addr):Prop:=∃ o vs,h.get? b=some o/\o.data = .fields vs
def Xo (h:Heap)(ea:Addr)(cls tb:Value):Prop:=∃ oe vs,h.get? ea=some oe/\oe.cls=cls/\oe.data = .fields vs/\vs[1]? = some tb/\oe.dict=none
def To (h:Heap)(T:Addr):Prop:=∃ oT ts,h.get? T=some oT/\oT.data = .fields ts/\3<ts.size
def ExB (Fre:Addr->Prop)(h:Heap)(ea:Addr)(cls:Value):Prop:=Fre ea/\∃ T,Fre T/\T≠ea/\Xo h ea cls (.ref T)/\To h T
def ExA (Fre:Addr->Prop)(h:Heap)(ea:Addr)(cls:Value):Prop:=(Fre ea/\Xo h ea cls .none)\/ExB Fre h ea cls
def Chg (fr c:List Addr)(h h':Heap):Prop:=(∀ b o,b ∉ c->b ∉ fr->h.get? b=some o->h'.get? b=some o)/\(∀ b o,b ∉ c->h.get? b=some o->∃ sl,h'.get? b=some { o with slots:=sl })
theorem dict_map (f:Array Value->Array Value)(o:Obj):(o.mapFields f).dict=o.dict:=by
 obtain ⟨c,d,dt,sl⟩:=o;cases dt<;>rfl
section
variable {M:Model}{A:Around}{E:Value->Shared->Prop}{s:Shared}{base:Heap}{env env':Env}{outer:List Env}{L e:Addr}{Q:Unit->Shared->Prop}{Fre:Addr->Prop}{cls:Value}
theorem Gi {oe:Obj}{vs:Array Value}{head:Value}{hadNext:Bool}(hfr:A.frames=some (env::outer))(hl:s.heap.FunFrames base (env::outer))(hf:env.frame=some L)
  (he:s.heap.get? e=some oe) (hd:oe.data = .fields vs) (hsz:1<vs.size) (hdi:oe.dict=none)
  (h:∀ h' T,s.heap.objs.size<=T->T≠e->Xo h' e oe.cls (.ref T)->To h' T->Chg (frs (env::outer)) [e] s.heap h'->Q () { s with heap:=h' }) :
  wpAny M A (do let a <- PySem.frameOf env;let pl <- entryPlaceOf L hadNext;let b <- EntryCells.newEntry head a .none (rawInt L) .none pl;setField (.ref e) 1 b) Q E s:=by
 have hene:e ∉ (env::outer).filterMap (·.frame):=fun hm=>by
  obtain ⟨_,o,ho,hnf⟩:=hl.mem hm;rw [he] at ho;injection ho with ho;subst ho;exact hnf vs hd
 refine qbA (wpAny_frameOf_fun hfr hl hf fun h₁ hs₁=>?_);refine qbA (wpAny_entryPlaceOf fun pl hpl=>?_);unfold EntryCells.newEntry newFields;refine qbA (wpAny_newObj_type ?_ (hpl.sizeOk5 _ _ _ _ _));have he₁:h₁.get? e=some oe:=(hs₁.2.1 e hene).trans he;have he₂:=qaB (h:=h₁) { cls:=.type "traceback",dict:=none,data:=.fields ([head,.ref L,.none,rawInt L,.none]++(if pl.isEmpty then List.replicate 6 Value.none else pl)).toArray } he₁;refine wpAny_setField he₂ hd hsz ?_;have hTe:h₁.objs.size≠e:=Nat.ne_of_gt (qzA he₁);have hd₃:=Obj.data_mapFields hd (·.setIfInBounds 1 (Value.ref h₁.objs.size));have he₃:=Heap.get?_update_self (Obj.mapFields (·.setIfInBounds 1 (Value.ref h₁.objs.size))) he₂ (Obj.isFreed_of_fields hd₃)
 have hT₃:=(Heap.get?_update_other (h₁.push { cls:=.type "traceback",dict:=none,data:=.fields ([head,.ref L,.none,rawInt L,.none]++(if pl.isEmpty then List.replicate 6 Value.none else pl)).toArray })
  (Obj.mapFields (·.setIfInBounds 1 (Value.ref h₁.objs.size))) (Ne.symm hTe)).trans (qbB h₁ rfl)
 refine h _ h₁.objs.size (by rw [hs₁.1];exact qvA _) hTe ⟨_,_,he₃,Obj.cls_mapFields _ _,hd₃,by simp [hsz],(dict_map _ _).trans hdi⟩ ⟨_,_,hT₃,rfl,by simp only [qiB,qeA,qfA,List.length_nil]<;>omega⟩ ⟨fun b o hb hf e=>?_,fun b o hb e=>?_⟩
 ·rw [Heap.get?_update_other _ _ (fun z=>hb (by simp [z]))];exact qaB _ ((hs₁.2.1 b hf).trans e)
 ·obtain ⟨sl,q⟩:=hs₁.2.2 b o e;refine ⟨sl,?_⟩;rw [Heap.get?_update_other _ _ (fun z=>hb (by simp [z]))];exact qaB _ q
theorem Fu (hfr:A.frames=some (env::outer))(hl:s.heap.FunFrames base (env::outer))(hf:env.frame=some L)(hf':env'.frame=some L)(hx:ExA Fre s.heap e cls)(hn:∀ b,s.heap.objs.size<=b->Fre b)
  (h:∀ h' c,(∀ b∈c,Fre b/\Iw s.heap b)->Chg (frs (env::outer)) c s.heap h'->s.heap.objs.size<=h'.objs.size->ExB Fre h' e cls->Q () { s with heap:=h' }) :
  wpAny M A (noteFrame (.ref e) env') Q E s:=by
 have ef:PySem.frameOf env'=PySem.frameOf env:=by unfold PySem.frameOf;rw [hf,hf']
 unfold noteFrame;simp only [hf',ef];rcases hx with ⟨fe,oe,vs,he,rfl,hd,h1,hdi⟩ | ⟨fe,T,fT,hTe,⟨oe,vs,he,rfl,hd,h1,hdi⟩,oT,ts,hT,hdT,h3⟩
 ·refine qbA (wpAny_field he hd h1 ?_);rw [if_neg (by decide)];refine Gi hfr hl hf he hd (Array.getElem?_eq_some_iff.mp h1).1 hdi fun h' T hT hTe hX hTo hc=>?_;refine h h' [e] (fun b hb=>?_) hc ?_ ⟨fe,T,hn T hT,hTe,hX,hTo⟩
  ·rw [qjA.mp hb];exact ⟨fe,oe,vs,he,hd⟩
  ·obtain ⟨oT,_,q,_⟩:=hTo;exact Nat.le_of_lt (Nat.lt_of_le_of_lt hT (qzA q))
 ·refine qbA (wpAny_field he hd h1 ?_);rw [if_pos (show (Value.ref T != Value.none)=true from by simp)];obtain ⟨fl,hfl⟩:∃ fl,ts[3]? = some fl:=⟨_,Array.getElem?_eq_getElem h3⟩;refine qbA (wpAny_field hT hdT hfl ?_)
  cases hq:(fl == rawInt L) with
  | true =>
   rw [if_pos rfl];exact qcA (h s.heap [] (fun b hb=>nomatch hb) ⟨fun _ _ _ _ q=>q,fun _ o _ q=>⟨o.slots,q⟩⟩ (qvA _) ⟨fe,T,fT,hTe,⟨oe,vs,he,rfl,hd,h1,hdi⟩,oT,ts,hT,hdT,h3⟩)
  | false =>
   rw [if_neg qhB];refine qbA (wpAny_setField hT hdT h3 ?_);have other:∀ b,b≠T->(s.heap.update T (Obj.mapFields (·.setIfInBounds 3 Value.none))).get? b=s.heap.get? b:=fun b hb=>Heap.get?_update_other _ _ (Ne.symm hb)
   have noRecord:∀ b o,s.heap.get? b=some o->(∀ vs,o.data ≠ .fields vs)->b≠T:=fun b o hb hnf q=>by
    rw [q,hT] at hb;injection hb with hb;subst hb;exact hnf ts hdT
   have hsz:(s.heap.update T (Obj.mapFields (·.setIfInBounds 3 Value.none))).objs.size=s.heap.objs.size:=by simp [Heap.update]
   refine Gi (s:={ s with heap:=s.heap.update T (Obj.mapFields (·.setIfInBounds 3 Value.none)) }) hfr (hl.of_keeps fun b o hb hnf=>⟨o,(other b (noRecord b o hb hnf)).trans hb,rfl⟩) hf ((other e (Ne.symm hTe)).trans he) hd (Array.getElem?_eq_some_iff.mp h1).1 hdi fun h' T' hT' hTe' hX hTo hc=>?_;have hT'':s.heap.objs.size<=T':=by rw [<- hsz];exact hT'
   refine h h' [T,e] (fun b hb=>?_) ⟨fun b o hb hf q=>hc.1 b o (fun z=>hb (by simp [qjA.mp z])) hf ((other b (fun z=>hb (by simp [z]))).trans q),fun b o hb q=>hc.2 b o (fun z=>hb (by simp [qjA.mp z])) ((other b (fun z=>hb (by simp [z]))).trans q)⟩ ?_ ⟨fe,T',hn T' hT'',hTe',hX,hTo⟩
   ·rcases qhA.mp hb with rfl|hb
    ·exact ⟨fT,oT,ts,hT,hdT⟩
    ·rw [qjA.mp hb];exact ⟨fe,oe,vs,he,hd⟩
   ·obtain ⟨oT,_,q,_⟩:=hTo;exact Nat.le_of_lt (Nat.lt_of_le_of_lt hT'' (qzA q))
theorem DE {fr:List Addr}{f:Option Addr}(hx:ExB Fre s.heap e cls)
  (h:∀ h' c,(∀ b∈c,Fre b/\Iw s.heap b)->Chg fr c s.heap h'->s.heap.objs.size<=h'.objs.size->ExB Fre h' e cls->Q () { s with heap:=h' }):wpAny M A (setFlight (.ref e) f) Q E s:=by
 obtain ⟨fe,T,fT,hTe,⟨oe,vs,he,rfl,hd,h1,hdi⟩,oT,ts,hT,hdT,h3⟩:=hx;have other:∀ g:Array Value->Array Value,∀ b,b≠T->(s.heap.update T (Obj.mapFields g)).get? b=s.heap.get? b:=fun g b hb=>Heap.get?_update_other _ _ (Ne.symm hb);unfold setFlight;refine qbA (wpAny_field he hd h1 ?_);rw [if_pos (show (Value.ref T != Value.none)=true from by simp)];refine wpAny_setField hT hdT h3 ?_;refine h _ [T] (fun b hb=>by rw [qjA.mp hb];exact ⟨fT,oT,ts,hT,hdT⟩) ⟨fun b o hb _ q=>(other _ b (fun z=>hb (by simp [z]))).trans q,fun b o hb q=>⟨o.slots,(other _ b (fun z=>hb (by simp [z]))).trans q⟩⟩ (by simp [Heap.update]) ⟨fe,T,fT,hTe,⟨oe,vs,(other _ e (Ne.symm hTe)).trans he,rfl,hd,h1,hdi⟩,?_⟩;exact ⟨_,_,Heap.get?_update_self _ hT (Obj.isFreed_of_fields (Obj.data_mapFields hdT _)),Obj.data_mapFields hdT _,by simp [h3]⟩
theorem KO (hfr:A.frames=some (env::outer))(hl:s.heap.FunFrames base (env::outer))(hf:env.frame=some L)(hx:ExA Fre s.heap e cls)(hn:∀ b,s.heap.objs.size<=b->Fre b)
  (h:∀ h1 h2 c d,(∀ b∈c,Fre b/\Iw s.heap b)->Chg (frs (env::outer)) c s.heap h1->(∀ b∈d,Fre b/\Iw h1 b)->Chg (frs (env::outer)) d h1 h2->ExB Fre h2 e cls->Q () { s with heap:=h2 }) :
  wpAny M A (leaving env (.ref e)) Q E s:=by
 unfold leaving;refine qbA (Fu hfr hl hf hf hx hn fun h1 c hc ch _ x1=>?_);exact DE (s:={ s with heap:=h1 }) x1 fun h2 d hd ch2 _ x2=>h h1 h2 c d hc ch hd ch2 x2
end
theorem ObjOk.get {P:Program}{w:World}{H:Hp}{h:Heap}{a:Addr}{o:HO}(x:ObjOk P w H h a o):∃ ob,h.get? a=some ob:=by
 cases o with
 | lst xs=>obtain ⟨_,_,_,_,e⟩:=x;exact ⟨_,e⟩
 | tup xs=>obtain ⟨_,_,_,o,e,_⟩:=x;exact ⟨_,e⟩
 | dK kvs=>obtain ⟨_,_,_,_,o,_,_,e,_⟩:=x;exact ⟨_,e⟩
 | dT kvs=>obtain ⟨_,_,_,_,o,_,_,e,_⟩:=x;exact ⟨_,e⟩
 | set S n=>obtain ⟨o,_,_,_,e,_⟩:=x;exact ⟨_,e⟩
 | ins C dx fs=>obtain ⟨_,_,_,e,_⟩:=x;exact ⟨_,e⟩
 | own y=>exact x
 | xd fs=>obtain ⟨_,⟨_,_,_,e,_⟩,_⟩:=x;exact ⟨_,e⟩
 | rng lo hi=>obtain ⟨_,_,_,e⟩:=x;exact ⟨_,e⟩
 | frz ob u=>obtain ⟨e,_⟩:=x;exact ⟨_,e⟩
 | tbl ps=>exact ⟨_,(show h.get? a=some _ from x)⟩
 | met f y=>exact ⟨_,(show h.get? a=some _ from x)⟩
 | ext φ=>obtain ⟨_,e,_⟩:=x;exact e
theorem HOk.none {P:Program}{w:World}{H:Hp}{h:Heap}{a:Addr}(x:HOk P w H h)(e:h.get? a = .none):H a = .none:=by
 cases q:H a with
 | none=>rfl
 | some u =>
  obtain ⟨ob,z⟩:=(x a u q).get;rw [e] at z;cases z
def Fr0 (X:Cx)(H:Hp)(b:Addr):Prop:=H b=none/\(∀ o,X.s₀.heap.get? b=some o->b∈X.ex)/\∀ p∈X.pn,p.1≠b
section
variable {X:Cx}{pins:List (Addr × Obj)}{σ:St}{H H':Hp}{s s':Shared}{E:St->XK}
theorem Inv.new0 (I:Inv X pins σ H s){b:Addr}(h:s.heap.get? b=none):Fr0 X H b:=by
 refine ⟨I.hok.none h,fun o e=>?_,fun p hp z=>?_⟩
 ·by_cases hx:b∈X.ex
  ·exact hx
  ·obtain ⟨o',q⟩:=I.base.there b o e hx;rw [h] at q;cases q
 ·have:=(I.pin p (List.mem_append_left _ hp)).1;rw [z,h] at this;cases this
theorem Inv.newS (I:Inv X pins σ H s){b:Addr}(h:s.heap.objs.size<=b):Fr0 X H b:=I.new0 (Heap.get?_none_of_le h)
theorem Inv.chg {c:List Addr}{h':Heap}(I:Inv X [] σ H s)(hc:∀ b∈c,Fr0 X H b/\Iw s.heap b)(ch:Chg (frs X.stack) c s.heap h'):Inv X [] σ H { s with heap:=h' }:=by
 have nS:∀ b o,X.s₀.heap.get? b=some o->b ∉ X.ex->b ∉ c:=fun b o e hx hb=>hx ((hc b hb).1.2.1 o e)
 have nF:∀ b o,X.s₀.heap.get? b=some o->b ∉ X.fs->b ∉ frs X.stack:=fun b o e hf hb=>by
  rcases qhA.mp (I.stkSub b hb) with z|z
  ·exact absurd z (qpB (qqB (qzA e) I.ok.above))
  ·exact hf z
 have nL:X.env.locals ∉ c:=fun hb=>by
  obtain ⟨_,o,vs,e,hd⟩:=hc _ hb;obtain ⟨m,⟨o',es,ep,e',hd',_⟩,_⟩:=I.loc;rw [e] at e';cases e';rw [hd] at hd';cases hd'
 have nC:∀ x k,X.env.cells.lookup x=some k->k ∉ c:=fun x k q hb=>by
  obtain ⟨_,o,vs,e,hd⟩:=hc _ hb;obtain ⟨v,o',e',hd'⟩:=I.cell x k q;rw [e] at e';cases e';rw [hd] at hd';cases hd'
 have cK:∀ x k v,X.env.cells.lookup x=some k->s.heap.IsCell k v->h'.IsCell k v:=fun x k v q ⟨o,e,hd⟩=>by
  obtain ⟨sl,z⟩:=ch.2 k o (nC x k q) e;exact ⟨_,z,hd⟩
 refine ⟨I.ok,I.os,I.bare,⟨fun b o e n hb hx=>ch.1 b o (nS b o e hx) (nF b o e hb) (I.base.keep b o e n hb hx),fun b o e n hb hx=>?_,I.base.free,fun b o e hx=>?_,I.base.tups,I.base.frzs,I.base.tbls⟩,?_,fun x k q=>?_,I.free,I.freeC,fun p hp=>?_,fun a o e=>?_,I.len⟩
 ·obtain ⟨sl,e1⟩:=I.base.slot b o e n hb hx;obtain ⟨sl',e2⟩:=ch.2 b _ (nS b o e hx) e1;exact ⟨sl',e2⟩
 ·obtain ⟨o',e1⟩:=I.base.there b o e hx;obtain ⟨sl,e2⟩:=ch.2 b o' (nS b o e hx) e1;exact ⟨_,e2⟩
 ·obtain ⟨m,⟨o,es,ep,ho,r⟩,hl⟩:=I.loc;obtain ⟨sl,hL⟩:=ch.2 _ o nL ho;refine ⟨m,⟨_,es,ep,hL,r⟩,fun i x v e1 e2 e3=>?_⟩;obtain ⟨u,ru,l⟩:=hl i x v e1 e2 e3;refine ⟨u,ru,?_⟩;rcases l with l | ⟨k,c',q,z⟩
  ·exact .inl l
  ·exact .inr ⟨k,c',q,cK x c' _ q z⟩
 ·obtain ⟨v,z⟩:=I.cell x k q;exact ⟨v,cK x k v q z⟩
 ·obtain ⟨e,n,ne,nf,d⟩:=I.pin p hp;rw [quA] at hp;exact ⟨ch.1 p.1 p.2 (fun z=>(hc _ z).1.2.2 p hp rfl) (fun z=>(qhA.mp (I.stkSub _ z)).elim ne nf) e,n,ne,nf,d⟩
 ·refine (I.hok a o e).stay (fun b u hb q=>ch.1 b u (fun z=>?_) (fun z=>?_) q) (fun _ q=>q) fun _ _ q=>q
  ·have:=(hc b z).1.1;rcases hb with rfl|hb
   ·rw [e] at this;cases this
   ·rw [hb] at this;cases this
  ·have:=I.stkFree b z;rcases hb with rfl|hb
   ·rw [e] at this;cases this
   ·rw [hb] at this;cases this
def CXE (P:Program)(w:World):CXT:=fun outer H s E e s'=>∃ ea cls H',e = .ref ea/\s'.os=s.os/\AllBare s'.gens/\Un (frs outer) [] H H' s.heap s'.heap/\HOk P w H' s'.heap /\
 ExB (fun b=>H' b=none/\s.heap.get? b=none) s'.heap ea cls/\E cls none H'
def Lets (X:Cx)(E:St->XK):Prop:=∀ σ H s ea cls,Inv X [] σ H s->ExA (Fr0 X H) s.heap ea cls->E σ cls none H->X.xe (.ref ea) s
theorem ExB.mono {F G:Addr->Prop}{h:Heap}{ea:Addr}{cls:Value}(x:ExB F h ea cls)(k:∀ b,F b->G b):ExB G h ea cls :=
 let ⟨a,T,b,r⟩:=x
 ⟨k _ a,T,k _ b,r⟩
theorem Lets.passes (L:Lets X E):∀ (pins:List (Addr × Obj)) (σ:St) (H:Hp) (s:Shared) (e:Value) (s':Shared),Inv X pins σ H s->CXE X.prog X.w X.stack H s (E σ) e s'->X.xe e s':=by
 rintro pins σ H s e s' I ⟨ea,cls,H',rfl,os,bare,un,hok,xb,q⟩;have I':Inv X pins σ H' s':=I.call' (ch:=[]) os un hok bare fun b z=>nomatch z;refine L σ H' s' ea cls (I'.pins_of (pins':=[]) fun p hp=>nomatch hp) (.inr (xb.mono fun b hb=>?_)) q;obtain ⟨h1,h2,h3⟩:=I.new0 hb.2;exact ⟨hb.1,h2,h3⟩
theorem Cg {P:Program}{w:World}{K:FZ9}{mg:Str->Option Value}{base:Heap}{N:List Str}{qual:Str}{scope:Scope}{f:Addr}{cd:Value}{A:Around}{outer:List Env}{s:Shared}{H:Hp}{E:XK} :
  Lets (F1 (CXE P w) P w K mg base N qual scope f cd A outer s H E) fun _=>E:=by
 intro σ H' s' ea cls I x q;show wpAny _ _ (leaving _ _) _ _ _;refine KO I.ok.frames I.stack rfl x (fun b hb=>I.newS hb) fun h1 h2 c d hc ch1 hd ch2 xb=>?_;have I1:=I.chg hc ch1;have I2:=I1.chg hd ch2
 exact ⟨ea,cls,H',rfl,I2.os,I2.bare,I2.base,I2.hok,xb.mono fun b hb=>⟨hb.1,by
  cases z:s.heap.get? b with
  | none=>rfl
  | some o=>exact absurd (hb.2.1 o z) (fun y=>nomatch y)⟩,q⟩
end
abbrev bmV:List Value:=[.type "ValueError",.type "Exception",.type "BaseException",.type "object"]
def tRaise (E:St->XK)(C:Addr):TS:=fun _ σ H=>E σ (.ref C) none H
section
variable {X:Cx}{pins:List (Addr × Obj)}{σ:St}{H H':Hp}{s s':Shared}{E:St->XK}
theorem Em {x:Str}{C:Addr}{e₀:Expr}{v:V}{np cpos pos:Pos}(O:OwnCls x C bmV "ValueError.__new__" X.mg X.base)(hc:X.calm=true)(hg:Gl X x)(L:Lets X E)(he:PE X e₀ (tC v))
  (hs:starEach [e₀] X.env=(false,eval e₀ X.env)::starEach [] X.env:=by rfl) (hd:(x == ("__debug__" : Str))=false:=by decide) :
  PS X (.Raise (some (.Call (.Name x np) [e₀] [] cpos)) none pos) (tRaise E C):=by
 intro pins s σ H D I h;obtain ⟨tl,N,nm,q,bs,hdct,sn,sub,ab,col,dd,k0,k1,k2,k3,k5,mN,hC,hN,hni,T⟩:=O.obj
 refine wpAny_Raise_call_subU (C:=C) (nm:=nm) (q:=q) (N:=N) (bs:=bs) (bm:=tl) (hdct:=hdct) (sn:=sn) (sub:=sub) (ab:=ab) (col:=col) (dd:=dd) (k0:=k0) (k1:=k1) (k2:=k2) (k3:=k3) (k5:=k5)
  (Bn := "ValueError") PySem.F.excBase_ValueError (by decide +kernel) PySem.F.excBase_ValueError (mN:=mN) (T.hasType (by decide +kernel)) (I.ok.hd hc) ?_ hni (Dx I hg O.bound ⟨rfl,?_⟩ hd)
 ·rw [hs];rfl
 ·have h2:=A2 he A5 hs cpos pins s σ H (fun vs H1=>vs.length=1/\E σ (.ref C) none H1) I ⟨rfl,h⟩;rw [hs] at h2 ⊢;refine Calls.evalArgs_plain (wpAny_mono h2 (fun us s2 ⟨vs,H1,I1,rv,hl,hq⟩=>?_) fun _ _ y=>y);refine ⟨rfl,?_,I1.bk _ _ hC,hN.keeps I1.bk,T.keeps I1.bk,fun h' e hm=>?_⟩
  ·show us.length<=_;rw [<- rv.length,hl]
   decide
  ·obtain ⟨t,ht,_,_⟩:=hm.there;obtain ⟨n1,n2,n3⟩:=I1.new0 hm.new;exact L σ H1 _ e (.ref C) ((I1.kept (t':=s2.toks) hm.keeps).pins_of (pins':=[]) fun p hp=>nomatch hp) (.inl ⟨⟨n1,n2,n3⟩,_,_,ht,rfl,rfl,rfl,rfl⟩) hq
end
def Dr (X:Cx)(N:List Str)(scope:Scope)(C:Addr)(s:Shared)(H:Hp)(fp:List Addr)(Ex:XK):Cx:=(Al X N scope C s H fp).wish fun ev s'=>∃ σ' H' ea cls,ev = .ref ea/\Inv (Al X N scope C s H fp) [] σ' H' s'/\ExA (Fr0 (Al X N scope C s H fp) H') s'.heap ea cls/\Ex cls none H'
theorem HI {X:Cx}{N:List Str}{scope:Scope}{C:Addr}{s:Shared}{H:Hp}{fp:List Addr}{Ex:XK}:Lets (Dr X N scope C s H fp Ex) fun _=>Ex :=
 fun σ H' s' ea cls I x q=>⟨σ,H',ea,cls,rfl,I.unwish,x,q⟩
section
variable {X:Cx}{pins:List (Addr × Obj)}{σ:St}
theorem Inv.nil {H:Hp}{s:Shared}(I:Inv X pins σ H s):Inv X [] σ H s:=I.pins_of (pins':=[]) fun p hp=>nomatch hp
theorem KQ {x:Str}{cn:List Str}{scope:Scope}{C p:Addr}{s3 s':Shared}{H2 H3:Hp}{fp:List Addr}{Ex:XK}{ev:Value}{use:Option (Value->Sem Unit)}{Q:Value->Shared->Prop}(L:Lets X fun _=>Ex)(hst:X.stack=X.env::X.outer)(hfm:X.env.frame=some X.env.locals)
  (I3:Inv X pins σ H3 s3) (hC:s3.heap.objs.size=C) (f2:∀ b∈fp,ED X pins H2 b) (hx:(Dr X (x::cn) scope C s3 H3 fp Ex).xe ev s') :
  notedBy (model X.prog X.w) X.A (compEnvC scope (Dz scope X.env) C X.env) (fun z s''=>compPost (model X.prog X.w) X.A X.xe use Q (.ref p) C (.error z) s'') ev s':=by
 obtain ⟨σ',H',ea,cls,rfl,J,xa,q⟩:=hx;have hf:(compEnvC scope (Dz scope X.env) C X.env).frame=some X.env.locals:=hfm
 have fr:∀ {Hh:Hp}{b:Addr},Fr0 (Al X (x::cn) scope C s3 H3 fp) Hh b->Fr0 X Hh b:=fun {Hh b} ⟨h1,h2,_⟩=>by
  refine ⟨h1,fun o e=>?_,fun r hr z=>?_⟩
  ·by_cases hx:b∈X.ex
   ·exact hx
   ·obtain ⟨o',e'⟩:=I3.base.there b o e hx;rcases (f2 b (h2 o' e')).2.2.2.1 with z|z
    ·exact absurd z hx
    ·exact absurd (qqB (qzA e) z) (qxA _)
  ·have e:=(I3.pin r (List.mem_append_left _ hr)).1;rw [z] at e;exact (f2 b (h2 _ e)).2.2.2.2.2 r (List.mem_append_left _ hr) z
 refine Fu (env:=X.env) (outer:=X.outer) (base:=X.base) (by rw [I3.ok.frames,hst]) (by have:=J.funs;rw [show (Al X (x::cn) scope C s3 H3 fp).outer=X.stack from rfl,hst] at this;exact this) hfm hf xa (fun b hb=>J.newS hb) fun h' c hc ch hsz xb=>?_;rw [<- hst] at ch;have J2:=J.chg hc ch;obtain ⟨m,hn,_⟩:=id J2.loc;refine ⟨m,hn,fun h'' sb cenv _=>?_⟩;have I4:Inv X pins σ H' { s' with heap:=h' }:=Eu I3 J2 f2;have f:=I3.fpOk (H':=H') (Nat.le_of_eq hC) (by have:=J.free;exact this);have I5:=I4.turned (h':=h'') (t':=s'.toks) (it:=C) (fun b o hb e=>(sb.2 b hb).trans e) f.1 f.2.1 f.2.2.2.1 f.2.2.2.2.1 f.2.2.2.2.2
 have nC:∀ b,Iw h' b->b≠C:=fun b ⟨o,vs,e,hd⟩ z=>by
  obtain ⟨o',es,ep,e',hd',_⟩:=hn;rw [z] at e;have e':h'.get? C=some o':=e';rw [e] at e';cases e';rw [hd] at hd';cases hd'
 have xb':ExB (Fr0 X H') h'' ea cls:=by
  obtain ⟨fe,T,fT,hTe,⟨oe,vs,he,hc',hd,h1,hdi⟩,oT,ts,hT,hdT,h3⟩:=xb;exact ⟨fr fe,T,fr fT,hTe,⟨oe,vs,(sb.2 ea (nC ea ⟨_,_,he,hd⟩)).trans he,hc',hd,h1,hdi⟩,oT,ts,(sb.2 T (nC T ⟨_,_,hT,hdT⟩)).trans hT,hdT,h3⟩
 unfold PySem.passOn;obtain ⟨_,T,_,_,⟨oe,vs,he,_,hd,h1,_⟩,_⟩:=id xb';refine qbA (wpAny_field he hd h1 ?_);rw [if_neg (show ¬ ((Value.ref T == Value.none)=true) from by simp)];refine qbA (DE (fr:=frs X.stack) (s:={ s' with heap:=h'' }) xb' fun h3 d hd ch2 _ x3=>wpAny_throw ?_);exact L σ H' _ ea cls (I5.nil.chg hd ch2) (.inr x3) q
theorem Gc {prog:Program}{w:World}{A:Around}{R:Result->Shared->Prop}{s:Shared}{elt target iter:Expr}{ifs:List Expr}{scope:Scope}{pos:Pos}{it acc:Value}{env:Env}(I:Nat->Shared->Prop){E1:Value->Shared->Prop}(hE:∀ x s,E1 x s->notedBy (model prog w) A env (fun x s'=>R (.error x) s') x s)
  (turn:∀ n s,I n s->wpAny (model prog w) A (pyNext it) (fun r s₁=>match r with
   | none=>R (.ok .next) s₁
   | some v=>wpAny (model prog w) A (letOwnedTupleGo target it v) (fun _ s₁'=>wpAny (model prog w) A (assign target env v) (fun _ s₂ =>
     wpAny (model prog w) A (forIn ifs true fun c r=>if r=true then do let ok <- isTrue c env (eval c env);pure (ForInStep.yield ok) else pure (ForInStep.yield r)) (fun ok s₃ =>
      if ok=true then wpAny (model prog w) A (eval elt env) (fun x s₄ =>
       wpAny (model prog w) A (call (.builtin "list.append") [acc,x]) (fun _ s₅=>∃ m,m<n/\I m s₅) (fun _ _=>False) s₄) E1 s₃
      else ∃ m,m<n/\I m s₃) (fun _ _=>False) s₂) (fun _ _=>False) s₁') (fun _ _=>False) s₁) (fun _ _=>False) s)
  (n:Nat) (h:I n s) :
  codeAny (model prog w) A (.compLoop (.ListComp elt [⟨target,iter,ifs,0⟩] scope pos) 0 it acc env) R s:=by
 refine codeAny_loop rfl I (fun n s hI=>?_) n h;show wpAny _ A ((compTurn (.ListComp elt [⟨target,iter,ifs,0⟩] scope pos) 0 it acc env).onRaise (fun x=>do noteFrame x env;theTreesLotGoes x)) _ _ s;refine wpAny_noted ?_;rw [compTurn_list];refine qbA (wpAny_standAt (qbA (wpAny_mono (turn n s hI) (fun r s₁ h₁=>?_) fun _ _ h'=>h'.elim)))
 cases r with
 | none=>exact qcA h₁
 | some v =>
  refine qbA (wpAny_mono h₁ (fun _ s₁' h₁'=>?_) fun _ _ h'=>h'.elim);refine qbA (wpAny_mono h₁' (fun _ s₂ h₂=>qbA (wpAny_mono h₂ (fun ok s₃ h₃=>?_) fun _ _ h'=>h'.elim)) fun _ _ h'=>h'.elim)
  cases ok with
  | false=>exact qcA ⟨rfl,h₃⟩
  | true =>
   exact qbA (qbA (wpAny_mono h₃ (fun x s₄ h₄=>qbA (wpAny_mono h₄ (fun _ s₅ h₅=>qcA (qcA ⟨rfl,h₅⟩)) fun _ _ h'=>h'.elim)) fun x s h'=>hE x s h'))
theorem JE {scope:Scope}{x:Str}{px pos:Pos}{elt iter:Expr}{ifs:List Expr}{cn:List Str}{cap:List Nat}{s2:Shared}{H2:Hp}{it:Addr}{fp:List Addr}{tn:Nat->Heap->Prop}{J:It}{tc:TT}{te:TE}{Q:VK}{RR:Value->Addr->Result->Shared->Prop}{E:Value->Shared->Prop}{Ex:XK}
  (S:CompScope X scope) (I2:Inv X pins σ H2 s2) (hc:X.calm=true) (hcap:Caps X scope cn cap) (hx:scope.names.lookup x=some .local) (hnd:(x::cn).Nodup)
  (T:Turn X.prog X.w X.K (.Name x px) J fp it tn) (st2:tn 0 s2.heap) (f2:∀ b∈fp,ED X pins H2 b)
  (body:∀ (C:Addr) (s:Shared) (H:Hp) (fp:List Addr),PTs (Al X (x::cn) scope C s H fp) ifs tc/\PE (Dr X (x::cn) scope C s H fp Ex) elt te)
  (q:∀ p,H2 p=none->∃ W:Nat->Nat->List V->Hp->Prop,(∃ m,W 0 m [] (upd H2 p (.lst [])))/\∀ i m xs H3,W i m xs H3 ->
   (J.stop i H3/\Q (.ref p) H3)\/(J.go i H3/\∃ N:List V->Hp->Prop,(∀ xs' H',N xs' H'->∃ m',m'<m/\W (i+1) m' xs' H') /\
    ∀ v H4,J.yld i H3 v H4->tc ((BB cap σ).set 0 (some v)) H4 fun b H5=>if b=true then te ((BB cap σ).set 0 (some v)) H5 fun v H6=>H6 p=some (.lst xs)/\xs.length<sizeLine/\N (xs++[v]) (upd H6 p (.lst (xs++[v]))) else N xs H5))
  (hRR:∀ (p C:Addr) (s3 s':Shared) (H3 Hf:Hp) (σ':St),Inv X pins σ H3 s3->s3.heap.objs.size=C->Inv (Al X (x::cn) scope C s3 H3 fp) [] σ' Hf s'->Q (.ref p) Hf->RR (.ref p) C (.ok .next) s')
  (hRX:∀ (p C:Addr) (s3 s':Shared) (H3:Hp) (ev:Value),Inv X pins σ H3 s3->s3.heap.objs.size=C->(∀ b∈fp,ED X pins H2 b)->(Dr X (x::cn) scope C s3 H3 fp Ex).xe ev s'->notedBy (model X.prog X.w) X.A (compEnvC scope (Dz scope X.env) C X.env) (fun z s''=>RR (.ref p) C (.error z) s'') ev s') :
  wpAny (model X.prog X.w) X.A (newList []) (fun acc s₃=>wpAny (model X.prog X.w) X.A (newFunctionEnv scope X.env.globals (Dz scope X.env) [] X.env.qual none .none (some X.env)) (fun cenv s₄ =>
   codeAny (model X.prog X.w) X.A (.compStart (.ListComp elt [⟨.Name x px,iter,ifs,0⟩] scope pos) 0 (.ref it) acc { cenv with scope:=relabel scope X.env }) (RR acc cenv.locals) s₄) E s₃) E s2:=by
 refine wpAny_newObj_type (wpAny_newFunctionEnv S.cell (by intro y hy;simp at hy) (fun h₁ hns₁ hsb₁=>?_) S.kind);dsimp only at hns₁ hsb₁ ⊢;have hfr:H2 s2.heap.objs.size=none:=I2.hok.fresh (qvA _);obtain ⟨W,⟨m0,w0⟩,turn⟩:=q _ hfr
 have I3:Inv X pins σ (upd H2 s2.heap.objs.size (.lst [])) { s2 with heap:=s2.heap.push { cls:=.type "list",data:=.seq ([]:List Value).toArray } } :=
  I2.lnew (its:=[]) (t':=s2.toks) .nil (qsB _)
 generalize hs3:({ s2 with heap:=s2.heap.push { cls:=.type "list",data:=.seq ([]:List Value).toArray } }:Shared)=s3 at I3;have hs3h:s3.heap=s2.heap.push { cls:=.type "list",data:=.seq ([]:List Value).toArray }:=by rw [<- hs3]
 have hst3:tn 0 s3.heap:=T.keep _ _ _ st2 fun b hb o e=>by rw [hs3h];exact qaB _ e
 have ltf:∀ b∈fp,b<s3.heap.objs.size:=fun b hb=>by
  obtain ⟨o,e,_⟩:=T.obj _ _ hst3 b hb;exact qzA e
 have hC:(s2.heap.push { cls:=.type "list",dict:=none,data:=.seq ([]:List Value).toArray }).objs.size=s3.heap.objs.size:=by rw [hs3h]
 rw [hC] at hns₁ hsb₁ ⊢
 have keep:∀ b o,s3.heap.get? b=some o->h₁.get? b=some o:=fun b o e=>by
  refine hsb₁.extBut b o (qpB (qzA e)) (qaB _ ?_);rw [hs3h] at e;exact e
 have J4:Inv (Al X (x::cn) scope s3.heap.objs.size s3 (upd H2 s2.heap.objs.size (.lst [])) fp) [] (BB cap σ) (upd H2 s2.heap.objs.size (.lst [])) { s3 with heap:=h₁,toks:=s2.toks+([]:List (Str × Value)).length } :=
  Fe S I3 hc hcap f2 ltf keep hns₁
 have st4:tn 0 h₁:=T.keep _ _ _ hst3 fun b hb o e=>keep b o e
 have fr4:∀ b∈fp,(upd H2 s2.heap.objs.size (.lst [])) b=none:=fun b hb=>by
  obtain ⟨o,e,_⟩:=T.obj _ _ st2 b hb;rw [AK (qpB (qzA e))];exact (f2 b hb).1
 have hst:({ s2 with heap:=h₁,toks:=s2.toks+([]:List (Str × Value)).length }:Shared) = { s3 with heap:=h₁,toks:=s2.toks+([]:List (Str × Value)).length }:=by rw [<- hs3]
 have loop:codeAny (model X.prog X.w) X.A (.compLoop (.ListComp elt [⟨.Name x px,iter,ifs,0⟩] scope pos) 0 (.ref it) (.ref s2.heap.objs.size) (compEnvC scope (Dz scope X.env) s3.heap.objs.size X.env))
   (RR (.ref s2.heap.objs.size) s3.heap.objs.size) { s2 with heap:=h₁,toks:=s2.toks+([]:List (Str × Value)).length }:=by
  rw [hst];generalize hX':Al X (x::cn) scope s3.heap.objs.size s3 (upd H2 s2.heap.objs.size (.lst [])) fp=X' at J4
  have hfpk:∀ {Hc:Hp},(∀ b∈fp,Hc b=none)->∀ b∈fp,ED X' [] Hc b:=fun {Hc} hn b hb=>by
   subst hX';refine ⟨hn b hb,(J4.ok.exf b hb).1,J4.ok.exfs b hb,.inl hb,(J4.ok.exf b hb).2,fun p hp=>absurd (show p∈([]:List (Addr × Obj)) from hp) (by simp)⟩
  refine Gc (E1:=(Dr X (x::cn) scope s3.heap.objs.size s3 (upd H2 s2.heap.objs.size (.lst [])) fp Ex).xe) (hE:=fun ev s' h'=>hRX _ _ s3 s' _ ev I3 rfl f2 h') (I:=fun n s'=>∃ i xs Hc,Inv X' [] (BB cap σ) Hc s'/\tn i s'.heap/\(∀ b∈fp,Hc b=none)/\W i n xs Hc) ?_ m0 ⟨0,[],_,J4,st4,fr4,w0⟩;rintro n s5 ⟨i,xs,Hc,I5,st5,fr5,w5⟩;have B:=body s3.heap.objs.size s3 (upd H2 s2.heap.objs.size (.lst [])) fp;rcases turn i n xs Hc w5 with ⟨stop,qn⟩ | ⟨go,N,hN,step⟩
  ·subst hX';refine thn (T.done (Al X (x::cn) scope s3.heap.objs.size s3 (upd H2 s2.heap.objs.size (.lst [])) fp) rfl rfl rfl rfl i [] s5 (BB cap σ) Hc (fun _ _=>False) I5 (hfpk fr5) st5 stop) fun r s6 ⟨hr,I6⟩=>?_;subst hr;exact hRR _ _ s3 s6 _ Hc _ I3 rfl I6 qn
  ·subst hX';refine thn (T.item (Al X (x::cn) scope s3.heap.objs.size s3 (upd H2 s2.heap.objs.size (.lst [])) fp) rfl rfl rfl rfl i [] s5 (BB cap σ) Hc (fun _ _=>False) I5 (hfpk fr5) st5 go) fun r s6 ⟨u,hr,h6⟩=>?_;subst hr;refine thn h6 fun _ s7 ⟨v,H7,I7,r7,y7,st7,fr7⟩=>?_;have I7':=I7.pinned (hfpk fr7) (T.obj _ _ st7);have hlook:(relabel scope X.env).names.lookup x=some .local := lookup_relabel_local hx;refine wpAny_assign_Name (Dk (X:=Al X (x::cn) scope s3.heap.objs.size s3 (upd H2 s2.heap.objs.size (.lst [])) fp) I7' (i:=0) hnd rfl (.inl hlook) r7 (fun s8 I8=>?_) (.inr hlook))
   have again:∀ {s9:Shared}{H9:Hp}{ys:List V},Inv (Al X (x::cn) scope s3.heap.objs.size s3 (upd H2 s2.heap.objs.size (.lst [])) fp) ([]++Ew fp s7.heap) ((BB cap σ).set 0 (some v)) H9 s9->N ys H9 ->
     ∃ m,m<n/\∃ i xs Hc,Inv (Al X (x::cn) scope s3.heap.objs.size s3 (upd H2 s2.heap.objs.size (.lst [])) fp) [] (BB cap σ) Hc s9/\tn i s9.heap/\(∀ b∈fp,Hc b=none)/\W i m xs Hc:=fun {s9 H9 ys} I9 n9=>by
    obtain ⟨m',hm,w9⟩:=hN ys H9 n9;refine ⟨m',hm,i+1,ys,H9,(I9.unpinned (pins:=[])).weak (by simp [BB]) (fun j w e=>?_),T.keep _ _ _ st7 fun b hb o e=>(I9.pin (b,o) (qrB _ (qrB _ (C8 hb e)))).1,fun b hb=>?_,w9⟩
    ·cases j with
     | zero =>
      have e:(some none:Option (Option V))=some (some w):=e;cases e
     | succ j=>exact e
    ·obtain ⟨o,e,_⟩:=T.obj _ _ st7 b hb;exact (I9.pin (b,o) (qrB _ (qrB _ (C8 hb e)))).2.1
   refine thn (B.1 _ s8 _ H7 _ I8 (step v H7 y7)) fun ok s9 ⟨H9,I9,q9⟩=>?_
   cases ok with
   | false =>
    rw [if_neg qhB] at q9 ⊢;exact again I9 q9
   | true =>
    rw [if_pos rfl] at q9 ⊢;refine thn (B.2 _ s9 _ H9 _ (I9.wish _) q9) fun uy s10 ⟨y,H10,I10,r10,hp,hl,n10⟩=>?_;have I10:=I10.unwish;refine thn (F7 _ s10 _ H10 (.ref s2.heap.objs.size) [y] (.ref s2.heap.objs.size) [uy] (fun _ H11=>N (xs++[y]) H11) I10 rfl (.cons r10 .nil) ⟨_,xs,y,rfl,rfl,hp,hl,n10⟩) fun _ s11 ⟨_,H11,I11,_,n11⟩=>?_;exact again I11 n11
 exact codeAny_compStart_list loop (T.self _ _ _ _ _ st4 loop)
theorem FI {scope:Scope}{x y:Str}{px py pos spos:Pos}{elt iter:Expr}{ifs:List Expr}{cn:List Str}{cap:List Nat}{wi:TI}{tc:TT}{te:TE}{i:Nat}
  (hN:X.N.Nodup) (hi:X.N[i]? = some y) (hy:Loc X.env.scope y) {Ex:XK}(L:Lets X fun _=>Ex) (hst:X.stack=X.env::X.outer) (hfm:X.env.frame=some X.env.locals) (hc:X.calm=true) (S:CompScope X scope) (hx:scope.names.lookup x=some .local) (hnd:(x::cn).Nodup) (hcap:Caps X scope cn cap) (hit:PI X (.Name x px) iter wi)
  (body:∀ (C:Addr) (s:Shared) (H:Hp) (fp:List Addr),PTs (Al X (x::cn) scope C s H fp) ifs tc/\PE (Dr X (x::cn) scope C s H fp Ex) elt te)
  (hsw:swapsWith (.ListComp elt [⟨.Name x px,iter,ifs,0⟩] scope pos) (some (.Name y py)) spos.line X.env=pure true:=by rfl)
  (hf:X.fn y=true\/X.env.scope.names.lookup y=some .local := by first|exact .inl rfl|exact .inr rfl|assumption)
  (hs:∀ x,foldedSetIterable iter X.env x=pure x:=by intro _;rfl):PS X (.Assign [.Name y py] (.ListComp elt [⟨.Name x px,iter,ifs,0⟩] scope pos) spos) (Hd (Gz cap wi tc te) (Cp i)):=by
 intro pins s σ H D I h;rw [exec_Assign_Name_used _ _ _ _ hsw];refine qbA (wpAny_standAt (qbA ?_));show wpAny _ X.A (do let _ <- comprehension (.ListComp elt [⟨.Name x px,iter,ifs,0⟩] scope pos) scope X.env _ (newList []) false (eval iter X.env) (some (assign (.Name y py) X.env))) _ _ s
 refine qbA (wpAny_mono (wpAny_comprehension_free (use:=some (assign (.Name y py) X.env)) (Q:=fun _ s'=>SP X pins D .next s') rfl hs (S.clos I) S.kind S.names
  (thn (hit pins s σ H _ I h) fun xv s1 h1=>thn h1 fun itv s2 h2=>?_)) (fun _ s' hq=>qcA (qcA hq)) fun _ _ e=>e)
 obtain ⟨it,fp,tn,J,H2,e,I2,T,st2,f2,q⟩:=h2;subst e;refine JE (Q:=fun v H1=>Cp i v σ H1 D.nx) (RR:=fun acc C=>compPost (model X.prog X.w) X.A X.xe (some (assign (.Name y py) X.env)) (fun _ s'=>SP X pins D .next s') acc C) S I2 hc hcap hx hnd T st2 f2 body q ?_ (fun p C s3 s' H3 ev I3 hC f2 hx=>KQ L hst hfm I3 hC f2 hx);intro p C s3 s' H3 Hf σ' I3 hC J' qf;subst hC;have I4:=Eu I3 J' f2;obtain ⟨m,hn,_⟩:=J'.loc;have f:=I3.fpOk (H':=Hf) (qvA _) J'.free;show wpAny _ X.A (assign (.Name y py) X.env (.ref p)) _ _ _;refine wpAny_assign_Name (F6 (v:=V.ref p) I4 hN hi hy rfl (fun s'' I5 ch=>?_) hf);obtain ⟨a,hsb,ha⟩:=ch
 have hCa:s3.heap.objs.size≠a:=by
  rcases ha with rfl|ha
  ·exact f.2.1
  ·exact fun z=>f.2.2.2.2.1 y a ha z.symm
 refine ⟨m,hn.sameBut hsb hCa,fun h' hs'=>?_⟩;exact ⟨_,Hf,I5.turned (t':=s''.toks) (it:=s3.heap.objs.size) (fun b o hb e=>(hs'.2 b hb).trans e) f.1 f.2.1 f.2.2.2.1 f.2.2.2.2.1 f.2.2.2.2.2,qf⟩
end
abbrev Cx.tr (X:Cx)(pn:List (Addr × Obj))(xe:Value->Shared->Prop):Cx:={ X with pn:=pn,xe:=xe }
abbrev Cx.han (X:Cx)(pn:List (Addr × Obj))(ea:Addr):Cx:={ X with pn:=pn,xe:=fun _ _=>False,A:=X.A.mark (some (.ref ea)),calm:=false }
def Exo (ea:Addr)(cls:Value):HO:=.ext fun h=>∃ oe vs,h.get? ea=some oe/\oe.cls=cls/\oe.dict=none/\oe.data = .fields vs
def gone (i:Nat)(D:Ends):Ends:={ nx:=fun σ H=>D.nx (σ.set i none) H,rt:=D.rt,bk:=fun σ H=>D.bk (σ.set i none) H,ct:=fun σ H=>D.ct (σ.set i none) H }
def tTry (K:FZ9)(C0:Addr)(i:Nat)(tb:(St->XK)->TS)(th:TS):TS:=fun D σ H =>
 tb (fun σ' cls _ H'=>PySem.W.exmOne K cls (.ref C0)=some true/\∀ ea,H' ea=none->th (gone i D) (σ'.set i (some (.ref ea))) (upd H' ea (Exo ea cls))) D σ H
section
variable {X:Cx}{pins:List (Addr × Obj)}{σ:St}{H:Hp}{s:Shared}{xe:Value->Shared->Prop}{ea:Addr}
theorem Inv.toTr (I:Inv X pins σ H s):Inv (X.tr (X.pn++pins) xe) [] σ H s :=
 ⟨⟨I.ok.mod,I.ok.kind,I.ok.glob,I.ok.blt,I.ok.above,I.ok.inj,I.ok.has,I.ok.cab,I.ok.hd,I.ok.frames,I.ok.stk,I.ok.exf,I.ok.bs,I.ok.bsz,I.ok.noex,I.ok.exfs,I.ok.funs,I.ok.frf⟩,I.os,I.bare,I.base,I.loc,I.cell,I.free,I.freeC,fun p hp=>I.pin p (by rw [quA] at hp;exact hp),I.hok,I.len⟩
theorem Inv.ofTr {p2:List (Addr × Obj)}(I:Inv (X.tr (X.pn++pins) xe) p2 σ H s):Inv X pins σ H s :=
 ⟨⟨I.ok.mod,I.ok.kind,I.ok.glob,I.ok.blt,I.ok.above,I.ok.inj,I.ok.has,I.ok.cab,I.ok.hd,I.ok.frames,I.ok.stk,I.ok.exf,I.ok.bs,I.ok.bsz,I.ok.noex,I.ok.exfs,I.ok.funs,I.ok.frf⟩,I.os,I.bare,I.base,I.loc,I.cell,I.free,I.freeC,fun p hp=>I.pin p (List.mem_append_left _ hp),I.hok,I.len⟩
theorem Inv.toHan (I:Inv X pins σ H s):Inv (X.han (X.pn++pins) ea) [] σ H s :=
 ⟨⟨I.ok.mod,I.ok.kind,I.ok.glob,I.ok.blt,I.ok.above,I.ok.inj,I.ok.has,I.ok.cab,fun z=>(nomatch z),I.ok.frames,I.ok.stk,I.ok.exf,I.ok.bs,I.ok.bsz,I.ok.noex,I.ok.exfs,I.ok.funs,I.ok.frf⟩,I.os,I.bare,I.base,I.loc,I.cell,I.free,I.freeC,fun p hp=>I.pin p (by rw [quA] at hp;exact hp),I.hok,I.len⟩
theorem Inv.ofHan {p2:List (Addr × Obj)}(ok:X.Ok)(I:Inv (X.han (X.pn++pins) ea) p2 σ H s):Inv X pins σ H s :=
 ⟨ok,I.os,I.bare,I.base,I.loc,I.cell,I.free,I.freeC,fun p hp=>I.pin p (List.mem_append_left _ hp),I.hok,I.len⟩
theorem SP.ofTr {D:Ends}{f:Flow}{s':Shared}(h:SP (X.tr (X.pn++pins) xe) [] D f s'):SP X pins D f s':=by
 cases f with
 | next=>obtain ⟨σ',H',I,q⟩:=h;exact ⟨σ',H',I.ofTr,q⟩
 | brk=>obtain ⟨σ',H',I,q⟩:=h;exact ⟨σ',H',I.ofTr,q⟩
 | cont=>obtain ⟨σ',H',I,q⟩:=h;exact ⟨σ',H',I.ofTr,q⟩
 | ret u=>obtain ⟨v,σ',H',I,r,q⟩:=h;exact ⟨v,σ',H',I.ofTr,r,q⟩
theorem Inv.gone {M:Model}{A:Around}{E:Value->Shared->Prop}{i:Nat}{n:Str}{pos:Pos}{Q:Unit->Shared->Prop}(I:Inv X pins σ H s)(hN:X.N.Nodup)(hi:X.N[i]? = some n)(hl:X.env.scope.names.lookup n=some .local)
  (h:∀ s',Inv X pins (σ.set i none) H s'->Q () s'):wpAny M A (do bindName X.env n .none;unbindBehindTheSuite X.env n pos) Q E s:=by
 obtain ⟨m,hn,hlk⟩:=id I.loc;refine wpAny_nameGoes_keeps hl hn (by rw [I.ok.kind];rfl) fun h' v hn' sb=>h _ ?_
 have I1:=I.weak (σ':=σ.set i none) (by simp) fun j w e=>by
  by_cases hj:i=j
  ·subst hj;rw [List.getElem?_set] at e;simp at e
  ·rwa [List.getElem?_set_ne hj] at e
 obtain ⟨oL,_,_,hoL,_⟩:=id hn;have nL:∀ b o,X.s₀.heap.get? b=some o->b≠X.env.locals:=fun b o e=>qpB (qqB (qzA e) I.ok.above);refine ⟨I.ok,I.os,I.bare,⟨fun b o e n hb hx=>(sb.2 b (nL b o e)).trans (I.base.keep b o e n hb hx),fun b o e n hb hx=>?_,I.base.free,fun b o e hx=>?_,I.base.tups,I.base.frzs,I.base.tbls⟩,⟨_,hn',fun j y w e1 e2 e3=>?_⟩,fun y c e=>?_,I.free,I.freeC,fun p hp=>?_,fun a o e=>?_,I1.len⟩
 ·obtain ⟨sl,e1⟩:=I.base.slot b o e n hb hx;exact ⟨sl,(sb.2 b (nL b o e)).trans e1⟩
 ·obtain ⟨o',e1⟩:=I.base.there b o e hx;exact ⟨o',(sb.2 b (nL b o e)).trans e1⟩
 ·have hj:j≠i:=fun z=>by
   subst z;rw [List.getElem?_set] at e2;simp at e2
  rw [List.getElem?_set_ne (Ne.symm hj)] at e2;obtain ⟨u,r,l⟩:=hlk j y w e1 e2 e3;refine ⟨u,r,?_⟩;rcases l with ⟨k,q⟩ | ⟨k,c,q,z⟩
  ·refine .inl ⟨k,?_⟩;have:y≠n:=fun z=>hj (GH hN e1 (z ▸ hi));simp [this,q]
  ·exact .inr ⟨k,c,q,z.sameBut sb (I.cne y c q)⟩
 ·obtain ⟨w,z⟩:=I.cell y c e;exact ⟨w,z.sameBut sb (I.cne y c e)⟩
 ·obtain ⟨e,n,ne,nf,d⟩:=I.pin p hp;exact ⟨(sb.2 p.1 ne).trans e,n,ne,nf,d⟩
 ·refine (I.hok a o e).stay (fun b u hb q=>(sb.2 b ?_).trans q) (fun _ q=>q) fun _ _ q=>q;rintro rfl;have:=I.free;rcases hb with z|hb
  ·rw [z,e] at this;cases this
  ·rw [hb] at this;cases this
theorem Inv.track {a:Addr}{o:HO}(I:Inv X [] σ H s)(f:Fr0 X H a)(fl:Iw s.heap a)(new:ObjOk X.prog X.w (upd H a o) s.heap a o):Inv X [] σ (upd H a o) s:=by
 have ne:∀ b u,H b=some u->b≠a:=fun b u e z=>by rw [z,f.1] at e;cases e
 have nL:X.env.locals≠a:=fun z=>by
  obtain ⟨ob,vs,e,hd⟩:=fl;obtain ⟨m,⟨o',es,ep,e',hd',_⟩,_⟩:=I.loc;rw [z,e] at e';cases e';rw [hd] at hd';cases hd'
 have nC:∀ x k,X.env.cells.lookup x=some k->k≠a:=fun x k q z=>by
  obtain ⟨ob,vs,e,hd⟩:=fl;obtain ⟨v,o',e',hd'⟩:=I.cell x k q;rw [z,e] at e';cases e';rw [hd] at hd';cases hd'
 refine ⟨I.ok,I.os,I.bare,⟨I.base.keep,I.base.slot,fun b ob e n hx=>?_,I.base.there,fun b xs e=>?_,fun b ob u e=>?_,fun b ps e=>?_⟩,I.loc,I.cell,?_,fun x k q=>?_,fun p hp=>?_,fun b u e=>?_,I.len⟩
 ·have hb:b≠a:=fun z=>by
   subst z;exact hx (f.2.1 ob e)
  rw [AK hb];exact I.base.free b ob e n hx
 ·have:=I.base.tups b xs e;rw [AK (ne b _ this)];exact this
 ·have:=I.base.frzs b ob u e;rw [AK (ne b _ this)];exact this
 ·obtain ⟨m,z⟩:=I.base.tbls b ps e;exact ⟨m,by rw [AK (ne b _ z)];exact z⟩
 ·rw [AK nL];exact I.free
 ·rw [AK (nC x k q)];exact I.freeC x k q
 ·obtain ⟨e,n,n2,nf,d⟩:=I.pin p hp;rw [quA] at hp;exact ⟨e,by rw [AK (f.2.2 p hp)];exact n,n2,nf,d⟩
 ·by_cases hb:b=a
  ·subst hb;rw [AM] at e;cases e;exact new
  ·rw [AK hb] at e;exact (I.hok b u e).stay (fun c v _ q=>q) (fun c q=>by rw [AK (ne c _ q)];exact q) fun c xs q=>by rw [AK (ne c _ q)];exact q
theorem ps_try {x n:Str}{C0:Addr}{i:Nat}{body:List Stmt}{b₀:Stmt}{suite:List Stmt}{tb:(St->XK)->TS}{th:TS}{np hpos pos:Pos}
  (hst:X.stack=X.env::X.outer) (hfm:X.env.frame=some X.env.locals) (hx:Gl X x) (hm:X.mg x=some (.ref C0)) (hN:X.N.Nodup) (hi:X.N[i]? = some n) (hl:X.env.scope.names.lookup n=some .local)
  (hb:∀ pn' xe' E,Lets (X.tr pn' xe') E->PSs (X.tr pn' xe') body (tb E)) (hh:∀ pn' ea,PSs (X.han pn' ea) (b₀::suite) th) (hd:(x == ("__debug__" : Str))=false:=by decide) :
  PS X (.Try body [.ExceptHandler (some (.Name x np)) (some n) (b₀::suite) hpos] [] [] pos) (tTry X.K C0 i tb th):=by
 intro pins s σ H D I h;refine wpAny_Try_except ?_
 let Eh:St->XK:=fun σ' cls _ H'=>PySem.W.exmOne X.K cls (.ref C0)=some true/\∀ ea,H' ea=none->th (gone i D) (σ'.set i (some (.ref ea))) (upd H' ea (Exo ea cls))
 let xt:Value->Shared->Prop:=fun ev s'=>∃ σ' H' ea cls,ev = .ref ea/\Inv X pins σ' H' s'/\ExA (Fr0 (X.tr (X.pn++pins) fun _ _=>False) H') s'.heap ea cls/\Eh σ' cls none H'
 have hL:Lets (X.tr (X.pn++pins) xt) Eh:=fun σ' H' s' ea cls I' xa q=>⟨σ',H',ea,cls,rfl,I'.ofTr,xa,q⟩;refine wpAny_mono (hb (X.pn++pins) xt Eh hL [] s σ H D I.toTr h) (fun f s1 hs=>?_) fun ev s1 hx1=>?_
 ·have hs:=hs.ofTr
  cases f with
  | next =>
   obtain ⟨σ',H',I',q⟩:=hs;exact wpAny_execs_nil ⟨σ',H',I',q⟩
  | brk=>exact hs
  | cont=>exact hs
  | ret u=>exact hs
 ·obtain ⟨σ',H',ea,cls,rfl,I1,xa,hm1,hq⟩:=hx1;have J1:Inv (X.tr (X.pn++pins) fun _ _=>False) [] σ' H' s1:=I1.toTr;refine Fu (env:=X.env) (outer:=X.outer) (base:=X.base) (by rw [I1.ok.frames,hst]) (by have:=I1.stack;rwa [hst] at this) hfm hfm xa (fun b hb=>J1.newS hb) fun h2 c hc ch _ x2=>?_;rw [<- hst] at ch;have J2:=J1.chg hc ch;refine DE (fr:=frs X.stack) (s:={ s1 with heap:=h2 }) x2 fun h3 d hd3 ch3 _ x3=>?_;have J3:=J2.chg hd3 ch3;have I3:Inv X pins σ' H' { s1 with heap:=h3 }:=J3.ofTr;have G3:Inv (X.han (X.pn++pins) ea) [] σ' H' { s1 with heap:=h3 }:=I3.toHan;refine wpAny_handleBy_cons (codeAny_handlers_test (Dx G3 hx hm ?_ hd)) (by intro q;cases q);obtain ⟨oe,vs,he,hcls,_⟩:=x3.2.choose_spec.2.2.1;have LT:PySem.W.Looks (model X.prog X.w) h3 (typeOf (.ref ea)) cls:=hcls ▸ (PySem.W.Looks.ld he).andThen .now;refine (PySem.W.exm_one (M:=model X.prog X.w) (h:=h3) I3.kIn LT hm1).here ?_;rw [if_pos rfl];refine codeAny_handlers_suite_as ?_;refine DE (fr:=frs X.stack) (s:={ s1 with heap:=h3 }) x3 fun h4 d4 hd4 ch4 _ x4=>?_;have J4:=J3.chg hd4 ch4;have I4:Inv X pins σ' H' { s1 with heap:=h4 }:=J4.ofTr;have G4:Inv (X.han (X.pn++pins) ea) [] σ' H' { s1 with heap:=h4 }:=I4.toHan;obtain ⟨oe4,vs4,he4,hcls4,hd4',_,hdi4⟩:=x4.2.choose_spec.2.2.1;have G4:Inv (X.han (X.pn++pins) ea) [] σ' (upd H' ea (Exo ea cls)) { s1 with heap:=h4 }:=G4.track x4.1 ⟨_,_,he4,hd4'⟩ ⟨⟨_,_,he4,hcls4,hdi4,hd4'⟩,⟨_,he4⟩,fun h1 h2 ⟨ob,vs,e1,e2⟩ k=>⟨ob,vs,k ob e1,e2⟩⟩;refine Dk (X:=X.han (X.pn++pins) ea) (v:=V.ref ea) G4 (i:=i) hN hi (.inl hl) rfl (fun s5 G5=>?_) (.inr hl);refine wpAny_mono (hh (X.pn++pins) ea [] s5 _ _ (gone i D) G5 (hq ea x4.1.1)) (fun f s6 h6=>?_) fun _ _ z=>False.elim z;show wpAny _ X.A (do bindName X.env n .none;unbindBehindTheSuite X.env n hpos) (fun _ s₃=>SP X pins D f s₃) X.xe s6
  cases f with
  | next =>
   obtain ⟨σ6,H6,G6,q6⟩:=h6;exact (G6.ofHan I.ok).gone hN hi hl fun s7 I7=>⟨_,H6,I7,q6⟩
  | brk =>
   obtain ⟨σ6,H6,G6,q6⟩:=h6;exact (G6.ofHan I.ok).gone hN hi hl fun s7 I7=>⟨_,H6,I7,q6⟩
  | cont =>
   obtain ⟨σ6,H6,G6,q6⟩:=h6;exact (G6.ofHan I.ok).gone hN hi hl fun s7 I7=>⟨_,H6,I7,q6⟩
  | ret u =>
   obtain ⟨v,σ6,H6,G6,r6,q6⟩:=h6;exact (G6.ofHan I.ok).gone hN hi hl fun s7 I7=>⟨v,_,H6,I7,r6,q6⟩
end
end L2
namespace L2
open PySem PySem.Spec PyProof.Rows PySem.W
structure XKit (K:Frag)(D:Addr):Prop where
 cl:(clsIn K D).isSome=true
 ga:findIn K (.ref D) "__getattribute__" = some (some (.builtin "BaseException.__getattribute__"))
 gn:findIn K (.ref D) "__getattr__" = some none
 ca:findIn K (.ref D) "__class__" = some (some (.builtin "object.__class__"))
 hn:specialIn K (.builtin "object.__class__") "__get__" = some (some (.builtin "getset_descriptor.__get__"))
 tk:takesIn K (.builtin "object.__class__")=some true
 mo:mroIn K D (.type "object")=some true
 mb:mroIn K D (.type "BaseException")=some true
section
variable {prog:Program}{w:World}{K:Frag}{A:Around}{E:Value->Shared->Prop}{s:Shared}{x D:Addr}{ox:Obj}
theorem KR {nameV:Value}{Q:Unit->Shared->Prop}(Z:XKit K D)(X:K.In s.heap)(I:InstAt s.heap x ox D none)(hq:Q () s) :
  wpAny (model prog w) A (checkBuiltinCall "BaseException.__getattribute__" ⟨[.ref x,nameV],[]⟩) Q E s:=by
 have hk:builtinKind "BaseException.__getattribute__" = some .slot:=by decide +kernel
 have hsplit:splitId "BaseException.__getattribute__" = some ("BaseException","__getattribute__"):=by decide +kernel
 have ha:=F.args_bexc_ga (.ref x) nameV;obtain ⟨hh,g,d,t,os⟩:=s;have L0:=I.type (M:=model prog w);have L1:=looks_mroIn (M:=model prog w) X Z.mb;simp only [checkBuiltinCall,hk,hsplit];refine qbA ?_;unfold isInstance
 repeat (any_goals (first|assumption|lk|wp_step))
theorem exc_ca {Q:Option Value->Shared->Prop}(Z:XKit K D)(X:K.In s.heap)(I:InstAt s.heap x ox D none)(h:Q (some (.ref D)) { s with toks:=s.toks+1 }):wpAny (model prog w) A (getAttr? (.ref x) "__class__") Q E s:=by
 have hf:findObj K D none "__class__" = some (.bind (.builtin "getset_descriptor.__get__") (.builtin "object.__class__")):=by
  obtain ⟨cd,hc⟩:=Option.isSome_iff_exists.mp Z.cl;unfold findObj;rw [hc,Option.bind_some,Z.ca,Option.bind_some];simp [Z.hn,Z.tk]
 obtain ⟨hh,g,d,t,os⟩:=s;have L0:=I.type (M:=model prog w);have L1:=looks_findIn (M:=model prog w) X Z.ga;have L2:=looks_findIn (M:=model prog w) X Z.gn;unfold getAttr? getAttrBy? getAttrBy;refine qbA (wpAny_mkText (qbA (wpAny_attempt (wpAny_holding (qbA (L0.at (qbA (L1.at ?_))))))));show wpAny _ _ (getAttrByItsOwn _ _ _ _ _ _) _ _ _;unfold getAttrByItsOwn;refine qbA (L2.at ?_);refine qbA (wpAny_attempt (wpAny_holding ?_));show wpAny _ _ (boundAndCalled _ _ _) _ _ _;unfold boundAndCalled;refine qbA (wpAny_of_eq (F.excAttr_ValueError.ga.bind (.ref x)) ?_);show wpAny _ _ (call (.builtin "BaseException.__getattribute__") [.ref x,.str "__class__" t]) _ _ _;refine wpAny_call (codeAny_call_builtin F.excAttr_ValueError.ga.plain F.entry_bexc_ga (KR Z X I ?_));have X':K.In (⟨hh,g,d,t+1,os⟩:Shared).heap:=X;have I':InstAt (⟨hh,g,d,t+1,os⟩:Shared).heap x ox D none:=I;have L3:=looks_find (M:=model prog w) X I hf;unfold Builtin.«object.__getattribute__»
 repeat (any_goals (first|assumption|lk|wp_step))
 refine wpAny_run ?_;refine class_get (s:=⟨hh,g,d,t+1,os⟩) (od:=none) X' I' Z.mo ?_;exact qcA (qcA (handed_on rfl (qcA h)))
end
section
variable {K:FZ9}{x D:Addr}
def ExAt (x D:Addr)(h:Heap):Prop:=∃ ox vs,h.get? x=some ox/\ox.cls = .ref D/\ox.dict=none/\ox.data = .fields vs
theorem ExAt.inst {h:Heap}(e:ExAt x D h):∃ ox,PySem.W.InstAt h x ox D none:=by
 obtain ⟨⟨c,d,dt,sl⟩,vs,e1,e2,e3,e4⟩:=e;dsimp only at e2 e3 e4;subst e2 e3 e4;exact ⟨_,e1,rfl,rfl,trivial⟩
theorem kitx_exc (Z:XKit K D):PySem.W.KitX K (.ref x) (.ref D) (ExAt x D) where
 ty:=fun _ _ _ p=>by
  obtain ⟨ox,I⟩:=p.inst;exact I.type
 it:=fun _ _ X _=>by
  obtain ⟨cd,hc⟩:=Option.isSome_iff_exists.mp Z.cl;unfold PySem.W.clsIn at hc;split at hc
  ·rename_i c' d' cd' sl' ho;intro A' Q' E' s' k q;unfold isType loadHead;exact qbA (wpAny_loadPart (k _ _ (X _ _ ho)) (qcA q))
  ·cases hc
 ne:=fun h tp dd its n sl X htp=>by
  obtain ⟨cd,hc⟩:=Option.isSome_iff_exists.mp Z.cl;refine Bool.eq_false_iff.mpr fun q=>?_;have e:D=tp:=Value.ref.inj (beq_iff_eq.mp q);subst e;unfold PySem.W.clsIn at hc;split at hc
  ·rename_i c' d' cd' sl' ho;have z:=(X _ _ ho).symm.trans htp;cases z
  ·cases hc
 ca:=fun X p k=>by
  obtain ⟨ox,I⟩:=p.inst;exact exc_ca Z X I k
end
def rInstX (K:FZ9):List V->Hp->VK->Prop:=fun vs H Q=>∃ ea D b c u,vs=[.ref ea,c]/\H ea=some (Exo ea (.ref D))/\XKit K D/\(∀ z,RelV c z->z=u)/\PySem.W.kitOne K (.ref D) u=some b/\Q (.bl b) H
theorem BL {X:Cx}{K:FZ9}(h:X.K=K):Cn X (.builtin "isinstance") (rInstX K):=by
 subst h;intro pins s σ H xs us Q I rv q;obtain ⟨ea,D,b,c,u,rfl,he,Z,hc,hk,q⟩:=q
 cases rv with
 | cons r1 rv=>cases rv with
  | cons r2 rv=>cases rv with
   | nil =>
    obtain rfl:=hc _ r2;rename_i w1 _;have e1:w1=Value.ref ea:=r1;subst e1;obtain ⟨p,_⟩:=I.hok ea _ he;exact PySem.W.kia_one (kitx_exc Z) I.kIn p hk (fun z=>nomatch z) fun tk=>⟨.bl b,H,I.tok tk,rfl,q⟩
structure DefE (P:Program)(w:World)(K:FZ9)(mg:Str->Option Value)(base:Heap)(x:Str)(k:Nat)(ps:List Str)(sp:Sp):Prop where
 ex:∃ f fd,FnOk P w K mg base (CXE P w) k f fd ps sp/\mg x=some (.ref f)/\qmB K (.ref f)=true/\Binds K fd ps []
def tCallS (sp:Sp)(E:St->XK)(t:TA):TE:=fun σ H Q=>t σ H fun vs H1=>sp vs H1 Q (E σ)
section
variable {X:Cx}{x:Str}{k j:Nat}{ps:List Str}{sp:Sp}{e:Expr}{es:List Expr}{t:TA}{p pos:Pos}{E:St->XK}
theorem FU (F:DefE X.prog X.w X.K X.mg X.base x k ps sp)(hr:Room j X.A)(hj:k<=j)(hg:Gl X x)(L:Lets X E)(ha:PA X (e::es) t)(hdb:(x == ("__debug__" : Str))=false:=by decide)
  (he:starEach (e::es) X.env=(false,eval e X.env)::starEach es X.env:=by rfl) (hpl:(backTo pos (starEach es X.env)).any (·.1)=false:=by rfl) :
  PE X (.Call (.Name x p) (e::es) [] pos) (tCallS sp E t):=by
 obtain ⟨f,fd,G,m,kp,b⟩:=F.ex;intro pins s σ H Q I h;refine wpAny_Call_Name_kw (Dx I hg m ?_ hdb);refine PySem.W.callWith_K (h₀:=X.base) I.ok.mod.kin kp (thn (ha pos pins s σ H _ I h) fun us s1 ⟨vs,H1,I1,r,q⟩=>⟨I1.kIn,?_⟩) he hpl;have hl:us.length=ps.length:=by rw [<- r.length];exact G.len _ _ _ _ q
 have bb:=b s1 us I1.kIn (by rw [quA];exact hl);rw [quA] at bb;refine wpAny_call (codeAny_mono (G.run X.A X.stack s1 H1 ⟨us,[]⟩ us vs Q (E σ) (hr.mono hj) I1.env0 bb r q) fun r' s' hq=>?_)
 cases r' with
 | error e=>exact L.passes pins σ H1 s1 e s' I1 hq
 | ok fl =>
  cases fl with
  | ret u=>exact I1.after hq
  | next=>exact False.elim hq
  | brk=>exact False.elim hq
  | cont=>exact False.elim hq
end
theorem DIn.okE {P:Program}{w:World}{K:FZ9}{mg:Str->Option Value}{base:Heap}{x:Str}{st:Stmt}{N ps:List Str}{k:Nat}{sp:Sp}(Z:DIn K mg x st)(S:FnScope N ps (AA st))(b:BnO x st ps)(len:∀ vs H Q E,sp vs H Q E->vs.length=ps.length)
  (hbody:∀ (f:Addr) (cdv:Value) (A:Around) (outer:List Env) (s:Shared) (H:Hp) (vs:List V) (Q:VK) (E:XK),Room k (A.deeper (envOfC x (AA st) s.heap.objs.size f cdv))->sp vs H Q E ->
   ∃ t,PSs (F1 (CXE P w) P w K mg base N x (AA st) f cdv A outer s H E) (BU st) t/\t { nx:=fun _ H'=>Q .non H',rt:=Q } (start N vs) H):DefE P w K mg base x (k+1) ps sp:=by
 obtain ⟨f,fd,a,F⟩:=Z.ex;have bb:=F.binds b;obtain ⟨oc,od,kV,doc,pm,an,cdv,ct,osl,rfl,lk,hcd⟩:=F.ex;exact ⟨f,_,fn_of lk hcd S len fun A outer s H vs Q E hr hsp=>hbody f cdv A outer s H vs Q E hr hsp,a,F.kp,bb⟩
theorem DefE.to0 {P:Program}{w:World}{K:FZ9}{mg:Str->Option Value}{base:Heap}{x:Str}{ps:List Str}{k:Nat}{sp sp':Sp}(D:DefE P w K mg base x k ps sp)(h:∀ vs H Q E,sp' vs H Q E->sp vs H Q E0):DefOk P w K mg base x k ps sp':=by
 obtain ⟨f,fd,G,m,kp,b⟩:=D.ex;refine ⟨f,fd,⟨fun vs H Q E q=>G.len _ _ _ _ (h _ _ _ _ q),fun A outer s H args us vs Q E hr he hb hv hs=>codeAny_mono (G.run A outer s H args us vs Q E0 hr he hb hv (h _ _ _ _ hs)) fun r s' hq=>?_⟩,m,kp,b⟩
 cases r with
 | error e =>
  obtain ⟨_,_,_,_,_,_,_,_,_,z⟩:=hq;exact z.elim
 | ok fl=>cases fl<;>exact hq
def Ie {ρ:Type}(r:Except Str ρ)(P:ρ->Prop)(R:Str->Prop):Prop:=match r with
 | .ok b=>P b
 | .error n=>R n
section
variable {K:FZ9}{mg:Str->Option Value}{σ:St}{G H:Hp}{α β:Type}[Rp α][Rp β]{te t0:TE}{E:St->XK}
def Raises (mg:Str->Option Value)(E:XK)(nm:Str)(G H:Hp):Prop:=∀ D G2 H2,mg nm=some (.ref D)->Ext G H G2 H2->E (.ref D) none H2
def spX (K:FZ9)(mg:Str->Option Value){A:Type}[RpA A]{ρ:Type}[Rp ρ](m:A->Option (Except Str ρ)):Sp:=fun vs H Q E =>
 ∃ G a r,Same G H/\RpA.rel K G vs a/\m a=some r/\Ie r (fun b=>∀ v G2 H2,Ext G H G2 H2->Rp.rel K G2 v b->Q v H2) fun nm=>Raises mg E nm G H
theorem Jh {A:Type}[RpA A]{ρ:Type}[Rp ρ]{m:A->Option (Except Str ρ)}{vs:List V}{H:Hp}{Q:VK}{E:XK}(h:spX K mg m vs H Q E):vs.length=RpA.n A:=by
 obtain ⟨G,a,r,_,h,_⟩:=h;exact RpA.len h
def spXN (K:FZ9)(mg:Str->Option Value){A:Type}[RpA A]{α β:Type}[Rp α][Rp β](m:A->Option (Except Str (List α × List β))):Sp:=fun vs H Q E =>
 ∃ G a r,Same G H/\RpA.rel K G vs a/\m a=some r/\Ie r (fun b=>∀ v p q vs ws G2 H2,Ext G H G2 H2->H p=none->H q=none->Own2 K G2 H2 v p q vs ws b->Q v H2) fun nm=>Raises mg E nm G H
theorem spXN_len {A:Type}[RpA A]{m:A->Option (Except Str (List α × List β))}{vs:List V}{H:Hp}{Q:VK}{E:XK}(h:spXN K mg m vs H Q E):vs.length=RpA.n A:=by
 obtain ⟨G,a,r,_,h,_⟩:=h;exact RpA.len h
def EVX (K:FZ9)(mg:Str->Option Value)(E:St->XK){α:Type}[Rp α](te:TE)(σ:St)(G:Hp)(m:Option (Except Str α)):Prop :=
 ∀ G1,Same G G1->∀ r,m=some r->∀ H,Same G1 H->∀ Q:VK,Ie r (fun a=>∀ v G2 H2,Ext G1 H G2 H2->Rp.rel K G2 v a->Q v H2) (fun nm=>Raises mg (E σ) nm G1 H)->te σ H Q
theorem Raises.pre {E:XK}{nm:Str}{G1 H1:Hp}(r:Raises mg E nm G H)(x:Ext G H G1 H1):Raises mg E nm G1 H1:=fun D G2 H2 h y=>r D G2 H2 h (x.trans y)
theorem GI {A0:Type}[Rp A0]{m0:Option A0}{m:A0 × Unit->Option (Except Str α)}(e0:EV K t0 σ G m0):EVX K mg E (tCallS (spX K mg m) E (Ao t0 Bd)) σ G (m0.bind fun a0=>m (a0,())):=by
 clear 7;obtain ⟨a0,ha0,hc⟩:=qaA.mp hc;refine e0 G1 s1 a0 ha0 H sH _ fun v0 G2 H2 x0 r0=>?_;refine ⟨G2,_,c,x0.gh,⟨v0,_,rfl,r0,rfl⟩,hc,?_⟩
 cases c with
 | ok b=>exact fun v G9 H9 x9 r=>k v G9 H9 (x0.trans x9) r
 | error nm=>exact Raises.pre k x0
theorem sx_drop {m:Option (Except Str α)}{r:Except Str α}{rest:TS}{D:Ends}(e:EVX K mg E te σ G m)(hm:m=some r)(s:Same G H)(k:Ie r (fun _=>∀ G2 H2,Ext G H G2 H2->rest D σ H2) fun nm=>Raises mg (E σ) nm G H):DA (GS te) rest D σ H:=by
 refine e G (.refl G) r hm H s _ ?_
 cases r with
 | ok b=>exact fun v G2 H2 x _=>k G2 H2 x
 | error nm=>exact k
def Ez {α β:Type}(f:α->Option (Except Str β)):List α->Option (Except Str (List β))
 | []=>some (.ok [])
 | a::as=>(f a).bind fun r=>match r with
  | .error n=>some (.error n)
  | .ok b=>(Ez f as).bind fun rs=>match rs with
   | .error n=>some (.error n)
   | .ok bs=>some (.ok (b::bs))
theorem HH {cap:List Nat}{wi:TI}{mi:Option (List α)}{as:List α}{fe:α->Option (Except Str β)}{r:Except Str (List β)}{Ex:XK}{rest:TS}{D:Ends}{i:Nat}(ei:IW K wi σ G mi)(hmi:mi=some as)
  (hb:∀ (x:V) (a:α) (G1:Hp),Same G G1->Rp.rel K G1 x a->EVX K mg (fun _=>Ex) te ((BB cap σ).set 0 (some x)) G1 (fe a)) (hr:Ez fe as=some r) (s:Same G H)
  (k:Ie r (fun bs=>∀ p vs G2 H2,Ext G H G2 H2->H p=none->Own K G2 H2 (.ref p) p vs bs->rest D (σ.set i (some (.ref p))) H2) fun nm=>Raises mg Ex nm G H):DA (Hd (Gz cap wi KI te) (Cp i)) rest D σ H:=by
 refine ei G (.refl G) as hmi H s _ fun J vs Ga Ha xa Y hz pr p hp=>?_;have hla:=Paired.length pr
 refine ⟨fun i m ys H2=>m=vs.length - i/\i<=vs.length/\∃ G2 bs c,Ext Ga Ha G2 H2/\G2 p=none/\H2 p=some (.lst ys)/\ys.length<=i/\Paired (Rp.rel K G2) ys bs/\Ez fe (as.drop i)=some c/\r=(match c with | .ok cs=>.ok (bs++cs) | .error nm=>.error nm),
  ⟨vs.length,by simp,qsB _,Ga,[],r,.own xa.gh hp,xa.gh.free hp,AM,qvA _,.nil,hr,by cases r<;>rfl⟩,?_⟩
 rintro i m ys H2 ⟨rfl,hi,G2,bs,c,x2,hg,hh,hy,hpr,hcs,rfl⟩;by_cases hlt:i<vs.length
 ·refine .inr ⟨Y.go i _ (x2.gg.trans x2.gh) hlt,fun ys' H'=>∃ G2 bs' c',Ext Ga Ha G2 H'/\G2 p=none/\H' p=some (.lst ys')/\ys'.length<=i+1/\Paired (Rp.rel K G2) ys' bs'/\Ez fe (as.drop (i+1))=some c'/\(match c with | .ok cs=>.ok (bs++cs) | .error nm=>.error nm:Except Str (List β))=(match c' with | .ok cs=>.ok (bs'++cs) | .error nm=>.error nm),
   fun ys' H' ⟨G3,bs',cs',h⟩=>⟨vs.length - (i+1),by omega,rfl,hlt,G3,bs',cs',h⟩,fun x H3 y=>?_⟩
  obtain ⟨rfl,hx⟩:=Y.yld i _ x H3 (x2.gg.trans x2.gh) hlt y;obtain ⟨a,hai,ra⟩:=Paired.getR pr hx
  have hd:as.drop i=a::as.drop (i+1):=by
   obtain ⟨h1,h2⟩:=qpA.mp hai;rw [List.drop_eq_getElem_cons h1,h2]
  rw [hd] at hcs;obtain ⟨z,hze,hcs⟩:=qaA.mp hcs;have B:=hb x a G2 (xa.gg.trans x2.gg) (Rp.mono x2.gg ra);unfold KI
  try dsimp only
  rw [if_pos rfl];refine B G2 (.refl _) z hze H3 x2.gh _ ?_
  cases z with
  | error nm =>
   cases hcs;exact Raises.pre k (xa.trans x2)
  | ok b =>
   obtain ⟨c',hc',hcs⟩:=qaA.mp hcs;intro v G6 H6 x6 r6;have hp6:H6 p=some (.lst ys):=x6.hh _ _ hh;have hg6:G6 p=none:=x6.no p hg (by rw [hh];exact fun z=>nomatch z);refine ⟨hp6,by omega,G6,bs++[b],c',(x2.trans x6).put hp hg6,hg6,AM,?_,Paired.app (Paired.imp' (fun _ _ r=>Rp.mono x6.gg r) hpr) (.cons r6 .nil),hc',?_⟩
   ·rw [qeA,qgA];omega
   ·cases c' with
    | error nm=>cases hcs;rfl
    | ok cs'=>cases hcs;simp
 ·have e:i=vs.length:=by omega
  subst e;have hd:as.drop vs.length=[]:=List.drop_eq_nil_of_le (by omega);rw [hd] at hcs;cases hcs;refine .inl ⟨Y.stop _ (x2.gg.trans x2.gh),?_⟩;have k:∀ p vs G2 H2,Ext G H G2 H2->H p=none->Own K G2 H2 (.ref p) p vs (bs++[])->rest D (σ.set i (some (.ref p))) H2:=k;rw [quA] at k;exact k p ys G2 H2 (xa.trans x2) (xa.hh.free hp) ⟨rfl,hg,hh,by omega,hpr⟩
end
structure RoomH (k:Nat)(A:Around):Prop where
 dp:A.depth+3 * k+5<recursionLimit
 un:A.units+16 * k+200<cLine
theorem Room.han {k:Nat}{A:Around}(r:Room k A)(h:Option Value):RoomH k (A.mark h):=⟨r.dp,r.un⟩
structure FnOkH (P:Program)(w:World)(K:FZ9)(mg:Str->Option Value)(base:Heap)(k:Nat)(f:Addr)(fd:FuncData)(ps:List Str)(sp:Sp):Prop where
 len:∀ vs H Q E,sp vs H Q E->vs.length=ps.length
 run:∀ (A:Around) (outer:List Env) (s:Shared) (H:Hp) (args:Args) (us:List Value) (vs:List V) (Q:VK),RoomH k A->Env0 P w K mg base A outer s H->BindsTo s fd args (ps.zip us)->Vals vs us->sp vs H Q E0 ->
  codeAny (model P w) A (.call (.ref f) args) (CR CX0 outer P w H s Q E0) s
abbrev cxH (P:Program)(w:World)(K:FZ9)(mg:Str->Option Value)(base:Heap)(N:List Str)(qual:Str)(scope:Scope)(f:Addr)(cd:Value)(A:Around)(outer:List Env)(s:Shared)(H:Hp):Cx :=
 { F1 CX0 P w K mg base N qual scope f cd A outer s H E0 with xe:=fun _ _=>False,calm:=false }
structure DefH (P:Program)(w:World)(K:FZ9)(mg:Str->Option Value)(base:Heap)(x:Str)(k:Nat)(ps:List Str)(sp:Sp):Prop where
 ex:∃ f fd,FnOkH P w K mg base k f fd ps sp/\mg x=some (.ref f)/\qmB K (.ref f)=true/\Binds K fd ps []
theorem DIn.okH {P:Program}{w:World}{K:FZ9}{mg:Str->Option Value}{base:Heap}{x:Str}{st:Stmt}{N ps:List Str}{k:Nat}{sp:Sp}(Z:DIn K mg x st)(S:FnScope N ps (AA st))(b:BnO x st ps)(len:∀ vs H Q E,sp vs H Q E->vs.length=ps.length)
  (hbody:∀ (f:Addr) (cdv:Value) (A:Around) (outer:List Env) (s:Shared) (H:Hp) (vs:List V) (Q:VK),sp vs H Q E0 ->
   ∃ t,PSs (cxH P w K mg base N x (AA st) f cdv A outer s H) (BU st) t/\t { nx:=fun _ H'=>Q .non H',rt:=Q } (start N vs) H):DefH P w K mg base x (k+1) ps sp:=by
 obtain ⟨f,fd,a,F⟩:=Z.ex;have bb:=F.binds b;obtain ⟨oc,od,kV,doc,pm,an,cdv,ct,osl,rfl,lk,hcd⟩:=F.ex;refine ⟨f,_,⟨len,fun A outer s H args us vs Q hr e0 hb r hsp=>?_⟩,a,F.kp,bb⟩;have hl:=len _ _ _ _ hsp;have KX:K.In s.heap:=e0.mod.kin.keeps fun b o e=>(e0.bs b o e).1;have lim:s.heap.NoLimit:=e0.mod.nolimit.keeps fun b o e=>(e0.bs b o e).1
 have hkind:∀ y∈ps.zip us,(AA st).names.lookup y.1=some .local \/ ((AA st).names.lookup y.1=some .cell/\((cellsFrom (s.heap.objs.size+1) (AA st).names []).lookup y.1).isSome=true):=fun ⟨n,v⟩ hy=>by
  rcases S.par n (List.of_mem_zip hy).1 with q|q
  ·exact .inl q
  ·exact .inr ⟨q,PySem.W.cellsFrom_some _ _ _ (.inl q)⟩
 refine codeAny_call_function (by have:=hr.dp;omega) (KX _ _ lk) rfl S.co S.gen rfl (PySem.W.codeRec_of KX hcd) (hb _ _ _ _ ?_);refine wpAny_newFunctionEnv_cells S.kind hkind fun env he s1 x1=>?_;subst he;refine ⟨lim.keeps x1.toInCall.keep,codeAny_func ?_⟩;obtain ⟨t,ht,hq⟩:=hbody f cdv A outer s H vs Q hsp;have I0:Inv (F1 CX0 P w K mg base N x (AA st) f cdv { A with handled:=none } outer s H E0) [] (start N vs) H s1:=Gp S rfl ⟨e0.frames,e0.mod,e0.bs,e0.bsz,e0.funs,e0.frf,e0.hok,e0.bare⟩ hl r x1
 have I:Inv (cxH P w K mg base N x (AA st) f cdv A outer s H) [] (start N vs) H s1 :=
  ⟨⟨I0.ok.mod,I0.ok.kind,I0.ok.glob,I0.ok.blt,I0.ok.above,I0.ok.inj,I0.ok.has,I0.ok.cab,fun z=>(nomatch z),I0.ok.frames,I0.ok.stk,I0.ok.exf,I0.ok.bs,I0.ok.bsz,I0.ok.noex,I0.ok.exfs,I0.ok.funs,I0.ok.frf⟩,I0.os,I0.bare,I0.base,I0.loc,I0.cell,I0.free,I0.freeC,I0.pin,I0.hok,I0.len⟩
 refine wpAny_mono (ht [] s1 (start N vs) H _ I hq) (fun fl s' hs=>?_) fun e s' hs=>False.elim hs
 have fin:∀ {σ':St}{H':Hp}{v:V}{u:Value},Inv (cxH P w K mg base N x (AA st) f cdv A outer s H) [] σ' H' s'->RelV v u->Q v H'->CE outer P w H s Q u s' :=
  fun {σ' H' v u} J rv q=>⟨v,H',J.os,J.bare,J.base,J.hok,rv,q⟩
 cases fl with
 | ret u =>
  obtain ⟨v,σ',H',J,rv,q⟩:=hs;exact fin J rv q
 | next =>
  obtain ⟨σ',H',J,q⟩:=hs;exact fin (v:=V.non) (u:=Value.none) J rfl q
 | brk =>
  obtain ⟨_,_,_,q⟩:=hs;exact False.elim q
 | cont =>
  obtain ⟨_,_,_,q⟩:=hs;exact False.elim q
section
variable {X:Cx}{x:Str}{k j:Nat}{ps:List Str}{sp:Sp}{e:Expr}{es:List Expr}{t:TA}{p pos:Pos}
theorem pe_defH (F:DefH X.prog X.w X.K X.mg X.base x k ps sp)(hr:RoomH k X.A)(hg:Gl X x)(ha:PA X (e::es) t)(hdb:(x == ("__debug__" : Str))=false:=by decide)
  (he:starEach (e::es) X.env=(false,eval e X.env)::starEach es X.env:=by rfl) (hpl:(backTo pos (starEach es X.env)).any (·.1)=false:=by rfl) :
  PE X (.Call (.Name x p) (e::es) [] pos) (Gs sp [] E0 t):=by
 obtain ⟨f,fd,G,m,kp,b⟩:=F.ex;intro pins s σ H Q I h;refine wpAny_Call_Name_kw (Dx I hg m ?_ hdb);refine PySem.W.callWith_K (h₀:=X.base) I.ok.mod.kin kp (thn (ha pos pins s σ H _ I h) fun us s1 ⟨vs,H1,I1,r,q⟩=>⟨I1.kIn,?_⟩) he hpl;have q:sp (vs++[]) H1 Q E0:=q;rw [quA] at q;have hl:us.length=ps.length:=by rw [<- r.length];exact G.len _ _ _ _ q
 have bb:=b s1 us I1.kIn (by rw [quA];exact hl);rw [quA] at bb;refine wpAny_call (codeAny_mono (G.run X.A X.stack s1 H1 ⟨us,[]⟩ us vs Q hr I1.env0 bb r q) fun r' s' hq=>?_)
 cases r' with
 | error e=>exact False.elim hq
 | ok fl =>
  cases fl with
  | ret u=>exact I1.after hq
  | next=>exact False.elim hq
  | brk=>exact False.elim hq
  | cont=>exact False.elim hq
end
def rAbs:List V->Hp->VK->Prop:=fun xs H Q=>∃ i:Int,xs=[.int i]/\Q (.int (if i<0 then -i else i)) H
theorem F3 {X:Cx}:Cn X (.builtin "abs") rAbs:=by
 intro pins s σ H vs us Q I r h;obtain ⟨i,rfl,q⟩:=h;obtain ⟨u,rfl,ru⟩:=EY r;obtain ⟨t,rfl⟩:=ru;exact call_abs_int fun u tk=>⟨.int _,H,I.tok _,⟨_,rfl⟩,q⟩
theorem J5:bootBuiltins "abs" = some (.builtin "abs"):=by decide +kernel
def Iu (x:Str)(n:Int):Option Str:=if 2<=n/\n<=10000/\1<=x.length/\x.length<=8 then some ⟨(List.replicate n.toNat x.cps).foldl (·++·) #[]⟩ else none
theorem GO (a:Array Nat):∀ (k:Nat) (acc:Array Nat),((List.replicate k a).foldl (·++·) acc).toList=acc.toList++(List.replicate k a.toList).flatten
 | 0,acc=>by simp
 | k+1,acc=>by
  rw [List.replicate_succ,List.foldl_cons,GO a k,List.replicate_succ,List.flatten_cons,Array.toList_append,qtA]
theorem HU {x z:Str}{n:Int}(h:Iu x n=some z):PySem.MulOk x n/\Txt.mul x n=z/\z.length<=sizeLine/\z.cps.toList=(List.replicate n.toNat x.cps.toList).flatten:=by
 have hs:sizeLine=16777216:=qcB;obtain ⟨⟨h1,h2,h3,h4⟩,rfl⟩:=Av h
 have hl:(⟨(List.replicate n.toNat x.cps).foldl (·++·) #[]⟩:Str).cps.toList=(List.replicate n.toNat x.cps.toList).flatten:=by
  show ((List.replicate n.toNat x.cps).foldl (·++·) #[]).toList=_;rw [GO]
  rfl
 have hk:n.toNat<=10000:=by omega
 have hm:x.length * n.toNat<=8 * 10000:=Nat.mul_le_mul h4 hk;refine ⟨⟨?_,fun _ _=>?_,fun _ _=>?_⟩,?_,?_,hl⟩
 ·rw [Bool.or_eq_false_iff,decide_eq_false_iff_not,decide_eq_false_iff_not];omega
 ·have h8:(8:Int)<=(2 ^ 63 - 1) / n:=(Int.le_ediv_iff_mul_le (by omega)).mpr (by omega);omega
 ·unfold Builtin.Str.tooLong;exact decide_eq_false (by omega)
 ·unfold Txt.mul;rw [if_neg (by omega),if_neg];rw [Bool.or_eq_true,beq_iff_eq,beq_iff_eq];omega
 ·show Array.size _<=_;rw [<- qoB,hl,List.length_flatten,List.map_replicate,List.sum_replicate_nat];have e:x.cps.toList.length=x.length:=qoB;rw [e];rw [Nat.mul_comm];omega
def rMulT:V->V->Hp->VK->Prop:=fun x y H Q=>∃ a n z,x = .str a/\y = .int n/\Iu a n=some z/\Q (.str z) H
theorem JW {X:Cx}:OpR X (binaryOp .Mult) rMulT:=by
 intro pins s σ H x y v u Q I rx ry h;obtain ⟨a,n,z,rfl,rfl,hz,q⟩:=h;obtain ⟨t,rfl⟩:=rx;obtain ⟨t',rfl⟩:=ry;obtain ⟨h1,h2,_,_⟩:=HU hz;exact SB.mul h1 fun t2 k=>⟨.str z,H,I.tok _,⟨_,by rw [h2]⟩,q⟩
section
variable {K:FZ9}{σ:St}{G H G1 H1 G0 H0:Hp}{α β γ:Type}[Rp α][Rp β][Rp γ][RpC γ]{ta te:TE}{rest:TS}{D:Ends}{i:Nat}{v:V}{p:Addr}{cs:List (Option Addr)}
theorem J7 {ma:Option Int}(ea:EV K ta σ G ma):EV K (tCB rAbs (Ao ta Bd)) σ G (ma.bind fun a=>some (if a<0 then -a else a)):=by
 clear 7;obtain ⟨a,ha,hc⟩:=qaA.mp hc;cases hc;refine ea G1 s1 a ha H sH _ fun v G2 H2 x r=>?_;obtain rfl:=r;exact ⟨a,rfl,k _ G2 H2 x rfl⟩
theorem Jj {tb:TE}{ma:Option Str}{mb:Option Int}(ea:EV K ta σ G ma)(eb:EV K tb σ G mb):EV K (tOp rMulT ta tb) σ G (ma.bind fun a=>mb.bind fun b=>Iu a b):=by
 clear 7;obtain ⟨a,ha,hc⟩:=qaA.mp hc;obtain ⟨b,hb,hc⟩:=qaA.mp hc;clear 8 ea a ha;refine eb G2 (s1.trans x2.gg) b hb H2 x2.gh _ fun u G3 H3 x3 r3=>?_;obtain ⟨rfl,_⟩:=r2;obtain rfl:=r3;exact ⟨a,b,c,rfl,rfl,hc,k _ G3 H3 (x2.trans x3) ⟨rfl,(HU hc).2.2.1⟩⟩
theorem OwnC.more {ls:List (Option γ)}{q:Addr}{ho:HO}{a:γ}(o:OwnC K H0 G H v p cs ls)(x:Ext G0 H0 G H)(hq:H q=none)(hz:cs.length<sizeLine)(P:RpC.P K G ho a) :
  Ext G0 H0 G (upd (upd H q ho) p (.lst (cs.map cv++[.ref q])))/\OwnC K H0 G (upd (upd H q ho) p (.lst (cs.map cv++[.ref q]))) v p (cs++[some q]) (ls++[some a]):=by
 have hqp:q≠p:=fun z=>by rw [z,o.h] at hq;cases hq
 have x3:Ext G0 H0 G (upd H q ho):=x.trans (.own x.gh hq);have x4:=x3.put (o:=.lst (cs.map cv++[.ref q])) o.h0 o.g;have old:∀ b,some b∈cs->b≠q:=fun b hb z=>(o.cell hb).2 (by rw [z];exact hq);refine ⟨x4,o.v,o.g,?_,?_,o.h0,?_,?_,?_⟩
 ·rw [AM,List.map_append];rfl
 ·rw [qeA,qgA];omega
 ·intro b hb;rcases List.mem_append.mp hb with hb|hb
  ·exact o.c0 b hb
  ·cases qjA.mp hb;exact ⟨x.hh.free hq,hqp⟩
 ·intro a b c h1 h2;rw [List.getElem?_append] at h1 h2;split at h1<;>split at h2
  ·exact o.nd a b c h1 h2
  ·have:c=q:=by
    have:=qoA h2;rw [qjA] at this;exact qyA this
   exact absurd this (old c (qoA h1))
  ·have:c=q:=by
    have:=qoA h1;rw [qjA] at this;exact qyA this
   exact absurd this (old c (qoA h2))
  ·have e1:=(qpA.mp h1).1;have e2:=(qpA.mp h2).1;rw [qgA] at e1 e2;omega
 ·refine Paired.app (pimp (fun c a hc r=>r.imp (.refl _) (fun _ _ g=>g) fun b u e hb=>?_) o.p) (.cons ⟨x.gh.free hq,ho,?_,P⟩ .nil)
  ·rw [AK hqp,AM]
  ·subst e;rw [AK (o.c0 b hc).2,AK (old b hc)];exact hb
theorem sv_ownC1 (xt:Ext G0 H0 G H)(k:∀ p cs H2,Ext G0 H0 G H2->OwnC K H0 G H2 (.ref p) p cs ([([]:List β)].map some)->rest D (σ.set i (some (.ref p))) H2):DA (Hd (tLst (Ao (tLst Bd) Bd)) (Cp i)) rest D σ H:=by
 refine ⟨qsB _,fun q hq=>⟨by show 1<=sizeLine;decide,fun p hp=>?_⟩⟩;have hpq:p≠q:=fun z=>by rw [z,AM] at hp;cases hp
 have x1:Ext G0 H0 G (upd H q (.lst [])):=xt.trans (.own xt.gh hq);have x2:Ext G0 H0 G (upd (upd H q (.lst [])) p (.lst [.ref q])):=x1.trans (.own x1.gh hp);refine k p [some q] _ x2 ⟨rfl,x1.gh.free hp,AM,by show 1<=sizeLine;decide,x1.hh.free hp,?_,?_,.cons ⟨xt.gh.free hq,.lst [],by rw [AK (Ne.symm hpq),AM],[],rfl,qsB _,.nil⟩ .nil⟩
 ·intro b hb;cases qjA.mp hb;exact ⟨xt.hh.free hq,Ne.symm hpq⟩
 ·intro a b c h1 h2;have e1:=(qpA.mp h1).1;have e2:=(qpA.mp h2).1;rw [qgA] at e1 e2;omega
theorem sv_appC {ls:List (List β)}{ls':List (List β)}(hσ:σ[i]? = some (some v))(o:OwnC K H0 G H v p cs (ls.map some))(hp:Cs ls ([]:List β)=some ls')(xt:Ext G0 H0 G H)
  (k:∀ cs' H2,Ext G0 H0 G H2->OwnC K H0 G H2 v p cs' (ls'.map some)->rest D σ H2):DA (GS (tBM K "list" Dw (GG i) (Ao (tLst Bd) Bd))) rest D σ H:=by
 obtain ⟨hl,rfl⟩:=Av hp;have ov:=o.v;subst ov;have hlen:cs.length=ls.length:=by have:=Paired.length o.p;rwa [qdA] at this
 refine ⟨_,hσ,.inl ⟨rfl,_,SqL.of o.h⟩,qsB _,fun q hq=>?_⟩;have hqp:q≠p:=fun z=>by rw [z,o.h] at hq;cases hq
 refine ⟨p,_,.ref q,rfl,rfl,by rw [AK (Ne.symm hqp)];exact o.h,by rw [qdA];omega,?_⟩;obtain ⟨x2,o2⟩:=o.more (ho:=.lst []) (a:=([]:List β)) xt hq (by omega) ⟨[],rfl,qsB _,.nil⟩;refine k (cs++[some q]) _ x2 ?_;rw [List.map_append];exact o2
theorem GA {q:Addr}{vs ws:List V}{a:List α × List β}(hσ:σ[i]? = some (some v))(o:Own2 K G H v p q vs ws a)(s:Same G H)(k:Own2 K G (upd H q (.lst [])) v p q vs [] (a.1,([]:List β))->rest D σ (upd H q (.lst []))) :
  DA (GS (tBM0 K "list" rClear (tOp (rAt K) (GG i) (tC (.int 1))))) rest D σ H:=by
 obtain ⟨t,rfl,ht⟩:=o.t;refine ⟨_,hσ,.inr ⟨_,_,SqT.of (s _ _ ht),rfl,.inl ⟨rfl,_,SqL.of o.o2.h⟩,q,ws,rfl,rfl,o.o2.h,?_⟩⟩;exact k ⟨o.t,o.o1.put o.ne,⟨rfl,o.o2.g,AM,qsB _,.nil⟩,o.ne⟩
end
structure Exn where
 D:Addr
instance rpExn:Rp Exn:=⟨fun _ H v e=>∃ ea,v = .ref ea/\H ea=some (Exo ea (.ref e.D)),fun s ⟨ea,e,h⟩=>⟨ea,e,s _ _ h⟩⟩
section
variable {K:FZ9}{σ:St}{G H:Hp}{ta:TE}
theorem Bv {D:Addr}{c:V}{u:Value}{b:Bool}(Z:XKit K D)(hk:PySem.W.kitOne K (.ref D) u=some b)(hc:∀ z,RelV c z->z=u)(ea:EV K ta σ G (some (Exn.mk D))):EV K (tCB (rInstX K) (Ao ta (Ao (tC c) Bd))) σ G (some b):=by
 intro G1 s1 a ha H sH Q k;cases ha;refine ea G1 s1 _ rfl H sH _ fun v G2 H2 x r=>?_;obtain ⟨ex,rfl,he⟩:=r;exact ⟨ex,D,b,c,u,rfl,x.gh _ _ he,Z,hc,hk,k _ G2 H2 x rfl⟩
end
theorem Cm {a:Addr}:∀ z,RelV (.ref a) z->z = .ref a:=fun _ h=>h
theorem rel_ty {T:String}:∀ z,RelV (.ty T) z->z = .type T:=fun _ h=>h
theorem own_in {K:FZ9}{h:Heap}{mg:Str->Option Value}{x:Str}{C:Addr}{bm:List Value}{newId:String}(X:K.In h)(G:h.Ns mainGlobals mg)(e:qjB K mainGlobals x=some (some (.ref C)))(q:PySem.W.excIn K C bm newId=true):OwnCls x C bm newId mg h:=by
 refine ⟨qkB X G e,?_⟩;unfold PySem.W.excIn at q;split at q
 case h_2=>cases q
 rename_i dd cd sl ho;split at q
 case h_2=>cases q
 rename_i C' tl k0 k1 k2 k3 n k5 hm hs;simp only [Bool.and_eq_true,beq_iff_eq,Bool.not_eq_true'] at q;obtain ⟨⟨⟨⟨⟨rfl,rfl⟩,hdel⟩,ht⟩,hok⟩,hni⟩:=q;obtain ⟨nm,bs,mro,ns,qn,hd,sn,sub,ab,col,del⟩:=cd;dsimp only at hm hdel hok hni;subst hm hdel;obtain ⟨l⟩:=sl;simp only at hs;subst hs;exact ⟨tl,ns,nm,qn,bs,hd,sn,sub,ab,col,dd,k0,k1,k2,k3,k5,_,X _ _ ho,.of_isNs (PySem.W.isNs_of_in X hok),PySem.W.nsMap_none_of_in X hok hni,PySem.W.tail_of_in X ht⟩
theorem GV:bootBuiltins "ValueError" = some (.type "ValueError"):=by decide +kernel
def XKits (K:FZ9)(D:Addr):Prop:=(∃ cd,PySem.W.clsIn K D=some cd)/\PySem.W.findIn K (.ref D) "__getattribute__" = some (some (.builtin "BaseException.__getattribute__"))/\PySem.W.findIn K (.ref D) "__getattr__" = some none /\
 PySem.W.findIn K (.ref D) "__class__" = some (some (.builtin "object.__class__"))/\PySem.W.specialIn K (.builtin "object.__class__") "__get__" = some (some (.builtin "getset_descriptor.__get__"))/\PySem.W.takesIn K (.builtin "object.__class__")=some true /\
 PySem.W.mroIn K D (.type "object")=some true/\PySem.W.mroIn K D (.type "BaseException")=some true
theorem XKits.to {K:FZ9}{D:Addr}(h:XKits K D):XKit K D :=
 let ⟨⟨cd,h1⟩,h2,h3,h4,h5,h6,h7,h8⟩:=h
 ⟨by rw [h1];rfl,h2,h3,h4,h5,h6,h7,h8⟩
instance nnStr:NoN Str:=⟨fun h=>(by obtain ⟨rfl,_⟩:=h;exact fun z=>(nomatch z)),fun A hK I hu r h=>by
 obtain ⟨rfl,_⟩:=h;obtain ⟨t,rfl⟩:=r
 exact ⟨⟨SeqAt.EqAt.none_str _ _,SeqAt.RcAt.none_str _ _,SeqAt.RcNeAt.none_str _ _⟩,SeqAt.EqAt.str_none _ _,SeqAt.RcAt.str_none _ _,SeqAt.RcNeAt.str_none _ _⟩⟩
def idxL (xs:List Str)(y:Str):Option Int:=if y∈xs/\xs.length<=1000000 then some ((xs.idxOf y:Nat):Int) else none
def Jb (K:FZ9):V->List V->Hp->VK->Prop:=fun x vs H Q=>∃ (l:Addr) (ys:List Str) (y:Str) (k:Int),x = .ref l/\vs=[.str y]/\SqL K H l (ys.map V.str)/\idxL ys y=some k/\Q (.int k) H
theorem K9 {X:Cx}{K:FZ9}(h:X.K=K):MtR X "list.index" (Jb K):=by
 subst h;intro pins s σ H x vs v us Q I rx rv h;obtain ⟨l,ys,y,k,rfl,rfl,hl,hk,q⟩:=h;obtain ⟨⟨hm,hn⟩,rfl⟩:=Av hk;cases rx;obtain ⟨u,rfl,ru⟩:=EY rv;have hs:sizeLine=16777216:=qcB;obtain ⟨its,r,pl,_⟩:=I.list hl;have hlen:=r.length;rw [qdA] at hlen;have hj:ys.idxOf y<ys.length:=List.idxOf_lt_length_iff.mpr hm;obtain ⟨⟨cls,dd,data,sl⟩,ho,hc,n,hd⟩:=pl.isList;simp only at hc hd;subst hc hd
 refine call_meets PySem.F.slot_list_index ⟨_,ho,rfl⟩ PySem.F.entry_list_index (PySem.F.args_list_index_2 _ _)
  (SeqAt.list_indexAt l its.toArray n dd sl u (eqU (V.str y)) (ys.idxOf y) (by rw [qiB];omega) (by omega) ?_ ?_) ⟨ho,fun w hw=>IT ru rfl r (HD ys) w (by simpa using hw),?_⟩
 ·show eqU (V.str y) its[ys.idxOf y]=true;rw [Je r y _ (by omega) hj]
  simpa using List.getElem_idxOf hj
 ·intro j hjs hlt;show eqU (V.str y) its[j]=false;rw [Je r y j (by simpa using hjs) (by omega)];have:=List.not_of_lt_findIdx (p:=(· == y)) (xs:=ys) hlt
  simpa using this
 ·exact ⟨.int _,H,I.tok _,⟨_,rfl⟩,q⟩
section
variable {K:FZ9}{σ:St}{G H:Hp}{ta tb:TE}
theorem KW {la:Option (List Str)}{sb:Option Str}(ea:EV K ta σ G la)(eb:EV K tb σ G sb):EV K (tBM K "list" (Jb K) ta (Ao tb Bd)) σ G (la.bind fun xs=>sb.bind fun y=>idxL xs y):=by
 clear 7;obtain ⟨a,ha,hc⟩:=qaA.mp hc;obtain ⟨b,hb,hc⟩:=qaA.mp hc;clear 8 ea a ha;obtain ⟨l,xs,rfl,h,z,p⟩:=r2;refine ⟨.inl ⟨rfl,xs,.inl (x2.gh.rd h)⟩,?_⟩;refine eb G2 (s1.trans x2.gg) b hb H2 x2.gh _ fun w G3 H3 x3 r3=>?_;obtain ⟨rfl,_⟩:=r3;have e:=Ek p;subst e;exact ⟨l,a,b,c,rfl,rfl,.inl (x3.gh.rd (x3.gg.rd h)),hc,k _ _ _ (x2.trans x3) rfl⟩
end
end L2
namespace My
open PySem PySem.Spec PyProof.Rows L2
def BI (moment_told_:Str):Option Str :=
 ((some (decide (moment_told_=("" : Str)))).bind fun t1=>cond t1 (some ("-" : Str)) (some moment_told_))
abbrev Dl (x:Str × Unit):Option Str:=BI x.1
def BF (run_:((List Str) × (List Str))):Option Str :=
 ((some run_.1).bind fun t6=>E2 (fun (one_:Str)=>((some one_).bind fun t5=>BI t5)) t6).bind fun parts_ =>
 (some ("/" : Str)).bind fun a15=>(Cs parts_ a15).bind fun z23 =>
 ((some (" " : Str)).bind fun t43=>((some z23).bind fun t41=>((some run_.2).bind fun t40=>E2 (fun (one_:Str)=>((some one_).bind fun t39=>BI t39)) t40).bind fun t42=>catL t41 t42).bind fun t44=>HG t43 t44)
abbrev DX (x:((List Str) × (List Str)) × Unit):Option Str:=BF x.1
def Bu (CO:(List Str))(C2:(List Str)):Option Str :=
 ((some (" " : Str)).bind fun t5=>(((some CO).bind fun t1=>(some [("/" : Str)]).bind fun t2=>catL t1 t2).bind fun t3=>(some C2).bind fun t4=>catL t3 t4).bind fun t6=>HG t5 t6)
abbrev EA (x:(List Str) × (List Str) × Unit):Option Str:=Bu x.1 x.2.1
def Au (B3:Str):Option Str :=
 (some (decide (B3=("" : Str)))).bind fun b1=>cond b1
  ((some ("-" : Str)))
  ((some B3))
abbrev Ck (x:Str × Unit):Option Str:=Au x.1
def C6 (run_:((List Str) × (List Str))):Option Str :=
 (((some run_.1).bind fun t6=>E2 (fun (B3:Str)=>((some B3).bind fun t5=>Au t5)) t6).bind fun t13=>((some run_.2).bind fun t12=>E2 (fun (B3:Str)=>((some B3).bind fun t11=>Au t11)) t12).bind fun t14=>Bu t13 t14)
abbrev FN (x:((List Str) × (List Str)) × Unit):Option Str:=C6 x.1
def C7 (d_:D):Option (Except Str Unit):=((some d_).bind fun d=>some (isK "str" d)).bind fun t1=>(some (!t1)).bind fun b1=>cond b1 (some (.error "NoText")) (some (.ok ()))
abbrev Fv (x:D × Unit):Option (Except Str Unit):=C7 x.1
def B2 (thing_:Str):Option Bool :=
 (some (!true)).bind fun b1=>cond b1
  ((some false))
  ((some ("" : Str)).bind fun IF =>
  (some (GE thing_)).bind fun as17=>(ER (S:=(Str)) (ρ:=Bool) (fun (lamp_:Str) s24 =>
    (some ((decide (lamp_.cps.toList<("a" : Str).cps.toList)) || ((decide (("z" : Str).cps.toList<lamp_.cps.toList)) || (!decide (s24.cps.toList<lamp_.cps.toList))))).bind fun b39=>cond b39
     ((some false).bind fun rr49=>some (Fl.rt rr49))
     ((some lamp_).bind fun IF =>
     some (Fl.nx IF))) as17 IF).bind fun fl19=>match fl19 with
   | .nx s24 =>
    (some true)
   | .rt r=>some r
   | .bk _=>none)
abbrev DV (x:Str × Unit):Option Bool:=B2 x.1
def Ab (Bj:Str):Option (Except Str Str) :=
 (some (decide (Bj=("-" : Str)))).bind fun b1=>cond b1
  (some (.ok ("" : Str)))
  (((some (decide (Bj=("" : Str)))).bind fun t13=>cond t13 (some true) (((some Bj).bind fun t11=>B2 t11).bind fun t12=>(some (!t12)))).bind fun b14=>cond b14
   (some (.error "NoText"))
   (some (.ok Bj)))
abbrev CK (x:Str × Unit):Option (Except Str Str):=Ab x.1
def Ar (thing_:(List Str)):Option Bool :=
 (some ((!true) || (decide ((3000:Int)<(thing_.length:Int))))).bind fun b1=>cond b1
  ((some false))
  ((((some thing_).bind fun t16=>E2 (fun (B3:Str)=>((some B3).bind fun t15=>B2 t15)) t16).bind fun t17=>(some (t17.all id))))
abbrev By (x:(List Str) × Unit):Option Bool:=Ar x.1
def CH (thing_:((List Str) × (List Str))):Option Bool :=
 (some ((!true) || (!decide ((2:Int)=(2:Int))))).bind fun b1=>cond b1
  ((some false))
  ((((some thing_.1).bind fun t11=>Ar t11).bind fun t14=>cond t14 (((some thing_.2).bind fun t12=>Ar t12).bind fun t13=>cond t13 (some (decide ((0:Int)<(thing_.2.length:Int)))) (some false)) (some false)))
abbrev HB (x:((List Str) × (List Str)) × Unit):Option Bool:=CH x.1
def AL (d_:D):Option (Except Str (List Str × List Str)) :=
 ((some d_).bind fun d=>C7 d).bind fun r0=>match r0 with
 | .error n=>some (.error n)
 | .ok _=>((((some d_).bind fun d=>GM d)).bind fun t7=>(some (" " : Str)).bind fun t8=>Ev t7 t8).bind fun words_ =>
  (some (!decide (((words_.count ("/" : Str):Nat):Int)=(1:Int)))).bind fun b15=>cond b15
  (some (.error "NoText"))
  (((some words_).bind fun t20=>(some ("/" : Str)).bind fun t21=>idxL t20 t21).bind fun Hv =>
  (Ez (fun (Bj:Str)=>(some Bj).bind fun t32=>Ab t32) (Fj words_ none (some Hv))).bind fun r1=>match r1 with
  | .error n=>some (.error n)
  | .ok CO=>(Ez (fun (Bj:Str)=>(some Bj).bind fun t32=>Ab t32) (Fj words_ (some (Hv+(1:Int))) none)).bind fun r2=>match r2 with
   | .error n=>some (.error n)
   | .ok C2=>(((some (CO,C2)).bind fun t58=>CH t58).bind fun t59=>(some (!t59))).bind fun b60=>cond b60
    (some (.error "NoText"))
    (some (.ok (CO,C2))))
abbrev Hq (x:D × Unit):Option (Except Str (List Str × List Str)):=AL x.1
def Ax (text_:Str):Option (List Str × List Str):=(AL (.str text_)).bind fun r=>match r with
 | .ok b=>some b
 | .error _=>none
abbrev Bm (x:Str × Unit):Option (List Str × List Str):=Ax x.1
def B0 (C5:D)(due_:D):Option Bool :=
 ((some (!(isK "list" C5))).bind fun t6=>cond t6 (some true) (((some C5).bind fun t1=>lenD t1).bind fun t4=>((some due_).bind fun t3=>lenD t3).bind fun t5=>(some (!decide (t4=t5))))).bind fun b7=>cond b7
  ((some false))
  ((((some due_).bind fun t17=>lenD t17).bind fun t18=>IV 0 t18).bind fun as19=>(ER (S:=Unit) (ρ:=Bool) (fun (k_:Int) s26 =>
    (((some due_).bind fun t39=>(some k_).bind fun t40=>atD t39 t40).bind fun t41=>(some (isK "str" t41))).bind fun b42=>cond b42
     ((((((some C5).bind fun t47=>(some k_).bind fun t48=>atD t47 t48).bind fun t49=>(some (isK "str" t49))).bind fun t50=>(some (!t50))).bind fun t65=>cond t65 (some true) ((((some C5).bind fun t57=>(some k_).bind fun t58=>atD t57 t58).bind fun t59=>K3 t59).bind fun t63=>(((some due_).bind fun t60=>(some k_).bind fun t61=>atD t60 t61).bind fun t62=>K3 t62).bind fun t64=>(some (!decide (t63=t64))))).bind fun b66=>cond b66
      ((some false).bind fun rr76=>some (Fl.rt rr76))
      (some (Fl.nx ())))
     ((((((some C5).bind fun t78=>(some k_).bind fun t79=>atD t78 t79).bind fun t80=>(some (isK "int" t80))).bind fun t81=>(some (!t81))).bind fun t100=>cond t100 (some true) ((((some C5).bind fun t82=>(some k_).bind fun t83=>atD t82 t83).bind fun t84=>(some (isK "bool" t84))).bind fun t99=>cond t99 (some true) ((((some C5).bind fun t91=>(some k_).bind fun t92=>atD t91 t92).bind fun t93=>K3 t93).bind fun t97=>(((some due_).bind fun t94=>(some k_).bind fun t95=>atD t94 t95).bind fun t96=>K3 t96).bind fun t98=>(some (!decide (t97=t98)))))).bind fun b101=>cond b101
      ((some false).bind fun rr111=>some (Fl.rt rr111))
      (some (Fl.nx ())))) as19 ()).bind fun fl21=>match fl21 with
   | .nx s26 =>
    (some true)
   | .rt r=>some r
   | .bk _=>none)
abbrev Cz (x:D × D × Unit):Option Bool:=B0 x.1 x.2.1
def AZ (C5:((List Str) × (List Str)))(due_:D):Option Bool :=
 (some ((!true) || (!decide ((2:Int)=(2:Int))))).bind fun b1=>cond b1
  ((some false))
  ((((some (ToD.to C5.1)).bind fun t13=>((some due_).bind fun t11=>(some (0:Int)).bind fun t12=>atD t11 t12).bind fun t14=>B0 t13 t14).bind fun t19=>cond t19 ((some (ToD.to C5.2)).bind fun t17=>((some due_).bind fun t15=>(some (1:Int)).bind fun t16=>atD t15 t16).bind fun t18=>B0 t17 t18) (some false)))
abbrev BR (x:((List Str) × (List Str)) × D × Unit):Option Bool:=AZ x.1 x.2.1
def Ah (B9:Int):Option Str :=
 (some ("abcdefghijklmnopqrstuvwxyz" : Str)).bind fun row_ =>
 (some (decide ((B9 % (5:Int))=(0:Int)))).bind fun b7=>cond b7
  ((some ("" : Str)))
  ((some (decide ((B9 % (5:Int))<(3:Int)))).bind fun b17=>cond b17
   (((some row_).bind fun t22=>(some ((B9 / (5:Int)) % (26:Int))).bind fun t23=>(atI t22.cps.toList t23).bind fun z=>some (⟨#[z]⟩:Str)))
   ((some ("" : Str)).bind fun text_ =>
   ((some (26:Int)).bind fun t35=>IV 0 t35).bind fun as36=>(ER (S:=(Str)) (ρ:=Str) (fun (k_:Int) s43 =>
     ((((some B9).bind fun t61=>(((some k_).bind fun t58=>(some k_).bind fun t59=>Im t58 t59).bind fun t60=>(some ((5:Int)+t60))).bind fun t62=>KF t61 t62).bind fun t65=>((some [(2:Int),(9:Int),(3:Int)]).bind fun t63=>(some (k_ % (3:Int))).bind fun t64=>atI t63 t64).bind fun t66=>II t65 t66).bind fun t67=>(some (decide (t67=(0:Int))))).bind fun b68=>cond b68
      (((some s43).bind fun t75=>((some row_).bind fun t73=>(some k_).bind fun t74=>(atI t73.cps.toList t74).bind fun z=>some (⟨#[z]⟩:Str)).bind fun t76=>F0 t75 t76).bind fun text_ =>
      some (Fl.nx text_))
      (some (Fl.nx s43))) as36 text_).bind fun fl38=>match fl38 with
    | .nx s43 =>
     (some s43)
    | .rt r=>some r
    | .bk _=>none))
abbrev C9 (x:Int × Unit):Option Str:=Ah x.1
def BQ (text_:Str)(B9:Int):Option Str :=
 (some ("abcdefghijklmnopqrstuvwxyz  //--AZ09;,~!" : Str)).bind fun signs_ =>
 ((some signs_).bind fun t7=>(some ((B9 / (5:Int)) % (40:Int))).bind fun t8=>(atI t7.cps.toList t8).bind fun z=>some (⟨#[z]⟩:Str)).bind fun new_ =>
 ((some (((B9 / (200:Int)) * (48271:Int)) % (2147483647:Int))).bind fun t15=>(some ((text_.length:Int)+(1:Int))).bind fun t16=>II t15 t16).bind fun at_ =>
 (some (B9 % (5:Int))).bind fun way_ =>
 (some (decide (way_=(0:Int)))).bind fun b29=>cond b29
  ((((some (Txt.slice text_ none (some at_))).bind fun t34=>(some new_).bind fun t35=>F0 t34 t35).bind fun t36=>(some (Txt.slice text_ (some (at_+(1:Int))) none)).bind fun t37=>F0 t36 t37))
  ((some (decide (way_=(1:Int)))).bind fun b43=>cond b43
   ((((some (Txt.slice text_ none (some at_))).bind fun t48=>(some new_).bind fun t49=>F0 t48 t49).bind fun t50=>(some (Txt.slice text_ (some at_) none)).bind fun t51=>F0 t50 t51))
   ((some (decide (way_=(2:Int)))).bind fun b57=>cond b57
    (((some (Txt.slice text_ none (some at_))).bind fun t62=>(some (Txt.slice text_ (some (at_+(1:Int))) none)).bind fun t63=>F0 t62 t63))
    ((some (decide (way_=(3:Int)))).bind fun b69=>cond b69
     (((some (Txt.slice text_ (some (at_+(1:Int))) (some (at_+(2:Int))))).bind fun t74=>(some (Txt.slice text_ (some at_) (some (at_+(1:Int))))).bind fun t75=>F0 t74 t75).bind fun JJ =>
     (((some (Txt.slice text_ none (some at_))).bind fun t82=>(some JJ).bind fun t83=>F0 t82 t83).bind fun t84=>(some (Txt.slice text_ (some (at_+(2:Int))) none)).bind fun t85=>F0 t84 t85))
     ((some text_)))))
abbrev Df (x:Str × Int × Unit):Option Str:=BQ x.1 x.2.1
def Ay (part_:Str):Option (Option Str) :=
 (some (decide (part_=("-" : Str)))).bind fun b1=>cond b1
  ((some (some ("" : Str))))
  (((some (part_.length:Int)).bind fun t11=>IV 0 t11).bind fun as12=>(ER (S:=Unit) (ρ:=(Option Str)) (fun (k_:Int) s19 =>
    ((((some part_).bind fun t32=>(some k_).bind fun t33=>(atI t32.cps.toList t33).bind fun z=>some (⟨#[z]⟩:Str)).bind fun t34=>(some (!inS t34 ("abcdefghijklmnopqrstuvwxyz" : Str)))).bind fun t42=>cond t42 (some true) ((some (decide ((0:Int)<k_))).bind fun t41=>cond t41 (((some part_).bind fun t35=>(some (k_ - (1:Int))).bind fun t36=>(atI t35.cps.toList t36).bind fun z=>some (⟨#[z]⟩:Str)).bind fun t39=>((some part_).bind fun t37=>(some k_).bind fun t38=>(atI t37.cps.toList t38).bind fun z=>some (⟨#[z]⟩:Str)).bind fun t40=>(some (!decide (t39.cps.toList<t40.cps.toList)))) (some false))).bind fun b43=>cond b43
     ((some none).bind fun rr53=>some (Fl.rt rr53))
     (some (Fl.nx ()))) as12 ()).bind fun fl14=>match fl14 with
   | .nx s19 =>
    ((some (decide (part_=("" : Str)))).bind fun t59=>cond t59 (some none) (some (some part_)))
   | .rt r=>some r
   | .bk _=>none)
abbrev D8 (x:Str × Unit):Option (Option Str):=Ay x.1
def Ag (text_:Str):Option (Option ((List (Option Str)) × (List (Option Str)))) :=
 ((some text_).bind fun t1=>(some (" " : Str)).bind fun t2=>Ev t1 t2).bind fun as3=>(ER (S:=List (List (Option Str))) (ρ:=Unit) (fun (part_:Str) s10 =>
   (some (decide (part_=("/" : Str)))).bind fun b23=>cond b23
    ((Cs s10 ([]:List (Option Str))).bind fun z=>some (Fl.nx z))
    (((some part_).bind fun t1=>Ay t1).bind fun x=>(IQ s10 (-(1:Int)) x).bind fun z=>some (Fl.nx z))) as3 [[]]).bind fun fl5=>match fl5 with
  | .nx sides_=>((some (!decide ((sides_.length:Int)=(2:Int)))).bind fun t14=>cond t14 (some true) (((some none).bind fun t3=>((some sides_).bind fun t1=>(some (0:Int)).bind fun t2=>atI t1 t2).bind fun t4=>some (JB t3 t4)).bind fun t13=>cond t13 (some true) (((some none).bind fun t7=>((some sides_).bind fun t5=>(some (1:Int)).bind fun t6=>atI t5 t6).bind fun t8=>some (JB t7 t8)).bind fun t12=>cond t12 (some true) (((some sides_).bind fun t9=>(some (1:Int)).bind fun t10=>atI t9 t10).bind fun t11=>(some (decide (t11=([]:List (Option Str))))))))).bind fun b15=>cond b15
   ((some none))
   (((((some sides_).bind fun t25=>(some (0:Int)).bind fun t26=>atI t25 t26).bind fun t29=>((some sides_).bind fun t27=>(some (1:Int)).bind fun t28=>atI t27 t28).bind fun t30=>(some (t29,t30))).bind fun t31=>(some (some t31))))
  | .rt _=>none
  | .bk _=>none
abbrev Dj (x:Str × Unit):Option (Option ((List (Option Str)) × (List (Option Str)))):=Ag x.1
def AU (script_:Scr)(k_:Int):Option Int :=
 (some (decide (k_<(script_.l.length:Int)))).bind fun b1=>cond b1
  (((some script_).bind fun t6=>(some k_).bind fun t7=>atI t6.l t7))
  ((some ((k_ * (7919:Int))+(5:Int))).bind fun Eo =>
  (some (decide ((0:Int)<(script_.l.length:Int)))).bind fun b19=>(cond b19
   ((((((some script_).bind fun t32=>((some (k_ * (7:Int))).bind fun t30=>(some (script_.l.length:Int)).bind fun t31=>II t30 t31).bind fun t33=>atI t32.l t33).bind fun t34=>(some (t34 * (48271:Int)))).bind fun t35=>(some (t35+(k_ * (7919:Int))))).bind fun t36=>(some (t36 % (2147483647:Int)))).bind fun Eo =>
   some Eo)
   (some Eo)).bind fun s24 =>
  (((some s24).bind fun t46=>(some s24).bind fun t47=>Im t46 t47).bind fun t48=>(some (t48 % (2147483629:Int)))))
abbrev Ae (x:Scr × Int × Unit):Option Int:=AU x.1 x.2.1
def BS (thing_:D):Option Bool:=(AL thing_).bind fun r=>match r with
 | .error n=>if n=("NoText" : Str) then some true else none
 | .ok _=>none
abbrev Di (x:D × Unit):Option Bool:=BS x.1
def IJ (script_:Scr):Option Bool :=
 (((((some script_).bind fun t1=>(some (0:Int)).bind fun t2=>AU t1 t2).bind fun t3=>(some (t3 % (9:Int)))).bind fun t4=>IV 0 t4).bind fun t13=>E2 (fun (k_:Int)=>((((some script_).bind fun t9=>(some ((2:Int)+k_)).bind fun t10=>AU t9 t10).bind fun t11=>(some (if t11<0 then -t11 else t11))).bind fun t12=>Ah t12)) t13).bind fun CO =>
 ((((((some script_).bind fun t20=>(some (1:Int)).bind fun t21=>AU t20 t21).bind fun t22=>(some (t22 % (8:Int)))).bind fun t23=>(some ((1:Int)+t23))).bind fun t24=>IV 0 t24).bind fun t33=>E2 (fun (k_:Int)=>((((some script_).bind fun t29=>(some ((10:Int)+k_)).bind fun t30=>AU t29 t30).bind fun t31=>(some (if t31<0 then -t31 else t31))).bind fun t32=>Ah t32)) t33).bind fun C2 =>
 (((((some script_).bind fun t40=>(some (0:Int)).bind fun t41=>AU t40 t41).bind fun t42=>(some (t42 / (9:Int)))).bind fun t43=>(some (t43 % (9:Int)))).bind fun t44=>(some (decide (t44=(4:Int))))).bind fun b45=>(cond b45
  (((some (Fj CO none (some (4:Int)))).bind fun t61=>(((((some script_).bind fun t56=>(some (0:Int)).bind fun t57=>AU t56 t57).bind fun t58=>(some (t58 / (81:Int)))).bind fun t59=>(some (t59 % (70:Int)))).bind fun t60=>(some ((1:Int)+t60))).bind fun t62=>repL t61 t62).bind fun CO =>
  some CO)
  (some CO)).bind fun s50 =>
 ((some (s50,C2)).bind fun t72=>BF t72).bind fun text_ =>
 (some (s50,C2)).bind fun HK =>
 ((some HK).bind fun t85=>C6 t85).bind fun C5 =>
 (some ((!true) || ((!decide (C5=text_)) || (!decide (HK=(s50,C2)))))).bind fun b92=>cond b92
  ((some false))
  ((some (ToD.to text_)).bind fun Bb =>
  ((((some script_).bind fun t108=>(some (20:Int)).bind fun t109=>AU t108 t109).bind fun t110=>(some (t110 % (4:Int)))).bind fun t111=>IV 0 t111).bind fun as112=>(ER (S:=(D)) (ρ:=Bool) (fun (k_:Int) s119 =>
    ((((some s119).bind fun t134=>GM t134).bind fun t138=>(((some script_).bind fun t135=>(some ((21:Int)+k_)).bind fun t136=>AU t135 t136).bind fun t137=>(some (if t137<0 then -t137 else t137))).bind fun t139=>BQ t138 t139).bind fun t140=>(some (ToD.to t140))).bind fun Bb =>
    some (Fl.nx Bb)) as112 Bb).bind fun fl114=>match fl114 with
   | .nx s119 =>
    (((((some script_).bind fun t153=>(some (20:Int)).bind fun t154=>AU t153 t154).bind fun t155=>(some (t155 / (4:Int)))).bind fun t156=>(some (t156 % (9:Int)))).bind fun t157=>(some (decide (t157=(8:Int))))).bind fun b158=>(cond b158
     (((some [(ToD.to ()),(ToD.to (7:Int)),(ToD.to [(ToD.to ("/" : Str)),(ToD.to ("a" : Str))]),(ToD.to (Tp.mk [(ToD.to [(ToD.to ("a" : Str))]),(ToD.to [(ToD.to ("b" : Str))])])),(ToD.to true),D.dic,(ToD.to ("" : Str)),(ToD.to ("/" : Str)),(ToD.to ("/ " : Str)),(ToD.to (" / a" : Str))]).bind fun t172=>(((some script_).bind fun t169=>(some (24:Int)).bind fun t170=>AU t169 t170).bind fun t171=>(some (t171 % (10:Int)))).bind fun t173=>atI t172 t173).bind fun Bb =>
     some Bb)
     (some s119)).bind fun s163 =>
    (((((some script_).bind fun t183=>(some (20:Int)).bind fun t184=>AU t183 t184).bind fun t185=>(some (t185 / (36:Int)))).bind fun t186=>(some (t186 % (9:Int)))).bind fun t187=>(some (decide (t187=(4:Int))))).bind fun b188=>(cond b188
     (((((some script_).bind fun t201=>(some (24:Int)).bind fun t202=>AU t201 t202).bind fun t203=>(some (t203 % (2:Int)))).bind fun t204=>(some ((3000:Int)+t204))).bind fun many_ =>
     ((((((some ("a " : Str)).bind fun t211=>(some many_).bind fun t212=>Iu t211 t212).bind fun t213=>(some ("/ b" : Str)).bind fun t214=>F0 t213 t214).bind fun t220=>(((some ("b /" : Str)).bind fun t217=>((some (" a" : Str)).bind fun t215=>(some many_).bind fun t216=>Iu t215 t216).bind fun t218=>F0 t217 t218).bind fun t219=>(some [t219])).bind fun t221=>(some (t220::t221))).bind fun t226=>((((some script_).bind fun t222=>(some (24:Int)).bind fun t223=>AU t222 t223).bind fun t224=>(some (t224 / (2:Int)))).bind fun t225=>(some (t225 % (2:Int)))).bind fun t227=>atI t226 t227).bind fun t228=>(some (ToD.to t228))).bind fun Bb =>
     some Bb)
     (some s163)).bind fun s193 =>
    (some none).bind fun due_ =>
    (some (isK "str" s193)).bind fun b244=>(cond b244
     ((((some s193).bind fun t255=>GM t255).bind fun t256=>Ag t256).bind fun due_ =>
     some due_)
     (some due_)).bind fun s249 =>
    ((some s249.isSome).bind fun t275=>cond t275 ((((((some s249).bind fun t266=>t266).bind fun t267=>(some t267.1)).bind fun t268=>(some (t268.length:Int))).bind fun t272=>((((some s249).bind fun t269=>t269).bind fun t270=>(some t270.2)).bind fun t271=>(some (t271.length:Int))).bind fun t273=>(some (if t273 > t272 then t273 else t272))).bind fun t274=>(some (decide ((3000:Int)<t274)))) (some false)).bind fun b276=>(cond b276
     ((some none).bind fun due_ =>
     some due_)
     (some s249)).bind fun s281 =>
    (some s281.isNone).bind fun b296=>cond b296
     ((((some s193).bind fun t301=>BS t301).bind fun t302=>(some (!t302))).bind fun b303=>cond b303
      ((some false))
      (((some text_).bind fun t313=>Ax t313).bind fun EO =>
      (((some EO).bind fun t329=>(some (ToD.to (Tp.mk [(ToD.to s50),(ToD.to C2)]))).bind fun t330=>AZ t329 t330).bind fun t331=>(some (!t331))).bind fun b332=>cond b332
       ((some false))
       ((some ("a" : Str)).bind fun a342=>(Cs EO.1 a342).bind fun z350 =>
       (((some text_).bind fun t352=>Ax t352).bind fun t353=>(some (ToD.to (Tp.mk [(ToD.to s50),(ToD.to C2)]))).bind fun t354=>AZ t353 t354))))
     ((((((some s193).bind fun t360=>GM t360).bind fun t361=>Ax t361).bind fun t362=>(some (ToD.to s281)).bind fun t363=>AZ t362 t363).bind fun t364=>(some (!t364))).bind fun b365=>cond b365
      ((some false))
      (((some text_).bind fun t375=>Ax t375).bind fun EO =>
      (((some EO).bind fun t391=>(some (ToD.to (Tp.mk [(ToD.to s50),(ToD.to C2)]))).bind fun t392=>AZ t391 t392).bind fun t393=>(some (!t393))).bind fun b394=>cond b394
       ((some false))
       ((some ("a" : Str)).bind fun a404=>(Cs EO.1 a404).bind fun z412 =>
       (((some text_).bind fun t414=>Ax t414).bind fun t415=>(some (ToD.to (Tp.mk [(ToD.to s50),(ToD.to C2)]))).bind fun t416=>AZ t415 t416))))
   | .rt r=>some r
   | .bk _=>none)
abbrev mm_law (x:Scr × Unit):Option Bool:=IJ x.1
def top (i:Nat):Stmt:=PySem.Challenge.pw_lassoscribe_k87_runs_written_and_read.main.body.getD i (.Pass ⟨0,0,0,0⟩)
abbrev Dh:Stmt:=top 11
abbrev C4:Stmt:=top 14
abbrev Fi:Stmt:=top 15
abbrev D2:Stmt:=top 17
abbrev DL:Stmt:=top 18
abbrev EK:Stmt:=top 19
abbrev BX:Stmt:=top 20
abbrev D3:Stmt:=top 21
abbrev EH:Stmt:=top 22
abbrev ET:Stmt:=top 24
abbrev CI:Stmt:=top 25
abbrev EQ:Stmt:=top 26
abbrev Cb:Stmt:=top 27
abbrev CJ:Stmt:=top 28
abbrev D0:Stmt:=top 29
abbrev Cu:Stmt:=top 30
abbrev Cy:Stmt:=top 31
abbrev Ct:Stmt:=top 32
abbrev DF:Stmt:=top 33
abbrev DU:Stmt:=top 34
abbrev s_law:Stmt:=top 35
structure Txt (mg:Str->Option Value):Prop where
 ValueError_:mg "ValueError" = none
 abs_:mg "abs" = none
 all_:mg "all" = none
 bool_:mg "bool" = none
 int_:mg "int" = none
 isinstance_:mg "isinstance" = none
 len_:mg "len" = none
 list_:mg "list" = none
 max_:mg "max" = none
 range_:mg "range" = none
 str_:mg "str" = none
 tuple_:mg "tuple" = none
 MOST_MOMENTS:∃ t,mg "MOST_MOMENTS" = some (.int 3000 t)
theorem CW:FnScope ["thing","last","lamp"] ["thing"] (AA Dh):=scm
theorem Et:FnScope ["thing"] ["thing"] (AA C4):=scm
theorem K0:FnScope ["thing"] ["thing"] (AA Fi):=scm
theorem Fz:FnScope ["moment"] ["moment"] (AA D2):=scm
theorem GY:FnScope ["stem","ring"] ["stem","ring"] (AA DL):=scm
theorem Ib:FnScope ["run"] ["run"] (AA EK):=scm
theorem Dd:FnScope ["thing"] ["thing"] (AA BX):=scm
theorem Fo:FnScope ["word"] ["word"] (AA D3):=scm
theorem CG:FnScope ["text","words","middle","stem","ring"] ["text"] (AA EH):=scm
theorem Dn:FnScope ["_law_script","_law_k","_law_number"] ["_law_script","_law_k"] (AA ET):=scm
theorem BH:FnScope ["_law_cell_here","_law_row","_law_text","_law_k"] ["_law_cell_here"] (AA CI):=scm
theorem IU:FnScope ["_law_moment_told"] ["_law_moment_told"] (AA EQ):=scm
theorem DY:FnScope ["_law_run","_law_parts"] ["_law_run"] (AA Cb):=scm
theorem DB:FnScope ["_law_part","_law_k"] ["_law_part"] (AA CJ):=scm
theorem Ce:FnScope ["_law_text","_law_sides","_law_part"] ["_law_text"] (AA D0):=scm
theorem BG:FnScope ["_law_text","_law_cell_here","_law_signs","_law_new","_law_at","_law_way","_law_turned"] ["_law_text","_law_cell_here"] (AA Cu):=scm
theorem Ca:FnScope ["_law_error","_law_some"] ["_law_error"] (AA Cy):=scm
theorem Bs:FnScope ["_law_thing","_law_told","_law_error"] ["_law_thing"] (AA Ct):=scm
theorem E5:FnScope ["_law_found","_law_due","_law_k"] ["_law_found","_law_due"] (AA DF):=scm
theorem GW:FnScope ["_law_found","_law_due"] ["_law_found","_law_due"] (AA DU):=scm
theorem BZ:FnScope ["_law_script","_law_stem","_law_ring","_law_text","_law_handed","_law_found","_law_spoiled","_law_k","_law_many","_law_due","_law_first"] ["_law_script"] (AA s_law):=scm
def Hj (K:FZ9):Sp:=fun vs H Q _=>∃ (a:Addr) (ns:List Int),vs=[.ref a]/\SqL K H a (ns.map V.int)/\ns.length<=63/\∀ H',Q (.bl true) H'
structure XT (K:FZ9)(mg:Str->Option Value)(aS aT aR aW aM aE aC aX aN:Addr):Prop where
 naS:mg "ScribeError" = some (.ref aS)
 naT:mg "NoText" = some (.ref aT)
 naR:mg "NoRun" = some (.ref aR)
 naW:mg "NoRow" = some (.ref aW)
 naM:mg "NoMoment" = some (.ref aM)
 naE:mg "NoSentence" = some (.ref aE)
 naC:mg "NoMachine" = some (.ref aC)
 naX:mg "TooMuch" = some (.ref aX)
 naN:mg "NoName" = some (.ref aN)
 kit:XKit K aT
 ex:PySem.W.exmOne K (.ref aT) (.ref aS)=some true
 kT:PySem.W.kitOne K (.ref aT) (.ref aT)=some true
 kV:PySem.W.kitOne K (.ref aT) (.type "ValueError")=some true
 kR:PySem.W.kitOne K (.ref aT) (.ref aR)=some false
 kW:PySem.W.kitOne K (.ref aT) (.ref aW)=some false
 kM:PySem.W.kitOne K (.ref aT) (.ref aM)=some false
 kE:PySem.W.kitOne K (.ref aT) (.ref aE)=some false
 kC:PySem.W.kitOne K (.ref aT) (.ref aC)=some false
 kX:PySem.W.kitOne K (.ref aT) (.ref aX)=some false
 kN:PySem.W.kitOne K (.ref aT) (.ref aN)=some false
def XC (K:FZ9):Prop:=∃ aS aT aR aW aM aE aC aX aN:Addr,(qjB K mainGlobals "ScribeError" = some (some (.ref aS))/\qjB K mainGlobals "NoText" = some (some (.ref aT))/\qjB K mainGlobals "NoRun" = some (some (.ref aR))/\qjB K mainGlobals "NoRow" = some (some (.ref aW))/\qjB K mainGlobals "NoMoment" = some (some (.ref aM))/\qjB K mainGlobals "NoSentence" = some (some (.ref aE))/\qjB K mainGlobals "NoMachine" = some (some (.ref aC))/\qjB K mainGlobals "TooMuch" = some (some (.ref aX))/\qjB K mainGlobals "NoName" = some (some (.ref aN)))/\PySem.W.excIn K aT bmV "ValueError.__new__" = true/\XKits K aT/\PySem.W.exmOne K (.ref aT) (.ref aS)=some true/\PySem.W.kitOne K (.ref aT) (.ref aT)=some true/\PySem.W.kitOne K (.ref aT) (.type "ValueError")=some true/\PySem.W.kitOne K (.ref aT) (.ref aR)=some false/\PySem.W.kitOne K (.ref aT) (.ref aW)=some false/\PySem.W.kitOne K (.ref aT) (.ref aM)=some false/\PySem.W.kitOne K (.ref aT) (.ref aE)=some false/\PySem.W.kitOne K (.ref aT) (.ref aC)=some false/\PySem.W.kitOne K (.ref aT) (.ref aX)=some false/\PySem.W.kitOne K (.ref aT) (.ref aN)=some false
def clsL:List Bool:=[true,true,false,false,false,false,false,false,false]
def spC (K:FZ9)(aT:Addr):Sp:=fun vs H Q _=>∃ G v,vs=[v]/\Same G H/\Rp.rel K G v (Exn.mk aT)/\∀ v G2 H2,Ext G H G2 H2->Rp.rel K G2 v clsL->Q v H2
theorem xc_mk {K:FZ9}{aS aT aR aW aM aE aC aX aN:Addr}{cd:ClassData}(n1:qjB K mainGlobals "ScribeError" = some (some (.ref aS)))(n2:qjB K mainGlobals "NoText" = some (some (.ref aT)))(n3:qjB K mainGlobals "NoRun" = some (some (.ref aR)))(n4:qjB K mainGlobals "NoRow" = some (some (.ref aW)))(n5:qjB K mainGlobals "NoMoment" = some (some (.ref aM)))(n6:qjB K mainGlobals "NoSentence" = some (some (.ref aE)))(n7:qjB K mainGlobals "NoMachine" = some (some (.ref aC)))(n8:qjB K mainGlobals "TooMuch" = some (some (.ref aX)))(n9:qjB K mainGlobals "NoName" = some (some (.ref aN)))(xe:PySem.W.excIn K aT bmV "ValueError.__new__" = true)(c1:PySem.W.clsIn K aT=some cd)
  (c2:PySem.W.findIn K (.ref aT) "__getattribute__" = some (some (.builtin "BaseException.__getattribute__"))) (c3:PySem.W.findIn K (.ref aT) "__getattr__" = some none) (c4:PySem.W.findIn K (.ref aT) "__class__" = some (some (.builtin "object.__class__")))
  (c5:PySem.W.specialIn K (.builtin "object.__class__") "__get__" = some (some (.builtin "getset_descriptor.__get__"))) (c6:PySem.W.takesIn K (.builtin "object.__class__")=some true) (c7:PySem.W.mroIn K aT (.type "object")=some true) (c8:PySem.W.mroIn K aT (.type "BaseException")=some true)
  (xm:PySem.W.exmOne K (.ref aT) (.ref aS)=some true) (k1:PySem.W.kitOne K (.ref aT) (.ref aT)=some true) (k2:PySem.W.kitOne K (.ref aT) (.type "ValueError")=some true) (k3:PySem.W.kitOne K (.ref aT) (.ref aR)=some false) (k4:PySem.W.kitOne K (.ref aT) (.ref aW)=some false) (k5:PySem.W.kitOne K (.ref aT) (.ref aM)=some false) (k6:PySem.W.kitOne K (.ref aT) (.ref aE)=some false) (k7:PySem.W.kitOne K (.ref aT) (.ref aC)=some false) (k8:PySem.W.kitOne K (.ref aT) (.ref aX)=some false) (k9:PySem.W.kitOne K (.ref aT) (.ref aN)=some false):XC K :=
 ⟨aS,aT,aR,aW,aM,aE,aC,aX,aN,⟨n1,n2,n3,n4,n5,n6,n7,n8,n9⟩,xe,⟨⟨cd,c1⟩,c2,c3,c4,c5,c6,c7,c8⟩,xm,k1,k2,k3,k4,k5,k6,k7,k8,k9⟩
section
variable (P:Program)(w:World)(K:FZ9)(mg:Str->Option Value)(base:Heap)
abbrev Fd:Prop:=DefOk P w K mg base "_law_word" 1 ["_law_moment_told"] (spM K Dl)
abbrev Dm:Prop:=DefOk P w K mg base "_law_run_text" 2 ["_law_run"] (spM K DX)
abbrev EX:Prop:=DefOk P w K mg base "show_round" 1 ["stem","ring"] (spM K EA)
abbrev E9:Prop:=DefOk P w K mg base "show_moment" 1 ["moment"] (spM K Ck)
abbrev Fm:Prop:=DefOk P w K mg base "show_run" 2 ["run"] (spM K FN)
abbrev CF:Prop:=DefE P w K mg base "refuse_other_kinds" 1 ["thing"] (spX K mg Fv)
abbrev Dp:Prop:=DefOk P w K mg base "is_moment" 1 ["thing"] (spM K DV)
abbrev E7:Prop:=DefE P w K mg base "read_moment" 2 ["word"] (spX K mg CK)
abbrev DC:Prop:=DefOk P w K mg base "is_moment_list" 2 ["thing"] (spM K By)
abbrev IK:Prop:=DefOk P w K mg base "is_run" 3 ["thing"] (spM K HB)
abbrev Fs:Prop:=DefOk P w K mg base "read_run" 4 ["text"] (spN K Bm)
abbrev EN:Prop:=DefE P w K mg base "read_run" 4 ["text"] (spXN K mg Hq)
abbrev Ei:Prop:=DefOk P w K mg base "_law_listed" 1 ["_law_found","_law_due"] (spM K Cz)
abbrev Eg:Prop:=DefOk P w K mg base "_law_is_run" 2 ["_law_found","_law_due"] (spM K BR)
abbrev Da:Prop:=DefOk P w K mg base "_law_moment_of" 1 ["_law_cell_here"] (spM K C9)
abbrev E3:Prop:=DefOk P w K mg base "_law_changed" 1 ["_law_text","_law_cell_here"] (spM K Df)
abbrev DW:Prop:=DefOk P w K mg base "_law_read_word" 1 ["_law_part"] (spM K D8)
abbrev EB:Prop:=DefOk P w K mg base "_law_read_of" 2 ["_law_text"] (spM K Dj)
abbrev Fc:Prop:=DefOk P w K mg base "_law_cell" 1 ["_law_script","_law_k"] (spM K Ae)
abbrev E6 (aT:Addr):Prop:=DefH P w K mg base "_law_classes" 1 ["_law_error"] (spC K aT)
abbrev EC:Prop:=DefOk P w K mg base "_law_no_text" 5 ["_law_thing"] (spM K Di)
end
section
variable {P:Program}{w:World}{K:FZ9}{mg:Str->Option Value}{base:Heap}
theorem IN (F:DIn K mg "_law_word" EQ)(T:Txt mg):Fd P w K mg base:=by
 refine F.okM1 (m:=BI) IU fun _ _ _ _ _ H0 _ _ hr G0 moment_told_ res v_moment_told_ xt Do hm q=>?_;unfold BI at hm
 refine ⟨_,(A3 (AO (Ia (AG CN (pv 0) AQ (AW _)) AQ (pv 0)))
   A4),?_⟩
 exact AN (K:=K) (ev_ifx (AI (K:=K) (EL (A7 Do) BD)) BD (A7 Do)) hm xt.gh fun v2 G3 H4 x5 r6=>q v2 G3 H4 (xt.trans x5) r6
local macro_rules | `(tactic| ac_rfl) => `(tactic| first | assumption | exact Ne.symm (by assumption))
local macro_rules
 | `(tactic| clear $n:num $rs*) => do
  let hm := Lean.mkIdent `hm
  let xt := Lean.mkIdent `xt
  let q := Lean.mkIdent `q
  let rf := Lean.mkIdent `rfl
  let w : Array Lean.Ident := rs.map fun r => ⟨r.raw⟩
  match n.getNat with
  | 2 =>
   let mut ts := #[]
   for k in [0:w.size/2] do
    let a := w[2*k]!
    let b := w[2*k+1]!
    ts := ts.push (← `(tactic| refine bE $hm fun $a $b $hm => ?_))
   `(tactic| ($[$ts:tactic];*))
  | 3 => `(tactic| (replace $hm := cT $hm; refine B7 ?_))
  | 4 => `(tactic| (replace $hm := cF $hm; refine B8 ?_))
  | 5 => `(tactic| (rintro r' v' G' H' $rf:ident rl; cases $hm:ident; exact $q v' G' H' rl.1 rl.2))
  | 6 => let k := w[0]!; `(tactic| (rintro r' v' G' H' $rf:ident rl; cases $hm:ident; exact $k _ v' G' H' rfl rl))
  | 9 =>
   let x := w[0]!
   let ts ← (w.extract 1 w.size).mapM fun (i : Lean.Ident) => `(tactic| have $i := Rp.mono $x $i)
   `(tactic| ($[$ts:tactic];*))
  | z =>
   if z > 1 then Lean.Macro.throwUnsupported
   let x := w[0]!
   let mut m := 1
   let mut ts := #[]
   let mut hs := #[]
   for i in w.extract 1 w.size do
    if let some k := i.raw.isNatLit? then m := k
    else if m == 4 then hs := hs.push (← `(tactic| have $i := ($xt).hh.free $i))
    else ts := ts.push (← match m with
     | 1 => `(tactic| have $i := Rp.mono ($x).gg $i)
     | 2 => `(tactic| have $i := ($i).ext $x)
     | _ => `(tactic| have $i := ($i).trans ($x).gg))
   if z == 1 then hs := hs.push (← `(tactic| have $xt := ($xt).trans $x))
   let zs := hs ++ ts
   `(tactic| ($[$zs:tactic];*))
theorem FR (F:DIn K mg "_law_run_text" Cb)(T:Txt mg)(DP:Fd P w K mg base):Dm P w K mg base:=by
 refine F.okM1 (m:=BF) DY fun _ _ _ _ _ H0 _ _ hr G0 run_ res v_run_ xt Cj hm q=>?_;unfold BF at hm
 refine ⟨_,(A3 (EI (i:=1) (Eb DY) rfl (Or.inl rfl) (cn:=[]) (cap:=[]) rfl ⟨by decide +kernel,rfl,by decide +kernel,CP rfl⟩ rfl (by decide +kernel) trivial (CQ (K:=K) rfl (AV K (pv 0) A8)) (fun C s0 H0 fp=>⟨CV,(AX DP hr (by decide) rfl (A2 (pv 0) A5))⟩))
   (A3 (DQ (DT K (pv 1) AQ))
   (A3 (AO (EF (K:=K) rfl PySem.F.plainAttrs_str PySem.F.slot_str_join PySem.F.type_str_join (IP (K:=K) rfl) AQ (A2 (AH K (pv 1) (FW (cn:=[]) (cap:=[]) rfl ⟨by decide +kernel,rfl,by decide +kernel,CP rfl⟩ rfl (by decide +kernel) trivial (CQ (K:=K) rfl (AV K (pv 0) A8)) (fun C s0 H0 fp=>⟨CV,(AX DP hr (by decide) rfl (A2 (pv 0) A5))⟩))) A5)))
   A4))),?_⟩
 clear 2 parts_ h14;refine sv_own (K:=K) (ES (cap:=[]) (fe:=fun (one_:Str)=>((some one_).bind fun t5=>BI t5)) (Cr (Fq (A7 Cj))) fun xc4 one_ Gc1 sc2 rc3=>(BA (m:=Dl) (A7 rc3))) h14 xt.gh fun p7 vs8 G9 H10 x11 hz12 o13=>?_;clear 1 x11 Cj 4 hz12;clear 2 a15 h16 z23 h17;refine Jz (K:=K) rfl o13 BD h16 h17 xt.gh fun G18 H19 w20 x21 o22=>?_;have xt:Ext G0 H0 G18 (upd H19 p7 (.lst (vs8++[w20]))):=(xt.trans x21).put hz12 o22.g;clear 0 x21 Cj;have sf:=Same.new (o:=.lst (vs8++[w20])) o22.g;have xt:=xt.frz hz12 o22.g o22.h;have r34:=o22.tell;clear 9 sf Cj;exact AN (K:=K) (JV BD (FV.ev (Ey (A7 r34) (FV.ev (ES (cap:=[]) (fe:=fun (one_:Str)=>((some one_).bind fun t39=>BI t39)) (Cr (F8 (A7 Cj))) fun xc38 one_ Gc35 sc36 rc37=>(BA (m:=Dl) (A7 rc37))))))) hm xt.gh fun v45 G46 H47 x48 r49=>q v45 G46 H47 (xt.trans x48) r49
theorem Gf (F:DIn K mg "show_round" DL)(T:Txt mg):EX P w K mg base:=by
 refine F.okM2 (m:=Bu) GY fun _ _ _ _ _ H0 _ _ hr G0 CO C2 res v_stem_ v_ring_ xt r_stem_ r_ring_ hm q=>?_;unfold Bu at hm
 refine ⟨_,(A3 (AO (EF (K:=K) rfl PySem.F.plainAttrs_str PySem.F.slot_str_join PySem.F.type_str_join (IP (K:=K) rfl) AQ (A2 (AH K (AH K (pv 0) (BW (A2 AQ A5))) (pv 1)) A5)))
   A4),?_⟩
 exact AN (K:=K) (JV BD (FV.ev (Ey (FV.ev (Ey (A7 r_stem_) (FV.ev (Bz (AF BD (BJ (α:=Str))))))) (A7 r_ring_)))) hm xt.gh fun v7 G8 H9 x10 r11=>q v7 G8 H9 (xt.trans x10) r11
theorem Fy (F:DIn K mg "show_moment" D2)(T:Txt mg):E9 P w K mg base:=by
 refine F.okM1 (m:=Au) Fz fun _ _ _ _ _ H0 _ _ hr G0 B3 res KM xt Ds hm q=>?_;unfold Au at hm
 refine ⟨_,(A3 (Ap (AG CN (pv 0) AQ (AW _)) (A3 (AO AQ)
   A4) A4)
   (A3 (AO (pv 0))
   A4)),?_⟩
 clear 2 b1 h2;refine As (AI (K:=K) (EL (A7 Ds) BD)) h2 xt.gh fun G3 H4 x5=>?_;clear 1 x5 Ds
 cases b1 with
 | true =>
  clear 3;exact AN (K:=K) (rest:=BV) (σ:=[some KM]) BD hm xt.gh fun v6 G7 H8 x9 r10=>q v6 G7 H8 (xt.trans x9) r10
 | false =>
  clear 4;exact AN (K:=K) (A7 Ds) hm xt.gh fun v11 G12 H13 x14 r15=>q v11 G12 H13 (xt.trans x14) r15
theorem IZ (F:DIn K mg "show_run" EK)(T:Txt mg)(DR:EX P w K mg base)(CC:E9 P w K mg base):Fm P w K mg base:=by
 refine F.okM1 (m:=C6) Ib fun _ _ _ _ _ H0 _ _ hr G0 run_ res v_run_ xt Cj hm q=>?_;unfold C6 at hm
 refine ⟨_,(A3 (AO (AX DR hr (by decide) rfl (A2 (FW (cn:=[]) (cap:=[]) rfl ⟨by decide +kernel,rfl,by decide +kernel,CP rfl⟩ rfl (by decide +kernel) trivial (CQ (K:=K) rfl (AV K (pv 0) A8)) (fun C s0 H0 fp=>⟨CV,(AX CC hr (by decide) rfl (A2 (pv 0) A5))⟩)) (A2 (FW (cn:=[]) (cap:=[]) rfl ⟨by decide +kernel,rfl,by decide +kernel,CP rfl⟩ rfl (by decide +kernel) trivial (CQ (K:=K) rfl (AV K (pv 0) A8)) (fun C s0 H0 fp=>⟨CV,(AX CC hr (by decide) rfl (A2 (pv 0) A5))⟩)) A5))))
   A4),?_⟩
 exact AN (K:=K) (Aq (m:=EA) (FV.ev (ES (cap:=[]) (fe:=fun (B3:Str)=>((some B3).bind fun t5=>Au t5)) (Cr (Fq (A7 Cj))) fun xc4 B3 Gc1 sc2 rc3=>(BA (m:=Ck) (A7 rc3)))) (FV.ev (ES (cap:=[]) (fe:=fun (B3:Str)=>((some B3).bind fun t11=>Au t11)) (Cr (F8 (A7 Cj))) fun xc10 B3 Gc7 sc8 rc9=>(BA (m:=Ck) (A7 rc9))))) hm xt.gh fun v15 G16 H17 x18 r19=>q v15 G16 H17 (xt.trans x18) r19
theorem Db (F:DIn K mg "refuse_other_kinds" BX)(T:Txt mg){aT:Addr}(O:OwnCls "NoText" aT bmV "ValueError.__new__" mg base):CF P w K mg base:=by
 refine F.okE Dd bn1 (fun vs H Q E h=>(Jh h).trans rfl) (fun _ cdv A outer s H0 vs Q E hr h=>?_);obtain ⟨G0,⟨thing_,⟨⟩⟩,res,sg0,⟨B5,_,rfl,AS,rfl⟩,hm,q⟩:=h;replace AS:Rp.rel K G0 B5 thing_:=AS;replace hm:C7 thing_=some res:=hm;unfold C7 at hm;have xt:Ext G0 H0 G0 H0:=Ext.refl sg0
 refine ⟨_,(A3 (Ap (Bp (Am K (AT (Az (K:=K) rfl) (by rfl) T.isinstance_ AD (A2 (pv 0) (A2 (Bc (v:=.ty "str") rfl T.str_ F9 rfl) A5))))) (A3 (Em O rfl rfl Cg AQ)
   A4) A4)
   A4),?_⟩
 clear 2 t1 h1 b1 h2;refine As (Bl (Dc (K:=K) (Ci (T := "str") (by decide) (A7 AS)))) (show ((some thing_).bind fun d=>some (isK "str" d)).bind (fun b=>some (!b))=some b1 by rw [h1];exact h2) xt.gh fun G3 H4 x5=>?_;clear 1 x5
 cases b1 with
 | true =>
  clear 3;cases hm;exact q aT G3 H4 O.bound xt
 | false =>
  clear 4;cases hm;exact q _ _ _ xt rfl
theorem Hn (F:DIn K mg "is_moment" Dh)(T:Txt mg):Dp P w K mg base:=by
 refine F.okM1 (m:=B2) CW fun _ _ _ _ _ H0 _ _ hr G0 thing_ res B5 xt AS hm q=>?_;unfold B2 at hm
 refine ⟨_,(A3 (Ap (Bp (Am K (AT (Az (K:=K) rfl) (by rfl) T.isinstance_ AD (A2 (pv 0) (A2 (Bc (v:=.ty "str") rfl T.str_ F9 rfl) A5))))) (A3 (AO C3)
   A4) A4)
   (A3 (Aa (i:=1) CW AQ)
   (A3 (FG PassesOwn.never rfl (CQ (K:=K) rfl (pv 0)) (DD (i:=2) CW) (A3 (Ap (PW.pt (CM (AG J8 (pv 2) AQ (AW _)) (CM (AG FE (pv 2) AQ (AW _)) (Cc (AG op_leU (pv 2) (pv 1) (AW _)))))) (A3 (AO C3)
   A4) A4)
   (A3 (Aa (i:=1) CW (pv 2))
   A4)))
   (A3 (AO C3)
   A4)))),?_⟩
 clear 2 b1 h2;refine As (Bl (Dc (K:=K) (Ej (b:=true) (by decide +kernel) (A7 AS)))) h2 xt.gh fun G3 H4 x5=>?_;clear 1 x5 AS
 cases b1 with
 | true =>
  clear 3;exact AN (K:=K) (rest:=BV) (σ:=[some B5,none,none]) DJ hm xt.gh fun v6 G7 H8 x9 r10=>q v6 G7 H8 (xt.trans x9) r10
 | false =>
  clear 4;clear 2 IF h16;refine Ak (K:=K) BD h16 xt.gh fun v11 G12 H13 x14 r15=>?_;clear 1 x14 AS;clear 2 as17 h18 fl19 h20;refine F4 (K:=K) (RR:=fun r v G' H'=>Ext G0 H0 G' H'/\Rp.rel K G' v r) (iw_str (A7 AS)) h18 h20 xt.gh fun G21 H22 x23=>⟨fun s24 S' G' H'=>∃ (v25:V) (v26:Option V),Ext G0 H0 G' H'/\Same G21 G'/\S'=[some B5,some v25,v26]/\Rp.rel K G' v25 (s24:Str),?_,?_,?_,?_,?_⟩
  ·clear 1 x23 r15;exact ⟨v11,_,xt,(Same.refl _),rfl,r15⟩
  ·rintro _ S' G' H' ⟨v25,v26,xt,mk27,rfl,r28⟩;exact ⟨mk27,xt.gh⟩
  ·rintro xv29 a30 s24 _ G33 H34 fl31 - ⟨v25,v26,xt,mk27,rfl,r28⟩ rx32 hm D' kN35 kC36 kB37 kR38;refine Dq ?_;clear 2 b39 h40;refine As (EJ (AI (K:=K) (FZ (A7 rx32) BD)) (EJ (AI (K:=K) (FZ (A7 rx32) BD)) (AI (K:=K) (FZ (A7 rx32) (A7 r28))))) h40 xt.gh fun G41 H42 x43=>?_;clear 1 x43 rx32 3 mk27
   cases b39 with
   | true =>
    clear 3;clear 2 rr49 h50;cases hm;exact AN (K:=K) (rest:=BV) (σ:=[some B5,some v25,some xv29]) DJ h50 xt.gh fun v44 G45 H46 x47 r48=>kR38 _ v44 G45 H46 rfl ⟨xt.trans x47,r48⟩
   | false =>
    clear 4;clear 2 IF h56;refine Ak (K:=K) (A7 rx32) h56 xt.gh fun v51 G52 H53 x54 r55=>?_;clear 1 x54 3 mk27;cases hm;exact kN35 _ _ _ _ rfl ⟨v51,_,xt,mk27,rfl,r55⟩
  ·rintro s24 _ G61 H62 rfl ⟨v57,v58,xt,mk59,rfl,r60⟩;refine Go ?_;exact AN (K:=K) (rest:=BV) (σ:=[some B5,some v57,v58]) DJ hm xt.gh fun v63 G64 H65 x66 r67=>q v63 G64 H65 (xt.trans x66) r67
  ·clear 5
theorem Fa (F:DIn K mg "read_moment" D3)(T:Txt mg){aT:Addr}(O:OwnCls "NoText" aT bmV "ValueError.__new__" mg base)(Bo:Dp P w K mg base):E7 P w K mg base:=by
 refine F.okE Fo bn1 (fun vs H Q E h=>(Jh h).trans rfl) (fun _ cdv A outer s H0 vs Q E hr h=>?_);obtain ⟨G0,⟨Bj,⟨⟩⟩,res,sg0,⟨Jc,_,rfl,CA,rfl⟩,hm,q⟩:=h;replace CA:Rp.rel K G0 Jc Bj:=CA;replace hm:Ab Bj=some res:=hm;unfold Ab at hm;have xt:Ext G0 H0 G0 H0:=Ext.refl sg0
 refine ⟨_,(A3 (Ap (AG CN (pv 0) AQ (AW _)) (A3 (AO AQ)
   A4) A4)
   (A3 (Ap (PW.pt (CM (AG CN (pv 0) AQ (AW _)) (Cc (Bp (Am K (AX Bo hr (by decide) rfl (A2 (pv 0) A5))))))) (A3 (Em O rfl rfl Cg AQ)
   A4) A4)
   (A3 (AO (pv 0))
   A4))),?_⟩
 clear 2 b1 h2;refine As (AI (K:=K) (EL (A7 CA) BD)) h2 xt.gh fun G3 H4 x5=>?_;clear 1 x5 CA
 cases b1 with
 | true =>
  clear 3;cases hm;exact AN (K:=K) (rest:=BV) (σ:=[some Jc]) BD rfl xt.gh fun v6 G7 H8 x9 r10=>q v6 G7 H8 (xt.trans x9) r10
 | false =>
  clear 4;clear 2 b14 h15;refine As (E8 (AI (K:=K) (EL (A7 CA) BD)) (Bl (Dc (K:=K) (BA (m:=DV) (A7 CA))))) h15 xt.gh fun G16 H17 x18=>?_;clear 1 x18 CA
  cases b14 with
  | true =>
   clear 3;cases hm;exact q aT G16 H17 O.bound xt
  | false =>
   clear 4;cases hm;exact AN (K:=K) (A7 CA) rfl xt.gh fun v19 G20 H21 x22 r23=>q v19 G20 H21 (xt.trans x22) r23
theorem Ec (F:DIn K mg "is_moment_list" C4)(T:Txt mg)(Bo:Dp P w K mg base):DC P w K mg base:=by
 refine F.okM1 (m:=Ar) Et fun _ _ _ _ _ H0 _ _ hr G0 thing_ res B5 xt AS hm q=>?_;unfold Ar at hm
 refine ⟨_,(A3 (Ap (PW.pt (CM (Bp (Am K (AT (Az (K:=K) rfl) (by rfl) T.isinstance_ AD (A2 (pv 0) (A2 (Bc (v:=.ty "list") rfl T.list_ FX rfl) A5))))) (Cc (AG FE (BM K T.len_ (pv 0)) (pe_globI rfl T.MOST_MOMENTS) (AW _))))) (A3 (AO C3)
   A4) A4)
   (A3 (AO (AT (KG (K:=K) rfl rfl) (by rfl) T.all_ bt_all (A2 (FW (cn:=[]) (cap:=[]) rfl ⟨by decide +kernel,rfl,by decide +kernel,CP rfl⟩ rfl (by decide +kernel) trivial (CQ (K:=K) rfl (pv 0)) (fun C s0 H0 fp=>⟨CV,(AX Bo hr (by decide) rfl (A2 (pv 0) A5))⟩)) A5)))
   A4)),?_⟩
 clear 2 b1 h2;refine As (EJ (Bl (Dc (K:=K) (Ej (b:=true) (by decide +kernel) (A7 AS)))) (AI (K:=K) (EG (GD (A7 AS)) Ai))) h2 xt.gh fun G3 H4 x5=>?_;clear 1 x5 AS
 cases b1 with
 | true =>
  clear 3;exact AN (K:=K) (rest:=BV) (σ:=[some B5]) DJ hm xt.gh fun v6 G7 H8 x9 r10=>q v6 G7 H8 (xt.trans x9) r10
 | false =>
  clear 4;exact AN (K:=K) (ev_all (FV.ev (ES (cap:=[]) (fe:=fun (B3:Str)=>((some B3).bind fun t15=>B2 t15)) (Cr (A7 AS)) fun xc14 B3 Gc11 sc12 rc13=>(BA (m:=DV) (A7 rc13))))) hm xt.gh fun v18 G19 H20 x21 r22=>q v18 G19 H20 (xt.trans x21) r22
theorem KD (F:DIn K mg "is_run" Fi)(T:Txt mg)(Bf:DC P w K mg base):IK P w K mg base:=by
 refine F.okM1 (m:=CH) K0 fun _ _ _ _ _ H0 _ _ hr G0 thing_ res B5 xt AS hm q=>?_;unfold CH at hm
 refine ⟨_,(A3 (Ap (PW.pt (CM (Bp (Am K (AT (Az (K:=K) rfl) (by rfl) T.isinstance_ AD (A2 (pv 0) (A2 (Bc (v:=.ty "tuple") rfl T.tuple_ ID rfl) A5))))) (Cc (AG Gh (BM K T.len_ (pv 0)) A8 (AW _))))) (A3 (AO C3)
   A4) A4)
   (A3 (AO (JI (AX Bf hr (by decide) rfl (A2 (AV K (pv 0) A8) A5)) (JI (AX Bf hr (by decide) rfl (A2 (AV K (pv 0) A8) A5)) (pe_one (Jk FE (BM K T.len_ (AV K (pv 0) A8)) A8 (AW _))))))
   A4)),?_⟩
 clear 2 b1 h2;refine As (EJ (Bl (Dc (K:=K) (Ej (b:=true) (by decide +kernel) (A7 AS)))) (AI (K:=K) (Ft (Jx (A7 AS)) Ai))) h2 xt.gh fun G3 H4 x5=>?_;clear 1 x5 AS
 cases b1 with
 | true =>
  clear 3;exact AN (K:=K) (rest:=BV) (σ:=[some B5]) DJ hm xt.gh fun v6 G7 H8 x9 r10=>q v6 G7 H8 (xt.trans x9) r10
 | false =>
  clear 4;exact AN (K:=K) (Iy (BA (m:=By) (Fq (A7 AS))) (Iy (BA (m:=By) (F8 (A7 AS))) (EG (GD (F8 (A7 AS))) Ai))) hm xt.gh fun v15 G16 H17 x18 r19=>q v15 G16 H17 (xt.trans x18) r19
theorem Hz (F:DIn K mg "read_run" EH)(T:Txt mg){aT:Addr}(O:OwnCls "NoText" aT bmV "ValueError.__new__" mg base)(Ba:CF P w K mg base)(CB:E7 P w K mg base)(GU:IK P w K mg base):EN P w K mg base:=by
 refine F.okE CG bn1 (fun vs H Q E h=>(spXN_len h).trans rfl) (fun _ cdv A outer s H0 vs Q E hr h=>?_);obtain ⟨G0,⟨text_,⟨⟩⟩,res,sg0,⟨Ef,_,rfl,AJ,rfl⟩,hm,q⟩:=h;replace AJ:Rp.rel K G0 Ef text_:=AJ;replace hm:AL text_=some res:=hm;unfold AL at hm;have xt:Ext G0 H0 G0 H0:=Ext.refl sg0
 refine ⟨_,(A3 (DQ (FU Ba hr (by decide) rfl Cg (A2 (pv 0) A5)))
   (A3 (Aa (i:=1) CG (EF (K:=K) rfl PySem.F.plainAttrs_str PySem.F.slot_str_split PySem.F.type_str_split IL (pv 0) (A2 AQ A5)))
   (A3 (Ap (AG Gh (EF (K:=K) rfl PySem.F.plainAttrs_list PySem.F.slot_list_count PySem.F.type_list_count (KN (K:=K) rfl) (pv 1) (A2 AQ A5)) A8 (AW _)) (A3 (Em O rfl rfl Cg AQ)
   A4) A4)
   (A3 (Aa (i:=2) CG (EF (K:=K) rfl PySem.F.plainAttrs_list PySem.F.slot_list_index PySem.F.type_list_index (K9 (K:=K) rfl) (pv 1) (A2 AQ A5)))
   (A3 (FI (i:=3) (Eb CG) rfl (Or.inl rfl) Cg rfl rfl (cn:=[]) (cap:=[]) rfl ⟨by decide +kernel,rfl,by decide +kernel,CP rfl⟩ rfl (by decide +kernel) trivial (CQ (K:=K) rfl (BC (Be (K:=K) rfl) (pv 1) C1 (BO (pv 2)))) (fun C s0 H0 fp=>⟨CV,(FU CB hr (by decide) rfl HI (A2 (pv 0) A5))⟩))
   (A3 (FI (i:=4) (Eb CG) rfl (Or.inl rfl) Cg rfl rfl (cn:=[]) (cap:=[]) rfl ⟨by decide +kernel,rfl,by decide +kernel,CP rfl⟩ rfl (by decide +kernel) trivial (CQ (K:=K) rfl (BC (Be (K:=K) rfl) (pv 1) (BO (AH K (pv 2) A8)) C1)) (fun C s0 H0 fp=>⟨CV,(FU CB hr (by decide) rfl HI (A2 (pv 0) A5))⟩))
   (A3 (Ap (Bp (Am K (AX GU hr (by decide) rfl (A2 (DG (A2 (pv 3) (A2 (pv 4) A5))) A5)))) (A3 (Em O rfl rfl Cg AQ)
   A4) A4)
   (A3 (AO (DG (A2 (pv 3) (A2 (pv 4) A5))))
   A4)))))))),?_⟩
 clear 2 r0 h3;refine sx_drop (K:=K) (mg:=mg) (GI (m:=Fv) (A7 AJ)) h3 xt.gh ?_
 cases r0 with
 | error n =>
  cases hm;exact q
 | ok u0 =>
 intro G4 H5 x6;clear 1 x6 AJ;clear 2 words_ h14;refine Ak (K:=K) (FV.ev (IE (Es (A7 AJ)) BD)) h14 xt.gh fun v9 G10 H11 x12 r13=>?_;clear 1 x12;clear 2 b15 h16;refine As (AI (K:=K) (Ft (ev_count (A7 r13) BD) Ai)) h16 xt.gh fun G17 H18 x19=>?_;clear 1 x19 r13
 cases b15 with
 | true =>
  clear 3;cases hm;exact q aT G17 H18 O.bound xt
 | false =>
  clear 4;clear 2 Hv h27;refine Ak (K:=K) (KW (A7 r13) BD) h27 xt.gh fun v22 G23 H24 x25 r26=>?_;clear 1 x25 r13;clear 2 r1 h41;refine HH (K:=K) (mg:=mg) (cap:=[]) (Cr (FV.ev (Fx (A7 r13) Bq (BN (K:=K) (A7 r26))))) rfl (fun xc31 Bj Gc28 sc29 rc30=>GI (m:=CK) (A7 rc30)) h41 xt.gh ?_
  cases r1 with
  | error n =>
   cases hm;exact Raises.pre q xt
  | ok CO =>
  intro p34 vs35 G36 H37 x38 hz39 o40;clear 1 x38 r13 r26 4 hz39;clear 2 r2 h55;refine HH (K:=K) (mg:=mg) (cap:=[]) (Cr (FV.ev (Fx (A7 r13) (BN (K:=K) (BY (A7 r26) Ai)) Bq))) rfl (fun xc45 Bj Gc42 sc43 rc44=>GI (m:=CK) (A7 rc44)) h55 xt.gh ?_
  cases r2 with
  | error n =>
   cases hm;exact Raises.pre q xt
  | ok C2 =>
  intro p48 vs49 G50 H51 x52 hz53 o54;have ne_p34_p48:p34≠p48:=BK o40.h hz53;clear 1 x52 2 o40 4 hz53;clear 2 b60 h61;refine sv_ifBB o40 o54 (by ac_rfl) (Bl (Dc (K:=K) (BA (m:=HB) (El (A7 (Rp.mono (Same.new (o54.over (by ac_rfl) o40.g).g) o40.tell)) (A7 (o54.over (by ac_rfl) o40.g).tell))))) h61 xt.gh fun G62 H63 x64=>?_;clear 1 x64 2 o40 o54
  cases b60 with
  | true =>
   clear 3;cases hm;exact q aT G62 H63 O.bound xt
  | false =>
   clear 4;cases hm;exact sv_retO2 rfl rfl o40 o54 (by ac_rfl) xt.gh fun v65 G66 H67 x68 o69=>q _ _ _ _ _ _ _ (xt.trans x68) hz39 hz53 o69
theorem K4 (D_:EN P w K mg base):Fs P w K mg base:=D_.to0 fun vs H Q E h=>by
 obtain ⟨G,⟨t,⟨⟩⟩,r,sg,⟨v,_,rfl,rv,rfl⟩,hm,q⟩:=h;clear 2 x hx
 cases x with
 | error n=>cases hm
 | ok b =>
  cases hm;exact ⟨G,(D.str t,()),.ok _,sg,⟨v,_,rfl,ToD.rel (α:=Str) rv,rfl⟩,hx,q⟩
theorem GX (F:DIn K mg "_law_listed" DF)(T:Txt mg):Ei P w K mg base:=by
 refine F.okM2 (m:=B0) E5 fun _ _ _ _ _ H0 _ _ hr G0 C5 due_ res Cf EE xt An Bi hm q=>?_;unfold B0 at hm
 refine ⟨_,(A3 (Ap (PW.pt (CM (Bp (Am K (AT (Az (K:=K) rfl) (by rfl) T.isinstance_ AD (A2 (pv 0) (A2 (Bc (v:=.ty "list") rfl T.list_ FX rfl) A5))))) (Cc (AG Gh (BM K T.len_ (pv 0)) (BM K T.len_ (pv 1)) (AW _))))) (A3 (AO C3)
   A4) A4)
   (A3 (FG PassesOwn.never rfl (CZ rfl T.range_ (A2 (BM K T.len_ (pv 1)) A5)) (DD (i:=2) E5) (A3 (Ap (Am K (AT (Az (K:=K) rfl) (by rfl) T.isinstance_ AD (A2 (AV K (pv 1) (pv 2)) (A2 (Bc (v:=.ty "str") rfl T.str_ F9 rfl) A5)))) (A3 (Ap (PW.pt (CM (Bp (Am K (AT (Az (K:=K) rfl) (by rfl) T.isinstance_ AD (A2 (AV K (pv 0) (pv 2)) (A2 (Bc (v:=.ty "str") rfl T.str_ F9 rfl) A5))))) (Cc (AG (Ix (K:=K) rfl SI hr (by decide)) (AV K (pv 0) (pv 2)) (AV K (pv 1) (pv 2)) (AW _))))) (A3 (AO C3)
   A4) A4)
   A4) (A3 (Ap (PW.pt (CM (Bp (Am K (AT (Az (K:=K) rfl) (by rfl) T.isinstance_ AD (A2 (AV K (pv 0) (pv 2)) (A2 (Bc (v:=.ty "int") rfl T.int_ bt_int rfl) A5))))) (CM (Am K (AT (Az (K:=K) rfl) (by rfl) T.isinstance_ AD (A2 (AV K (pv 0) (pv 2)) (A2 (Bc (v:=.ty "bool") rfl T.bool_ bt_bool rfl) A5)))) (Cc (AG (Ix (K:=K) rfl SI hr (by decide)) (AV K (pv 0) (pv 2)) (AV K (pv 1) (pv 2)) (AW _)))))) (A3 (AO C3)
   A4) A4)
   A4))
   A4))
   (A3 (AO C3)
   A4))),?_⟩
 clear 2 b7 h8;refine As (E8 (Bl (Dc (K:=K) (Ci (by decide) (A7 An)))) (AI (K:=K) (Ft (Hb (A7 An)) (Hb (A7 Bi))))) h8 xt.gh fun G9 H10 x11=>?_;clear 1 x11 An Bi
 cases b7 with
 | true =>
  clear 3;exact AN (K:=K) (rest:=BV) (σ:=[some Cf,some EE,none]) DJ hm xt.gh fun v12 G13 H14 x15 r16=>q v12 G13 H14 (xt.trans x15) r16
 | false =>
  clear 4;clear 2 as19 h20 fl21 h22;refine F4 (K:=K) (RR:=fun r v G' H'=>Ext G0 H0 G' H'/\Rp.rel K G' v r) (Dv (Hb (A7 Bi))) h20 h22 xt.gh fun G23 H24 x25=>⟨fun s26 S' G' H'=>∃ (v27:Option V),Ext G0 H0 G' H'/\Same G23 G'/\S'=[some Cf,some EE,v27],?_,?_,?_,?_,?_⟩
  ·clear 1 x25;exact ⟨_,xt,(Same.refl _),rfl⟩
  ·rintro _ S' G' H' ⟨v27,xt,mk28,rfl⟩;exact ⟨mk28,xt.gh⟩
  ·rintro xv29 a30 s26 _ G33 H34 fl31 - ⟨v27,xt,mk28,rfl⟩ rx32 hm D' kN35 kC36 kB37 kR38;have An:=Rp.mono (x25.gg.trans mk28) An;have Bi:=Rp.mono (x25.gg.trans mk28) Bi;refine Dq ?_;clear 2 b42 h43;refine As (Dc (K:=K) (Ci (by decide) (D4 (A7 Bi) (A7 rx32)))) h43 xt.gh fun G44 H45 x46=>?_;clear 1 x46 An Bi rx32 3 mk28
   cases b42 with
   | true =>
    clear 3;clear 2 b66 h67;refine As (E8 (Bl (Dc (K:=K) (Ci (by decide) (D4 (A7 An) (A7 rx32))))) (AI (K:=K) (ev_ne (FY (D4 (A7 An) (A7 rx32))) (FY (D4 (A7 Bi) (A7 rx32)))))) h67 xt.gh fun G68 H69 x70=>?_;clear 1 x70 3 mk28
    cases b66 with
    | true =>
     clear 3;clear 2 rr76 h77;cases hm;exact AN (K:=K) (rest:=BV) (σ:=[some Cf,some EE,some xv29]) DJ h77 xt.gh fun v71 G72 H73 x74 r75=>kR38 _ v71 G72 H73 rfl ⟨xt.trans x74,r75⟩
    | false =>
     clear 4;cases hm;exact kN35 _ _ _ _ rfl ⟨_,xt,mk28,rfl⟩
   | false =>
    clear 4;clear 2 b101 h102;refine As (E8 (Bl (Dc (K:=K) (Ci (by decide) (D4 (A7 An) (A7 rx32))))) (E8 (Dc (K:=K) (Ci (by decide) (D4 (A7 An) (A7 rx32)))) (AI (K:=K) (ev_ne (FY (D4 (A7 An) (A7 rx32))) (FY (D4 (A7 Bi) (A7 rx32))))))) h102 xt.gh fun G103 H104 x105=>?_;clear 1 x105 3 mk28
    cases b101 with
    | true =>
     clear 3;clear 2 rr111 h112;cases hm;exact AN (K:=K) (rest:=BV) (σ:=[some Cf,some EE,some xv29]) DJ h112 xt.gh fun v106 G107 H108 x109 r110=>kR38 _ v106 G107 H108 rfl ⟨xt.trans x109,r110⟩
    | false =>
     clear 4;cases hm;exact kN35 _ _ _ _ rfl ⟨_,xt,mk28,rfl⟩
  ·rintro s26 _ G115 H116 rfl ⟨v113,xt,mk114,rfl⟩;refine Go ?_;exact AN (K:=K) (rest:=BV) (σ:=[some Cf,some EE,v113]) DJ hm xt.gh fun v117 G118 H119 x120 r121=>q v117 G118 H119 (xt.trans x120) r121
  ·clear 5
theorem Ge (F:DIn K mg "_law_is_run" DU)(T:Txt mg)(CT:Ei P w K mg base):Eg P w K mg base:=by
 refine F.okM2 (m:=AZ) GW fun _ _ _ _ _ H0 _ _ hr G0 C5 due_ res Cf EE xt An Bi hm q=>?_;unfold AZ at hm
 refine ⟨_,(A3 (Ap (PW.pt (CM (Bp (Am K (AT (Az (K:=K) rfl) (by rfl) T.isinstance_ AD (A2 (pv 0) (A2 (Bc (v:=.ty "tuple") rfl T.tuple_ ID rfl) A5))))) (Cc (AG Gh (BM K T.len_ (pv 0)) A8 (AW _))))) (A3 (AO C3)
   A4) A4)
   (A3 (AO (JI (AX CT hr (by decide) rfl (A2 (AV K (pv 0) A8) (A2 (AV K (pv 1) A8) A5))) (pe_one (AX CT hr (by decide) rfl (A2 (AV K (pv 0) A8) (A2 (AV K (pv 1) A8) A5))))))
   A4)),?_⟩
 clear 2 b1 h2;refine As (EJ (Bl (Dc (K:=K) (Ej (b:=true) (by decide +kernel) (A7 An)))) (AI (K:=K) (Ft (Jx (A7 An)) Ai))) h2 xt.gh fun G3 H4 x5=>?_;clear 1 x5 An Bi
 cases b1 with
 | true =>
  clear 3;exact AN (K:=K) (rest:=BV) (σ:=[some Cf,some EE]) DJ hm xt.gh fun v6 G7 H8 x9 r10=>q v6 G7 H8 (xt.trans x9) r10
 | false =>
  clear 4;exact AN (K:=K) (Iy (Aq (m:=Cz) (Ad (Fq (A7 An))) (D4 (A7 Bi) Ai)) (Aq (m:=Cz) (Ad (F8 (A7 An))) (D4 (A7 Bi) Ai))) hm xt.gh fun v20 G21 H22 x23 r24=>q v20 G21 H22 (xt.trans x23) r24
theorem FF (F:DIn K mg "_law_moment_of" CI)(T:Txt mg):Da P w K mg base:=by
 refine F.okM1 (m:=Ah) BH fun _ _ _ _ _ H0 _ _ hr G0 B9 res DM xt AB hm q=>?_;unfold Ah at hm
 refine ⟨_,(A3 (Aa (i:=1) BH AQ)
   (A3 (Ap (AG CN (Af B4 (pv 0) A8) A8 (AW _)) (A3 (AO AQ)
   A4) A4)
   (A3 (Ap (AG J8 (Af B4 (pv 0) A8) A8 (AW _)) (A3 (AO (AV K (pv 1) (Af B4 (Af CU (pv 0) A8) A8)))
   A4) A4)
   (A3 (Aa (i:=2) BH AQ)
   (A3 (FG PassesOwn.never rfl (CZ rfl T.range_ (A2 A8 A5)) (DD (i:=3) BH) (A3 (Ap (AG CN (Af B4 (Af CU (pv 0) (AH K A8 (Af (DK (K:=K) rfl) (pv 3) (pv 3)))) (AV K (BW (A2 A8 (A2 A8 (A2 A8 A5)))) (Af B4 (pv 3) A8))) A8 (AW _)) (A3 (Aa (i:=2) BH (AH K (pv 2) (AV K (pv 1) (pv 3))))
   A4) A4)
   A4))
   (A3 (AO (pv 2))
   A4)))))),?_⟩
 clear 2 row_ h6;refine Ak (K:=K) BD h6 xt.gh fun v1 G2 H3 x4 r5=>?_;clear 1 x4 AB;clear 2 b7 h8;refine As (AI (K:=K) (DO (B1 (A7 AB)) Ai)) h8 xt.gh fun G9 H10 x11=>?_;clear 1 x11 AB r5
 cases b7 with
 | true =>
  clear 3;exact AN (K:=K) (rest:=BV) (σ:=[some DM,some v1,none,none]) BD hm xt.gh fun v12 G13 H14 x15 r16=>q v12 G13 H14 (xt.trans x15) r16
 | false =>
  clear 4;clear 2 b17 h18;refine As (AI (K:=K) (EG (B1 (A7 AB)) Ai)) h18 xt.gh fun G19 H20 x21=>?_;clear 1 x21 AB r5
  cases b17 with
  | true =>
   clear 3;exact AN (K:=K) (F2 (A7 r5) (B1 (Cq (A7 AB)))) hm xt.gh fun v24 G25 H26 x27 r28=>q v24 G25 H26 (xt.trans x27) r28
  | false =>
   clear 4;clear 2 text_ h34;refine Ak (K:=K) BD h34 xt.gh fun v29 G30 H31 x32 r33=>?_;clear 1 x32 AB r5;clear 2 as36 h37 fl38 h39;refine F4 (K:=K) (RR:=fun r v G' H'=>Ext G0 H0 G' H'/\Rp.rel K G' v r) (Dv Ai) h37 h39 xt.gh fun G40 H41 x42=>⟨fun s43 S' G' H'=>∃ (v44:V) (v45:Option V),Ext G0 H0 G' H'/\Same G40 G'/\S'=[some DM,some v1,some v44,v45]/\Rp.rel K G' v44 (s43:Str),?_,?_,?_,?_,?_⟩
   ·clear 1 x42 r33;exact ⟨v29,_,xt,(Same.refl _),rfl,r33⟩
   ·rintro _ S' G' H' ⟨v44,v45,xt,mk46,rfl,r47⟩;exact ⟨mk46,xt.gh⟩
   ·rintro xv48 a49 s43 _ G52 H53 fl50 - ⟨v44,v45,xt,mk46,rfl,r47⟩ rx51 hm D' kN54 kC55 kB56 kR57;have AB:=Rp.mono (x42.gg.trans mk46) AB;have r5:=Rp.mono (x42.gg.trans mk46) r5;refine Dq ?_;clear 2 b68 h69;refine As (AI (K:=K) (DO (He (ev_div (A7 AB) (BY Ai (JF (A7 rx51) (A7 rx51)))) (FH (FV.ev (Bz (AF Ai (AF Ai (AF Ai (BJ (α:=Int))))))) (B1 (A7 rx51)))) Ai)) h69 xt.gh fun G70 H71 x72=>?_;clear 1 x72 r5 r47 rx51 3 mk46
    cases b68 with
    | true =>
     clear 3;clear 2 text_ h82;refine Ak (K:=K) (Bw (A7 r47) (F2 (A7 r5) (A7 rx51))) h82 xt.gh fun v77 G78 H79 x80 r81=>?_;clear 1 x80 3 mk46;cases hm;exact kN54 _ _ _ _ rfl ⟨v77,_,xt,mk46,rfl,r81⟩
    | false =>
     clear 4;cases hm;exact kN54 _ _ _ _ rfl ⟨v44,_,xt,mk46,rfl,r47⟩
   ·rintro s43 _ G87 H88 rfl ⟨v83,v84,xt,mk85,rfl,r86⟩;refine Go ?_;exact AN (K:=K) (A7 r86) hm xt.gh fun v89 G90 H91 x92 r93=>q v89 G90 H91 (xt.trans x92) r93
   ·clear 5
theorem GC (F:DIn K mg "_law_changed" Cu)(T:Txt mg):E3 P w K mg base:=by
 refine F.okM2 (m:=BQ) BG fun _ _ _ _ _ H0 _ _ hr G0 text_ B9 res Ef DM xt AJ AB hm q=>?_;unfold BQ at hm
 refine ⟨_,(A3 (Aa (i:=2) BG AQ)
   (A3 (Aa (i:=3) BG (AV K (pv 2) (Af B4 (Af CU (pv 1) A8) A8)))
   (A3 (Aa (i:=4) BG (Af B4 (Af B4 (Af (DK (K:=K) rfl) (Af CU (pv 1) A8) A8) A8) (AH K (BM K T.len_ (pv 0)) A8)))
   (A3 (Aa (i:=5) BG (Af B4 (pv 1) A8))
   (A3 (Ap (AG CN (pv 5) A8 (AW _)) (A3 (AO (AH K (AH K (BC (Be (K:=K) rfl) (pv 0) C1 (BO (pv 4))) (pv 3)) (BC (Be (K:=K) rfl) (pv 0) (BO (AH K (pv 4) A8)) C1)))
   A4) A4)
   (A3 (Ap (AG CN (pv 5) A8 (AW _)) (A3 (AO (AH K (AH K (BC (Be (K:=K) rfl) (pv 0) C1 (BO (pv 4))) (pv 3)) (BC (Be (K:=K) rfl) (pv 0) (BO (pv 4)) C1)))
   A4) A4)
   (A3 (Ap (AG CN (pv 5) A8 (AW _)) (A3 (AO (AH K (BC (Be (K:=K) rfl) (pv 0) C1 (BO (pv 4))) (BC (Be (K:=K) rfl) (pv 0) (BO (AH K (pv 4) A8)) C1)))
   A4) A4)
   (A3 (Ap (AG CN (pv 5) A8 (AW _)) (A3 (Aa (i:=6) BG (AH K (BC (Be (K:=K) rfl) (pv 0) (BO (AH K (pv 4) A8)) (BO (AH K (pv 4) A8))) (BC (Be (K:=K) rfl) (pv 0) (BO (pv 4)) (BO (AH K (pv 4) A8)))))
   (A3 (AO (AH K (AH K (BC (Be (K:=K) rfl) (pv 0) C1 (BO (pv 4))) (pv 6)) (BC (Be (K:=K) rfl) (pv 0) (BO (AH K (pv 4) A8)) C1)))
   A4)) A4)
   (A3 (AO (pv 0))
   A4))))))))),?_⟩
 clear 2 signs_ h6;refine Ak (K:=K) BD h6 xt.gh fun v1 G2 H3 x4 r5=>?_;clear 1 x4 AJ AB;clear 2 new_ h14;refine Ak (K:=K) (F2 (A7 r5) (B1 (Cq (A7 AB)))) h14 xt.gh fun v9 G10 H11 x12 r13=>?_;clear 1 x12 AJ AB;clear 2 at_ h22;refine Ak (K:=K) (He (B1 (Er (Cq (A7 AB)))) (BY (Jv (A7 AJ)) Ai)) h22 xt.gh fun v17 G18 H19 x20 r21=>?_;clear 1 x20 AJ AB r13;clear 2 way_ h28;refine Ak (K:=K) (B1 (A7 AB)) h28 xt.gh fun v23 G24 H25 x26 r27=>?_;clear 1 x26 AJ r13 r21;clear 2 b29 h30;refine As (AI (K:=K) (DO (A7 r27) Ai)) h30 xt.gh fun G31 H32 x33=>?_;clear 1 x33 AJ r13 r21 r27
 cases b29 with
 | true =>
  clear 3;exact AN (K:=K) (Bw (Bw (BP (A7 AJ) Bq (BN (K:=K) (A7 r21))) (A7 r13)) (BP (A7 AJ) (BN (K:=K) (BY (A7 r21) Ai)) Bq)) hm xt.gh fun v38 G39 H40 x41 r42=>q v38 G39 H40 (xt.trans x41) r42
 | false =>
  clear 4;clear 2 b43 h44;refine As (AI (K:=K) (DO (A7 r27) Ai)) h44 xt.gh fun G45 H46 x47=>?_;clear 1 x47 AJ r13 r21 r27
  cases b43 with
  | true =>
   clear 3;exact AN (K:=K) (Bw (Bw (BP (A7 AJ) Bq (BN (K:=K) (A7 r21))) (A7 r13)) (BP (A7 AJ) (BN (K:=K) (A7 r21)) Bq)) hm xt.gh fun v52 G53 H54 x55 r56=>q v52 G53 H54 (xt.trans x55) r56
  | false =>
   clear 4;clear 2 b57 h58;refine As (AI (K:=K) (DO (A7 r27) Ai)) h58 xt.gh fun G59 H60 x61=>?_;clear 1 x61 AJ r21 r27
   cases b57 with
   | true =>
    clear 3;exact AN (K:=K) (Bw (BP (A7 AJ) Bq (BN (K:=K) (A7 r21))) (BP (A7 AJ) (BN (K:=K) (BY (A7 r21) Ai)) Bq)) hm xt.gh fun v64 G65 H66 x67 r68=>q v64 G65 H66 (xt.trans x67) r68
   | false =>
    clear 4;clear 2 b69 h70;refine As (AI (K:=K) (DO (A7 r27) Ai)) h70 xt.gh fun G71 H72 x73=>?_;clear 1 x73 AJ r21
    cases b69 with
    | true =>
     clear 3;clear 2 JJ h81;refine Ak (K:=K) (Bw (BP (A7 AJ) (BN (K:=K) (BY (A7 r21) Ai)) (BN (K:=K) (BY (A7 r21) Ai))) (BP (A7 AJ) (BN (K:=K) (A7 r21)) (BN (K:=K) (BY (A7 r21) Ai)))) h81 xt.gh fun v76 G77 H78 x79 r80=>?_;clear 1 x79 AJ r21;exact AN (K:=K) (Bw (Bw (BP (A7 AJ) Bq (BN (K:=K) (A7 r21))) (A7 r80)) (BP (A7 AJ) (BN (K:=K) (BY (A7 r21) Ai)) Bq)) hm xt.gh fun v86 G87 H88 x89 r90=>q v86 G87 H88 (xt.trans x89) r90
    | false =>
     clear 4;exact AN (K:=K) (A7 AJ) hm xt.gh fun v91 G92 H93 x94 r95=>q v91 G92 H93 (xt.trans x94) r95
theorem FD (F:DIn K mg "_law_read_word" CJ)(T:Txt mg):DW P w K mg base:=by
 refine F.okM1 (m:=Ay) DB fun _ _ _ _ _ H0 _ _ hr G0 part_ res HW xt Bh hm q=>?_;unfold Ay at hm
 refine ⟨_,(A3 (Ap (AG CN (pv 0) AQ (AW _)) (A3 (AO AQ)
   A4) A4)
   (A3 (FG PassesOwn.never rfl (CZ rfl T.range_ (A2 (BM K T.len_ (pv 0)) A5)) (DD (i:=1) DB) (A3 (Ap (PW.pt (CM (AG Hk (AV K (pv 0) (pv 1)) AQ rfl) (Cc (PW.pt (pw_and (AG FE (pv 1) A8 (AW _)) (Ju (AG op_geU (AV K (pv 0) (Af op_sub (pv 1) A8)) (AV K (pv 0) (pv 1)) (AW _)))))))) (A3 (AO D6)
   A4) A4)
   A4))
   (A3 (AO (Ia (AG CN (pv 0) AQ (AW _)) D6 (pv 0)))
   A4))),?_⟩
 clear 2 b1 h2;refine As (AI (K:=K) (EL (A7 Bh) BD)) h2 xt.gh fun G3 H4 x5=>?_;clear 1 x5 Bh
 cases b1 with
 | true =>
  clear 3;exact AN (K:=K) (rest:=BV) (σ:=[some HW,none]) (HL BD) hm xt.gh fun v6 G7 H8 x9 r10=>q v6 G7 H8 (xt.trans x9) r10
 | false =>
  clear 4;clear 2 as12 h13 fl14 h15;refine F4 (K:=K) (RR:=fun r v G' H'=>Ext G0 H0 G' H'/\Rp.rel K G' v r) (Dv (Jv (A7 Bh))) h13 h15 xt.gh fun G16 H17 x18=>⟨fun s19 S' G' H'=>∃ (v20:Option V),Ext G0 H0 G' H'/\Same G16 G'/\S'=[some HW,v20],?_,?_,?_,?_,?_⟩
  ·clear 1 x18;exact ⟨_,xt,(Same.refl _),rfl⟩
  ·rintro _ S' G' H' ⟨v20,xt,mk21,rfl⟩;exact ⟨mk21,xt.gh⟩
  ·rintro xv22 a23 s19 _ G26 H27 fl24 - ⟨v20,xt,mk21,rfl⟩ rx25 hm D' kN28 kC29 kB30 kR31;have Bh:=Rp.mono (x18.gg.trans mk21) Bh;refine Dq ?_;clear 2 b43 h44;refine As (E8 (AI (K:=K) (KL (F2 (A7 Bh) (A7 rx25)) BD)) (tv_and (AI (K:=K) (EG (A7 rx25) Ai)) (AI (K:=K) (FZ (F2 (A7 Bh) (ev_sub (A7 rx25) Ai)) (F2 (A7 Bh) (A7 rx25)))))) h44 xt.gh fun G45 H46 x47=>?_;clear 1 x47 3 mk21
   cases b43 with
   | true =>
    clear 3;clear 2 rr53 h54;cases hm;exact AN (K:=K) (rest:=BV) (σ:=[some HW,some xv22]) (DH (α:=Str)) h54 xt.gh fun v48 G49 H50 x51 r52=>kR31 _ v48 G49 H50 rfl ⟨xt.trans x51,r52⟩
   | false =>
    clear 4;cases hm;exact kN28 _ _ _ _ rfl ⟨_,xt,mk21,rfl⟩
  ·rintro s19 _ G57 H58 rfl ⟨v55,xt,mk56,rfl⟩;refine Go ?_;have Bh:=Rp.mono (x18.gg.trans mk56) Bh;exact AN (K:=K) (ev_ifx (AI (K:=K) (EL (A7 Bh) BD)) (DH (α:=Str)) (HL (A7 Bh))) hm xt.gh fun v60 G61 H62 x63 r64=>q v60 G61 H62 (xt.trans x63) r64
  ·clear 5
theorem GL (F:DIn K mg "_law_read_of" D0)(T:Txt mg)(CL:DW P w K mg base):EB P w K mg base:=by
 refine F.okM1 (m:=Ag) Ce fun _ _ _ _ _ H0 _ _ hr G0 text_ res Ef xt AJ hm q=>?_;unfold Ag at hm
 refine ⟨_,(A3 (Aa (i:=1) Ce (BW (A2 (BW A5) A5)))
   (A3 (FG PassesOwn.never rfl (CQ (K:=K) rfl (EF (K:=K) rfl PySem.F.plainAttrs_str PySem.F.slot_str_split PySem.F.type_str_split IL (pv 0) (A2 AQ A5))) (DD (i:=2) Ce) (A3 (Ap (AG CN (pv 2) AQ (AW _)) (A3 (DQ (DT K (pv 1) (BW A5))) A4) (A3 (DQ (DT K (AV K (pv 1) (pe_un un_neg A8)) (AX CL hr (by decide) rfl (A2 (pv 2) A5)))) A4))
   A4))
   (A3 (Ap (PW.pt (CM (AG Gh (BM K T.len_ (pv 1)) A8 (AW _)) (CM (AG (op_inE (K:=K) rfl (Option Str) hr (by decide)) D6 (AV K (pv 1) A8) rfl) (CM (AG (op_inE (K:=K) rfl (Option Str) hr (by decide)) D6 (AV K (pv 1) A8) rfl) (Cc (AG (op_eqK (K:=K) rfl (List (Option Str)) hr (by decide)) (AV K (pv 1) A8) (BW A5) (AW _))))))) (A3 (AO D6)
   A4) A4)
   (A3 (AO (DG (A2 (AV K (pv 1) A8) (A2 (AV K (pv 1) A8) A5))))
   A4)))),?_⟩
 refine sv_ownC1 (K:=K) (β:=Option Str) xt fun p1 cs1 H1 xt o1=>?_;clear 2 as3 h4 fl5 h6;refine F4 (K:=K) (RR:=fun (r:Unit) v G' H'=>False) (Cr (FV.ev (IE (A7 AJ) BD))) h4 h6 xt.gh fun G7 H8 x9=>⟨fun s10 S' G' H'=>∃ (v11:Option V) (cs:List (Option Addr)),Ext G0 H0 G' H'/\Same G7 G'/\S'=[some Ef,some (V.ref p1),v11]/\OwnC K H0 G' H' (V.ref p1) p1 cs (s10.map some),?_,?_,?_,?_,?_⟩
 ·exact ⟨_,_,xt.trans x9,Same.refl _,rfl,o1.ext x9⟩
 ·rintro _ S' G' H' ⟨v11,cs,xt,mk12,rfl,o⟩;exact ⟨mk12,xt.gh⟩
 ·rintro xv13 a14 s10 _ G17 H18 fl15 - ⟨v11,cs,xt,mk12,rfl,o⟩ rx16 hm D' kN19 kC20 kB21 kR22;refine Dq ?_;clear 2 b23 h24;refine As (AI (K:=K) (EL (A7 rx16) BD)) h24 xt.gh fun G25 H26 x27=>?_;clear 1 x27 rx16 2 o 3 mk12
  cases b23 with
  | true =>
   clear 3;clear 2 z hz;cases hm;exact sv_appC (K:=K) rfl o hz xt fun cs' H2 xt o=>kN19 _ _ _ _ rfl ⟨_,_,xt,mk12,rfl,o⟩
  | false =>
   clear 4;clear 2 x hx z hz;cases hm;exact sv_appAt (K:=K) rfl o (ev_neg Ai) rfl (BA (m:=D8) (A7 rx16)) hx hz xt fun G2 H2 H3 x3 xt o=>kN19 _ _ _ _ rfl ⟨_,_,xt,mk12.trans x3.gg,rfl,o⟩
 ·rintro s10 _ G51 H52 rfl ⟨v49,cs,xt,mk50,rfl,o⟩;refine Go ?_;have CD:=o.tellL;have xt:=o.frz xt;clear 2 b15 h16;refine As (E8 (AI (K:=K) (Ft (GD (A7 CD)) Ai)) (E8 (AI (K:=K) (Jy (DH (α:=Str)) (FH (A7 CD) Ai))) (E8 (AI (K:=K) (Jy (DH (α:=Str)) (FH (A7 CD) Ai))) (AI (K:=K) (ev_eq (FH (A7 CD) Ai) (FV.ev (Bz (BJ (α:=(Option Str)))))))))) h16 xt.gh fun G17 H18 x19=>?_;clear 1 x19 CD
  cases b15 with
  | true =>
   clear 3;exact AN (K:=K) (rest:=BV) (σ:=[some Ef,some (V.ref p1),v49]) (DH (α:=((List (Option Str)) × (List (Option Str))))) hm xt.gh fun v20 G21 H22 x23 r24=>q v20 G21 H22 (xt.trans x23) r24
  | false =>
   clear 4;exact AN (K:=K) (HL (El (FH (A7 CD) Ai) (FH (A7 CD) Ai))) hm xt.gh fun v32 G33 H34 x35 r36=>q v32 G33 H34 (xt.trans x35) r36
 ·rintro r' v' G' H' rfl rl;exact rl.elim
theorem IX (F:DIn K mg "_law_cell" ET)(T:Txt mg):Fc P w K mg base:=by
 refine F.okM2 (m:=AU) Dn fun _ _ _ _ _ H0 _ _ hr G0 script_ k_ res Aw v_k_ xt A6 Fk hm q=>?_;unfold AU at hm
 refine ⟨_,(A3 (Ap (AG J8 (pv 1) (BM K T.len_ (pv 0)) (AW _)) (A3 (AO (AV K (pv 0) (pv 1)))
   A4) A4)
   (A3 (Aa (i:=2) Dn (AH K (Af (DK (K:=K) rfl) (pv 1) A8) A8))
   (A3 (Ap (AG FE (BM K T.len_ (pv 0)) A8 (AW _)) (A3 (Aa (i:=2) Dn (Af B4 (AH K (Af (DK (K:=K) rfl) (AV K (pv 0) (Af B4 (Af (DK (K:=K) rfl) (pv 1) A8) (BM K T.len_ (pv 0)))) A8) (Af (DK (K:=K) rfl) (pv 1) A8)) A8))
   A4) A4)
   (A3 (AO (Af B4 (Af (DK (K:=K) rfl) (pv 2) (pv 2)) A8))
   A4)))),?_⟩
 clear 2 b1 h2;refine As (AI (K:=K) (EG (A7 Fk) (Hs (A7 A6)))) h2 xt.gh fun G3 H4 x5=>?_;clear 1 x5 A6 Fk
 cases b1 with
 | true =>
  clear 3;exact AN (K:=K) (ev_atX (A7 A6) (A7 Fk)) hm xt.gh fun v8 G9 H10 x11 r12=>q v8 G9 H10 (xt.trans x11) r12
 | false =>
  clear 4;clear 2 Eo h18;refine Ak (K:=K) (BY (Er (A7 Fk)) Ai) h18 xt.gh fun v13 G14 H15 x16 r17=>?_;clear 1 x16 A6 Fk;clear 2 b19 h20 s24 h25
  try (with_reducible refine nxt_ ?_;dsimp only)
  refine Du (t:=Gd _ _ _) (fun S45 H44=>∃ (G43:Hp) (v27:V),Ext G0 H0 G43 H44/\Same G14 G43/\S45=[some Aw,some v_k_,some v27]/\Rp.rel K G43 v27 (s24:Int)) (fun nx kn29=>?_) ?_
  ·refine As (AI (K:=K) (EG (Hs (A7 A6)) Ai)) h20 xt.gh fun G21 H22 x23=>?_;clear 1 x23 A6 Fk r17;have mk26:Same G14 G21:=x23.gg;have hm:=h25
   cases b19 with
   | true =>
    clear 3;clear 2 Eo h42;refine Ak (K:=K) (B1 (BY (Er (ev_atX (A7 A6) (He (Er (A7 Fk)) (Hs (A7 A6))))) (Er (A7 Fk)))) h42 xt.gh fun v37 G38 H39 x40 r41=>?_;clear 1 x40 3 mk26;cases hm;exact kn29 _ _ ⟨G38,v37,xt,mk26,rfl,r41⟩
   | false =>
    clear 4;cases hm;exact kn29 _ _ ⟨G21,v13,xt,mk26,rfl,r17⟩
  ·rintro _ H44 ⟨G43,v27,xt,mk26,rfl,r28⟩;exact AN (K:=K) (B1 (JF (A7 r28) (A7 r28))) hm xt.gh fun v49 G50 H51 x52 r53=>q v49 G50 H51 (xt.trans x52) r53
theorem Ff (F:DIn K mg "_law_classes" Cy)(T:Txt mg){aS aT aR aW aM aE aC aX aN:Addr}(W:XT K mg aS aT aR aW aM aE aC aX aN):E6 P w K mg base aT:=by
 refine F.okH Ca bn1 (fun vs H Q E h=>by obtain ⟨_,_,rfl,_⟩:=h;rfl) (fun _ cdv A outer s H0 vs Q h=>?_);obtain ⟨G0,v0,rfl,sg0,r0,q⟩:=h;have xt:Ext G0 H0 G0 H0:=Ext.refl sg0
 refine ⟨_,(A3 (HP (i:=1) (Eb Ca) rfl (Or.inl rfl) (BW (A2 (AT (BL (K:=K) rfl) (by rfl) T.isinstance_ AD (A2 (pv 0) (A2 (CS (v:=.ref aT) rfl W.naT rfl) A5))) (A2 (AT (BL (K:=K) rfl) (by rfl) T.isinstance_ AD (A2 (pv 0) (A2 (Bc (v:=.ty "ValueError") rfl T.ValueError_ GV rfl) A5))) (A2 (AT (BL (K:=K) rfl) (by rfl) T.isinstance_ AD (A2 (pv 0) (A2 (CS (v:=.ref aR) rfl W.naR rfl) A5))) A5)))))
   (A3 (HP (i:=1) (Eb Ca) rfl (Or.inl rfl) (AH K (pv 1) (BW (A2 (AT (BL (K:=K) rfl) (by rfl) T.isinstance_ AD (A2 (pv 0) (A2 (CS (v:=.ref aW) rfl W.naW rfl) A5))) (A2 (AT (BL (K:=K) rfl) (by rfl) T.isinstance_ AD (A2 (pv 0) (A2 (CS (v:=.ref aM) rfl W.naM rfl) A5))) (A2 (AT (BL (K:=K) rfl) (by rfl) T.isinstance_ AD (A2 (pv 0) (A2 (CS (v:=.ref aE) rfl W.naE rfl) A5))) A5))))))
   (A3 (AO (AH K (pv 1) (BW (A2 (AT (BL (K:=K) rfl) (by rfl) T.isinstance_ AD (A2 (pv 0) (A2 (CS (v:=.ref aC) rfl W.naC rfl) A5))) (A2 (AT (BL (K:=K) rfl) (by rfl) T.isinstance_ AD (A2 (pv 0) (A2 (CS (v:=.ref aX) rfl W.naX rfl) A5))) (A2 (AT (BL (K:=K) rfl) (by rfl) T.isinstance_ AD (A2 (pv 0) (A2 (CS (v:=.ref aN) rfl W.naN rfl) A5))) A5)))))) A4))),?_⟩
 refine Ak (K:=K) (FV.ev (Bz (AF (Bv W.kit W.kT Cm (A7 r0)) (AF (Bv W.kit W.kV rel_ty (A7 r0)) (AF (Bv W.kit W.kR Cm (A7 r0)) (BJ (α:=Bool))))))) rfl xt.gh fun v1 G1 H1 x1 r1=>?_;clear 1 x1 r0;refine Ak (K:=K) (FV.ev (Ey (A7 r1) (FV.ev (Bz (AF (Bv W.kit W.kW Cm (A7 r0)) (AF (Bv W.kit W.kM Cm (A7 r0)) (AF (Bv W.kit W.kE Cm (A7 r0)) (BJ (α:=Bool))))))))) rfl xt.gh fun v2 G2 H2 x2 r2=>?_;clear 1 x2 r0;exact AN (K:=K) (FV.ev (Ey (A7 r2) (FV.ev (Bz (AF (Bv W.kit W.kC Cm (A7 r0)) (AF (Bv W.kit W.kX Cm (A7 r0)) (AF (Bv W.kit W.kN Cm (A7 r0)) (BJ (α:=Bool))))))))) rfl xt.gh fun v3 G3 H3 x3 r3=>q v3 G3 H3 (xt.trans x3) r3
theorem Fw (F:DIn K mg "_law_no_text" Ct)(T:Txt mg){aS aT aR aW aM aE aC aX aN:Addr}(W:XT K mg aS aT aR aW aM aE aC aX aN)(Y_:EN P w K mg base)(Cw:E6 P w K mg base aT):EC P w K mg base:=by
 refine F.okM1 (m:=BS) Bs fun _ _ _ _ _ H0 _ _ hr G0 thing_ res B5 xt AS hm q=>?_;unfold BS at hm
 refine ⟨_,(A3 (Aa (i:=1) Bs (BW A5))
   (A3 (ps_try (i:=2) rfl rfl rfl W.naS (Eb Bs) rfl rfl
    (fun pn xe E L=>A3 (DQ (FU Y_ hr (by decide) rfl L (A2 (pv 0) A5))) A4)
    (fun pn ea=>A3 (HP (i:=1) (Eb Bs) rfl (Or.inl rfl) (pe_defH Cw ((hr.mono (by decide)).han _) rfl (A2 (pv 2) A5))) A4))
   (A3 (AO (Jk (op_eqK (K:=K) rfl (List Bool) hr (by decide)) (pv 1) (AH K (BW (A2 C3 (A2 C3 A5))) (Af JZ (BW (A2 C3 A5)) A8)) (AW _)))
   A4))),?_⟩
 clear 2 r hr1
 cases r with
 | ok b=>cases hm
 | error n =>
 obtain ⟨rfl,rfl⟩:=Av hm;refine Ak (K:=K) (FV.ev (Bz (BJ (α:=Bool)))) rfl xt.gh fun v1 G1 H1 x1 r1=>?_;clear 1 x1 AS;refine ⟨B5,rfl,G1,(thing_,()),.error "NoText",xt.gh,⟨B5,_,rfl,AS,rfl⟩,hr1,fun D' G2 H2 hD x2=>?_⟩;obtain rfl:aT=D':=by have:=W.naT.symm.trans hD;cases this;rfl
 refine ⟨W.ex,fun ea hea=>?_⟩;have x3:=x2.trans (Ext.new (o:=Exo ea (.ref aT)) x2.gh hea);clear 1 x3;refine ⟨.ref ea,rfl,_,.ref ea,rfl,x3.gh,⟨ea,rfl,AM⟩,fun v4 G4 H4 x4 r4=>?_⟩;clear 1 x4;exact AN (K:=K) (σ:=[some B5,some v4,none]) (rest:=BV) (ev_eq (A7 r4) (FV.ev (Ey (FV.ev (Bz (AF DJ (AF DJ (BJ (α:=Bool)))))) (FV.ev (fv_rep (FV.ev (Bz (AF DJ (BJ (α:=Bool))))) Ai))))) (by decide +kernel) xt.gh fun v10 G11 H12 x13 r14=>q v10 G11 H12 (xt.trans x13) r14
seal eval in
theorem ok_law {f:Addr}{fd:FuncData}(F:Fun K "law" "law" s_law f fd)(T:Txt mg)(Cd:Dm P w K mg base)(EM:Fm P w K mg base)(Ch:Fs P w K mg base)(Bt:Eg P w K mg base)(Bk:Da P w K mg base)(D7:E3 P w K mg base)(D1:EB P w K mg base)(Aj:Fc P w K mg base)(D5:EC P w K mg base):FnOk P w K mg base CX0 6 f fd ["_law_script"] (spM K mm_law):=by
 refine F.ok BZ (fun vs H Q E h=>(HJ h).trans rfl) (fun cdv A outer s H0 vs Q E hr h=>?_);obtain ⟨G0,⟨script_,⟨⟩⟩,res,sg0,⟨Aw,_,rfl,A6,rfl⟩,hm,q⟩:=h;replace A6:Rp.rel K G0 Aw script_:=A6;replace hm:IJ script_=some res:=hm;unfold IJ at hm;have xt:Ext G0 H0 G0 H0:=Ext.refl sg0
 refine ⟨_,(A3 (EI (i:=1) (Eb BZ) rfl (Or.inl rfl) (cn:=["_law_script"]) (cap:=[0]) rfl ⟨by decide +kernel,rfl,by decide +kernel,CP rfl⟩ rfl (by decide +kernel) ⟨⟨rfl,.inl rfl,rfl⟩,trivial⟩ (CZ rfl T.range_ (A2 (Af B4 (AX Aj hr (by decide) rfl (A2 (pv 0) (A2 A8 A5))) A8) A5)) (fun C s0 H0 fp=>⟨CV,(AX Bk hr (by decide) rfl (A2 (AT F3 (by rfl) T.abs_ J5 (A2 (AX Aj hr (by decide) rfl (A2 (pv 1) (A2 (AH K A8 (pv 0)) A5))) A5)) A5))⟩))
   (A3 (EI (i:=2) (Eb BZ) rfl (Or.inl rfl) (cn:=["_law_script"]) (cap:=[0]) rfl ⟨by decide +kernel,rfl,by decide +kernel,CP rfl⟩ rfl (by decide +kernel) ⟨⟨rfl,.inl rfl,rfl⟩,trivial⟩ (CZ rfl T.range_ (A2 (AH K A8 (Af B4 (AX Aj hr (by decide) rfl (A2 (pv 0) (A2 A8 A5))) A8)) A5)) (fun C s0 H0 fp=>⟨CV,(AX Bk hr (by decide) rfl (A2 (AT F3 (by rfl) T.abs_ J5 (A2 (AX Aj hr (by decide) rfl (A2 (pv 1) (A2 (AH K A8 (pv 0)) A5))) A5)) A5))⟩))
   (A3 (Ap (AG CN (Af B4 (Af CU (AX Aj hr (by decide) rfl (A2 (pv 0) (A2 A8 A5))) A8) A8) A8 (AW _)) (A3 (Aa (i:=1) BZ (Af JZ (BC (Be (K:=K) rfl) (pv 1) C1 (BO A8)) (AH K A8 (Af B4 (Af CU (AX Aj hr (by decide) rfl (A2 (pv 0) (A2 A8 A5))) A8) A8))))
   A4) A4)
   (A3 (Aa (i:=3) BZ (AX Cd hr (by decide) rfl (A2 (DG (A2 (pv 1) (A2 (pv 2) A5))) A5)))
   (A3 (Aa (i:=4) BZ (DG (A2 (Gn (GQ (K:=K) rfl) (by rfl) T.list_ FX (A2 (pv 1) A5)) (A2 (Gn (GQ (K:=K) rfl) (by rfl) T.list_ FX (A2 (pv 2) A5)) A5))))
   (A3 (Aa (i:=5) BZ (AX EM hr (by decide) rfl (A2 (pv 4) A5)))
   (A3 (Ap (PW.pt (CM (Bp (Am K (AT (Az (K:=K) rfl) (by rfl) T.isinstance_ AD (A2 (pv 5) (A2 (Bc (v:=.ty "str") rfl T.str_ F9 rfl) A5))))) (CM (AG Gh (pv 5) (pv 3) (AW _)) (Cc (AG (Ix (K:=K) rfl ((List Str) × (List Str)) hr (by decide)) (pv 4) (DG (A2 (pv 1) (A2 (pv 2) A5))) (AW _)))))) (A3 (AO C3)
   A4) A4)
   (A3 (Aa (i:=6) BZ (pv 3))
   (A3 (FG PassesOwn.never rfl (CZ rfl T.range_ (A2 (Af B4 (AX Aj hr (by decide) rfl (A2 (pv 0) (A2 A8 A5))) A8) A5)) (DD (i:=7) BZ) (A3 (Aa (i:=6) BZ (AX D7 hr (by decide) rfl (A2 (pv 6) (A2 (AT F3 (by rfl) T.abs_ J5 (A2 (AX Aj hr (by decide) rfl (A2 (pv 0) (A2 (AH K A8 (pv 7)) A5))) A5)) A5))))
   A4))
   (A3 (Ap (AG CN (Af B4 (Af CU (AX Aj hr (by decide) rfl (A2 (pv 0) (A2 A8 A5))) A8) A8) A8 (AW _)) (A3 (Aa (i:=6) BZ (AV K (BW (A2 D6 (pa_cI (A2 (BW (A2 AQ (A2 AQ A5))) (A2 (DG (A2 (BW (A2 AQ A5)) (A2 (BW (A2 AQ A5)) A5))) (A2 C3 (A2 pe_dnewK (A2 AQ (A2 AQ (A2 AQ (A2 AQ A5))))))))))) (Af B4 (AX Aj hr (by decide) rfl (A2 (pv 0) (A2 A8 A5))) A8)))
   A4) A4)
   (A3 (Ap (AG CN (Af B4 (Af CU (AX Aj hr (by decide) rfl (A2 (pv 0) (A2 A8 A5))) A8) A8) A8 (AW _)) (A3 (Aa (i:=8) BZ (AH K A8 (Af B4 (AX Aj hr (by decide) rfl (A2 (pv 0) (A2 A8 A5))) A8)))
   (A3 (Aa (i:=6) BZ (AV K (BW (A2 (AH K (Af JW AQ (pv 8)) AQ) (A2 (AH K AQ (Af JW AQ (pv 8))) A5))) (Af B4 (Af CU (AX Aj hr (by decide) rfl (A2 (pv 0) (A2 A8 A5))) A8) A8)))
   A4)) A4)
   (A3 (Aa (i:=9) BZ D6)
   (A3 (Ap (Am K (AT (Az (K:=K) rfl) (by rfl) T.isinstance_ AD (A2 (pv 6) (A2 (Bc (v:=.ty "str") rfl T.str_ F9 rfl) A5)))) (A3 (Aa (i:=9) BZ (AX D1 hr (by decide) rfl (A2 (pv 6) A5)))
   A4) A4)
   (A3 (Ap (PW.pt (pw_and (AG op_notN (pv 9) D6 (AW _)) (Ju (AG FE (AT (KH rfl) (by rfl) T.max_ bt_max (A2 (BM K T.len_ (AV K (pv 9) A8)) (A2 (BM K T.len_ (AV K (pv 9) A8)) A5))) A8 (AW _))))) (A3 (Aa (i:=9) BZ D6)
   A4) A4)
   (A3 (Ap (AG op_isN (pv 9) D6 (AW _)) (A3 (Ap (Bp (Am K (AX D5 hr (by decide) rfl (A2 (pv 6) A5)))) (A3 (AO C3)
   A4) A4)
   A4) (A3 (Ap (Bp (Am K (AX Bt hr (by decide) rfl (A2 (AX Ch hr (by decide) rfl (A2 (pv 6) A5)) (A2 (pv 9) A5))))) (A3 (AO C3)
   A4) A4)
   A4))
   (A3 (Aa (i:=10) BZ (AX Ch hr (by decide) rfl (A2 (pv 3) A5)))
   (A3 (Ap (Bp (Am K (AX Bt hr (by decide) rfl (A2 (pv 10) (A2 (DG (A2 (pv 1) (A2 (pv 2) A5))) A5))))) (A3 (AO C3)
   A4) A4)
   (A3 (DQ (DT K (AV K (pv 10) A8) AQ))
   (A3 (DQ (pe_bm0K (K:=K) rfl PySem.F.plainAttrs_list PySem.F.slot_list_clear PySem.F.type_list_clear mt_clear (AV K (pv 10) A8)))
   (A3 (AO (AX Bt hr (by decide) rfl (A2 (AX Ch hr (by decide) rfl (A2 (pv 3) A5)) (A2 (DG (A2 (pv 1) (A2 (pv 2) A5))) A5))))
   A4)))))))))))))))))))),?_⟩
 clear 2 CO h19;refine Ak (K:=K) (FV.ev (ES (cap:=[0]) (fe:=fun (k_:Int)=>((((some script_).bind fun t9=>(some ((2:Int)+k_)).bind fun t10=>AU t9 t10).bind fun t11=>(some (if t11<0 then -t11 else t11))).bind fun t12=>Ah t12)) (Dv (B1 (Aq (m:=Ae) (A7 A6) Ai))) fun xc8 k_ Gc5 sc6 rc7=>(BA (m:=C9) (J7 (Aq (m:=Ae) (A7 (Rp.mono sc6 A6)) (BY Ai (A7 rc7))))))) h19 xt.gh fun v14 G15 H16 x17 r18=>?_;clear 1 x17 A6;clear 2 C2 h39;refine Ak (K:=K) (FV.ev (ES (cap:=[0]) (fe:=fun (k_:Int)=>((((some script_).bind fun t29=>(some ((10:Int)+k_)).bind fun t30=>AU t29 t30).bind fun t31=>(some (if t31<0 then -t31 else t31))).bind fun t32=>Ah t32)) (Dv (BY Ai (B1 (Aq (m:=Ae) (A7 A6) Ai)))) fun xc28 k_ Gc25 sc26 rc27=>(BA (m:=C9) (J7 (Aq (m:=Ae) (A7 (Rp.mono sc26 A6)) (BY Ai (A7 rc27))))))) h39 xt.gh fun v34 G35 H36 x37 r38=>?_;clear 1 x37 A6 r18;clear 2 b45 h46 s50 h51
 try (with_reducible refine nxt_ ?_;dsimp only)
 refine Du (t:=Gd _ _ _) (fun S71 H70=>∃ (G69:Hp) (v53:V),Ext G0 H0 G69 H70/\Same G35 G69/\S71=[some Aw,some v53,some v34,none,none,none,none,none,none,none,none]/\Rp.rel K G69 v53 (s50:(List Str))) (fun nx kn55=>?_) ?_
 ·refine As (AI (K:=K) (DO (B1 (Cq (Aq (m:=Ae) (A7 A6) Ai))) Ai)) h46 xt.gh fun G47 H48 x49=>?_;clear 1 x49 A6 r18;have mk52:Same G35 G47:=x49.gg;have hm:=h51
  cases b45 with
  | true =>
   clear 3;clear 2 CO h68;refine Ak (K:=K) (FV.ev (fv_rep (FV.ev (Fx (A7 r18) Bq (BN (K:=K) Ai))) (BY Ai (B1 (Cq (Aq (m:=Ae) (A7 A6) Ai)))))) h68 xt.gh fun v63 G64 H65 x66 r67=>?_;clear 1 x66 3 mk52;cases hm;exact kn55 _ _ ⟨G64,v63,xt,mk52,rfl,r67⟩
  | false =>
   clear 4;cases hm;exact kn55 _ _ ⟨G47,v14,xt,mk52,rfl,r18⟩
 ·rintro _ H70 ⟨G69,v53,xt,mk52,rfl,r54⟩;clear 9 mk52 A6 r38;clear 2 text_ h78;refine Ak (K:=K) (BA (m:=DX) (El (A7 r54) (A7 r38))) h78 xt.gh fun v73 G74 H75 x76 r77=>?_;clear 1 x76 A6 r54 r38;clear 2 HK h84;refine Ak (K:=K) (El (FV.ev (Jw (A7 r54))) (FV.ev (Jw (A7 r38)))) h84 xt.gh fun v79 G80 H81 x82 r83=>?_;clear 1 x82 A6 r54 r38 r77;clear 2 C5 h91;refine Ak (K:=K) (BA (m:=FN) (A7 r83)) h91 xt.gh fun v86 G87 H88 x89 r90=>?_;clear 1 x89 A6 r54 r38 r77 r83;clear 2 b92 h93;refine As (EJ (Bl (Dc (K:=K) (Ej (b:=true) (by decide +kernel) (A7 r90)))) (EJ (AI (K:=K) (ev_neS (A7 r90) (A7 r77))) (AI (K:=K) (ev_ne (A7 r83) (El (A7 r54) (A7 r38)))))) h93 xt.gh fun G94 H95 x96=>?_;clear 1 x96 A6 r54 r38 r77 r83 r90
  cases b92 with
  | true =>
   clear 3;exact AN (K:=K) (rest:=BV) (σ:=[some Aw,some v53,some v34,some v73,some v79,some v86,none,none,none,none,none]) DJ hm xt.gh fun v97 G98 H99 x100 r101=>q v97 G98 H99 (xt.trans x100) r101
  | false =>
   clear 4;clear 2 Bb h107;refine Ak (K:=K) (Ad (A7 r77)) h107 xt.gh fun v102 G103 H104 x105 r106=>?_;clear 1 x105 A6 r54 r38 r77 r83 r90;clear 2 as112 h113 fl114 h115;refine F4 (K:=K) (RR:=fun r v G' H'=>Ext G0 H0 G' H'/\Rp.rel K G' v r) (Dv (B1 (Aq (m:=Ae) (A7 A6) Ai))) h113 h115 xt.gh fun G116 H117 x118=>⟨fun s119 S' G' H'=>∃ (v120:V) (v121:Option V),Ext G0 H0 G' H'/\Same G116 G'/\S'=[some Aw,some v53,some v34,some v73,some v79,some v86,some v120,v121,none,none,none]/\Rp.rel K G' v120 (s119:D),?_,?_,?_,?_,?_⟩
   ·clear 1 x118 r106;exact ⟨v102,_,xt,(Same.refl _),rfl,r106⟩
   ·rintro _ S' G' H' ⟨v120,v121,xt,mk122,rfl,r123⟩;exact ⟨mk122,xt.gh⟩
   ·rintro xv124 a125 s119 _ G128 H129 fl126 - ⟨v120,v121,xt,mk122,rfl,r123⟩ rx127 hm D' kN130 kC131 kB132 kR133;have A6:=Rp.mono (x118.gg.trans mk122) A6;refine Dq ?_;clear 2 Bb h146;refine Ak (K:=K) (Ad (Aq (m:=Df) (Es (A7 r123)) (J7 (Aq (m:=Ae) (A7 A6) (BY Ai (A7 rx127)))))) h146 xt.gh fun v141 G142 H143 x144 r145=>?_;clear 1 x144 3 mk122;cases hm;exact kN130 _ _ _ _ rfl ⟨v141,_,xt,mk122,rfl,r145⟩
   ·rintro s119 _ G151 H152 rfl ⟨v147,v148,xt,mk149,rfl,r150⟩;refine Go ?_;have A6:=Rp.mono (x118.gg.trans mk149) A6;have r54:=Rp.mono (x118.gg.trans mk149) r54;have r38:=Rp.mono (x118.gg.trans mk149) r38;have r77:=Rp.mono (x118.gg.trans mk149) r77;have r83:=Rp.mono (x118.gg.trans mk149) r83;have r90:=Rp.mono (x118.gg.trans mk149) r90;clear 2 b158 h159 s163 h164
    try (with_reducible refine nxt_ ?_;dsimp only)
    refine Du (t:=Gd _ _ _) (fun S182 H181=>∃ (G180:Hp) (v166:V),Ext G0 H0 G180 H181/\Same G151 G180/\S182=[some Aw,some v53,some v34,some v73,some v79,some v86,some v166,v148,none,none,none]/\Rp.rel K G180 v166 (s163:D)) (fun nx kn168=>?_) ?_
    ·refine As (AI (K:=K) (DO (B1 (Cq (Aq (m:=Ae) (A7 A6) Ai))) Ai)) h159 xt.gh fun G160 H161 x162=>?_;clear 1 x162 A6 r150;have mk165:Same G151 G160:=x162.gg;have hm:=h164
     cases b158 with
     | true =>
      clear 3;clear 2 Bb h179;refine Ak (K:=K) (FH (FV.ev (Bz (AF (Ad ev_n) (AF (Ad Ai) (AF (Ad (FV.ev (Bz (AF (Ad BD) (AF (Ad BD) (BJ (α:=D))))))) (AF (Ad (EU (AF (Ad (FV.ev (Bz (AF (Ad BD) (BJ (α:=D)))))) (AF (Ad (FV.ev (Bz (AF (Ad BD) (BJ (α:=D)))))) (BJ (α:=D)))))) (AF (Ad DJ) (AF ev_dnew (AF (Ad BD) (AF (Ad BD) (AF (Ad BD) (AF (Ad BD) (BJ (α:=D)))))))))))))) (B1 (Aq (m:=Ae) (A7 A6) Ai))) h179 xt.gh fun v174 G175 H176 x177 r178=>?_;clear 1 x177 3 mk165;cases hm;exact kn168 _ _ ⟨G175,v174,xt,mk165,rfl,r178⟩
     | false =>
      clear 4;cases hm;exact kn168 _ _ ⟨G160,v147,xt,mk165,rfl,r150⟩
    ·rintro _ H181 ⟨G180,v166,xt,mk165,rfl,r167⟩;clear 9 mk165 A6 r54 r38 r77 r83 r90;clear 2 b188 h189 s193 h194
     try (with_reducible refine nxt_ ?_;dsimp only)
     refine Du (t:=Gd _ _ _) (fun S237 H236=>∃ (G235:Hp) (v196:V) (v198:Option V),Ext G0 H0 G235 H236/\Same G180 G235/\S237=[some Aw,some v53,some v34,some v73,some v79,some v86,some v196,v148,v198,none,none]/\Rp.rel K G235 v196 (s193:D)) (fun nx kn200=>?_) ?_
     ·refine As (AI (K:=K) (DO (B1 (Cq (Aq (m:=Ae) (A7 A6) Ai))) Ai)) h189 xt.gh fun G190 H191 x192=>?_;clear 1 x192 A6 r167;have mk195:Same G180 G190:=x192.gg;have hm:=h194
      cases b188 with
      | true =>
       clear 3;clear 2 many_ h210;refine Ak (K:=K) (BY Ai (B1 (Aq (m:=Ae) (A7 A6) Ai))) h210 xt.gh fun v205 G206 H207 x208 r209=>?_;clear 1 x208 A6 3 mk195;clear 2 Bb h234;refine Ak (K:=K) (Ad (FH (FV.ev (Bz (AF (Bw (Jj BD (A7 r209)) BD) (AF (Bw BD (Jj BD (A7 r209))) (BJ (α:=Str)))))) (B1 (Cq (Aq (m:=Ae) (A7 A6) Ai))))) h234 xt.gh fun v229 G230 H231 x232 r233=>?_;clear 1 x232 3 mk195;cases hm;exact kn200 _ _ ⟨G230,v229,_,xt,mk195,rfl,r233⟩
      | false =>
       clear 4;cases hm;exact kn200 _ _ ⟨G190,v166,_,xt,mk195,rfl,r167⟩
     ·rintro _ H236 ⟨G235,v196,v198,xt,mk195,rfl,r197⟩;clear 9 mk195 A6 r54 r38 r77 r83 r90;clear 2 due_ h243;refine Ak (K:=K) (DH (α:=((List (Option Str)) × (List (Option Str))))) h243 xt.gh fun v238 G239 H240 x241 r242=>?_;clear 1 x241 A6 r54 r38 r77 r83 r90 r197;clear 2 b244 h245 s249 h250
      try (with_reducible refine nxt_ ?_;dsimp only)
      refine Du (t:=Gd _ _ _) (fun S265 H264=>∃ (G263:Hp) (v252:V),Ext G0 H0 G263 H264/\Same G239 G263/\S265=[some Aw,some v53,some v34,some v73,some v79,some v86,some v196,v148,v198,some v252,none]/\Rp.rel K G263 v252 (s249:(Option ((List (Option Str)) × (List (Option Str)))))) (fun nx kn254=>?_) ?_
      ·refine As (Dc (K:=K) (Ci (by decide) (A7 r197))) h245 xt.gh fun G246 H247 x248=>?_;clear 1 x248 r197 r242;have mk251:Same G239 G246:=x248.gg;have hm:=h250
       cases b244 with
       | true =>
        clear 3;clear 2 due_ h262;refine Ak (K:=K) (BA (m:=Dj) (Es (A7 r197))) h262 xt.gh fun v257 G258 H259 x260 r261=>?_;clear 1 x260 3 mk251;cases hm;exact kn254 _ _ ⟨G258,v257,xt,mk251,rfl,r261⟩
       | false =>
        clear 4;cases hm;exact kn254 _ _ ⟨G246,v238,xt,mk251,rfl,r242⟩
      ·rintro _ H264 ⟨G263,v252,xt,mk251,rfl,r253⟩;clear 9 mk251 A6 r54 r38 r77 r83 r90 r197;clear 2 b276 h277 s281 h282
       try (with_reducible refine nxt_ ?_;dsimp only)
       refine Du (t:=Gd _ _ _) (fun S295 H294=>∃ (G293:Hp) (v284:V),Ext G0 H0 G293 H294/\Same G263 G293/\S295=[some Aw,some v53,some v34,some v73,some v79,some v86,some v196,v148,v198,some v284,none]/\Rp.rel K G293 v284 (s281:(Option ((List (Option Str)) × (List (Option Str)))))) (fun nx kn286=>?_) ?_
       ·refine As (tv_and (AI (K:=K) (ev_notN JT (A7 r253))) (AI (K:=K) (EG (ev_max (GD (Fq (ev_get (A7 r253)))) (GD (F8 (ev_get (A7 r253))))) Ai))) h277 xt.gh fun G278 H279 x280=>?_;clear 1 x280 r253;have mk283:Same G263 G278:=x280.gg;have hm:=h282
        cases b276 with
        | true =>
         clear 3;clear 2 due_ h292;refine Ak (K:=K) (DH (α:=((List (Option Str)) × (List (Option Str))))) h292 xt.gh fun v287 G288 H289 x290 r291=>?_;clear 1 x290 3 mk283;cases hm;exact kn286 _ _ ⟨G288,v287,xt,mk283,rfl,r291⟩
        | false =>
         clear 4;cases hm;exact kn286 _ _ ⟨G278,v252,xt,mk283,rfl,r253⟩
       ·rintro _ H294 ⟨G293,v284,xt,mk283,rfl,r285⟩;clear 9 mk283 r54 r38 r77 r197;clear 2 b296 h297;refine As (AI (K:=K) (ev_isN JT (A7 r285))) h297 xt.gh fun G298 H299 x300=>?_;clear 1 x300 r54 r38 r77 r197 r285
        cases b296 with
        | true =>
         clear 3;clear 2 b303 h304;refine As (Bl (Dc (K:=K) (BA (m:=Di) (A7 r197)))) h304 xt.gh fun G305 H306 x307=>?_;clear 1 x307 r54 r38 r77
         cases b303 with
         | true =>
          clear 3;exact AN (K:=K) (rest:=BV) (σ:=[some Aw,some v53,some v34,some v73,some v79,some v86,some v196,v148,v198,some v284,none]) DJ hm xt.gh fun v308 G309 H310 x311 r312=>q v308 G309 H310 (xt.trans x311) r312
         | false =>
          clear 4;clear 2 EO h325;refine JY (K:=K) (Ea (m:=Bm) (A7 r77)) h325 xt.gh fun v314 p315 q316 vs317 ws318 G319 H320 x321 hz322 hz323 o324=>?_;clear 1 x321 r54 r38 r77 4 hz322 hz323;clear 2 b332 h333;refine Jt o324 (Bl (Dc (K:=K) (Aq (m:=BR) (A7 o324.tell) (Ad (EU (AF (Ad (A7 (Rp.mono o324.up r54))) (AF (Ad (A7 (Rp.mono o324.up r38))) (BJ (α:=D))))))))) h333 xt.gh fun G334 H335 x336=>?_;clear 1 x336 r54 r38 r77 2 o324
          cases b332 with
          | true =>
           clear 3;exact AN (K:=K) (rest:=BV) (σ:=[some Aw,some v53,some v34,some v73,some v79,some v86,some v196,v148,v198,some v284,some v314]) DJ hm xt.gh fun v337 G338 H339 x340 r341=>q v337 G338 H339 (xt.trans x340) r341
          | false =>
           clear 4;clear 2 a342 h343 z350 h344;refine FM rfl o324 BD h343 h344 xt.gh fun G345 H346 w347 x348 o349=>?_;have xt:Ext G0 H0 G345 (upd H346 p315 (.lst (vs317++[w347]))):=(xt.trans x348).put hz322 o349.o1.g;clear 0 x348 r54 r38 r77;refine GA (K:=K) rfl o349 xt.gh fun o351=>?_;have xt:=xt.put (o:=.lst []) hz323 o351.o2.g;exact AN (K:=K) (Aq (m:=BR) (NV.ev (Ea (m:=Bm) (A7 r77))) (Ad (EU (AF (Ad (A7 r54)) (AF (Ad (A7 r38)) (BJ (α:=D))))))) hm xt.gh fun v355 G356 H357 x358 r359=>q v355 G356 H357 (xt.trans x358) r359
        | false =>
         clear 4;clear 2 b365 h366;refine As (Bl (Dc (K:=K) (Aq (m:=BR) (NV.ev (Ea (m:=Bm) (Es (A7 r197)))) (Ad (A7 r285))))) h366 xt.gh fun G367 H368 x369=>?_;clear 1 x369 r54 r38 r77
         cases b365 with
         | true =>
          clear 3;exact AN (K:=K) (rest:=BV) (σ:=[some Aw,some v53,some v34,some v73,some v79,some v86,some v196,v148,v198,some v284,none]) DJ hm xt.gh fun v370 G371 H372 x373 r374=>q v370 G371 H372 (xt.trans x373) r374
         | false =>
          clear 4;clear 2 EO h387;refine JY (K:=K) (Ea (m:=Bm) (A7 r77)) h387 xt.gh fun v376 p377 q378 vs379 ws380 G381 H382 x383 hz384 hz385 o386=>?_;clear 1 x383 r54 r38 r77 4 hz384 hz385;clear 2 b394 h395;refine Jt o386 (Bl (Dc (K:=K) (Aq (m:=BR) (A7 o386.tell) (Ad (EU (AF (Ad (A7 (Rp.mono o386.up r54))) (AF (Ad (A7 (Rp.mono o386.up r38))) (BJ (α:=D))))))))) h395 xt.gh fun G396 H397 x398=>?_;clear 1 x398 r54 r38 r77 2 o386
          cases b394 with
          | true =>
           clear 3;exact AN (K:=K) (rest:=BV) (σ:=[some Aw,some v53,some v34,some v73,some v79,some v86,some v196,v148,v198,some v284,some v376]) DJ hm xt.gh fun v399 G400 H401 x402 r403=>q v399 G400 H401 (xt.trans x402) r403
          | false =>
           clear 4;clear 2 a404 h405 z412 h406;refine FM rfl o386 BD h405 h406 xt.gh fun G407 H408 w409 x410 o411=>?_;have xt:Ext G0 H0 G407 (upd H408 p377 (.lst (vs379++[w409]))):=(xt.trans x410).put hz384 o411.o1.g;clear 0 x410 r54 r38 r77;refine GA (K:=K) rfl o411 xt.gh fun o413=>?_;have xt:=xt.put (o:=.lst []) hz385 o413.o2.g;exact AN (K:=K) (Aq (m:=BR) (NV.ev (Ea (m:=Bm) (A7 r77))) (Ad (EU (AF (Ad (A7 r54)) (AF (Ad (A7 r38)) (BJ (α:=D))))))) hm xt.gh fun v417 G418 H419 x420 r421=>q v417 G418 H419 (xt.trans x420) r421
   ·clear 5
end
def abcN:List Nat:=List.range' 97 26
def one (c:Nat):Str:=⟨#[c]⟩
theorem Ja:("abcdefghijklmnopqrstuvwxyz" : Str).cps.toList=abcN:=by decide +kernel
theorem HE (x:Str):GE x=x.cps.toList.map one:=rfl
theorem abc_pw:abcN.Pairwise (· < ·):=List.pairwise_lt_range'
def Mom (x:Str):Prop:=x.cps.toList.Sublist abcN
theorem inS_one (c:Nat)(x:Str):inS (one c) x=decide (c∈x.cps.toList):=by
 unfold inS one;exact StrLaws.found_one x c
theorem Mom.pw {x:Str}(h:Mom x):x.cps.toList.Pairwise (· < ·):=abc_pw.sublist h
theorem Mom.len {x:Str}(h:Mom x):x.length<=26:=by
 have:=List.Sublist.length_le h;exact this
theorem pw_eq {a b:List Nat}(ha:a.Pairwise (· < ·))(hb:b.Pairwise (· < ·))(h:∀ x,x∈a ↔ x∈b):a=b :=
 List.Perm.eq_of_pairwise (le:=(· < ·)) (fun x y _ _ h1 h2=>absurd h1 (Nat.lt_asymm h2)) ha hb ((List.perm_ext_iff_of_nodup (ha.imp fun h=>qpB h) (hb.imp fun h=>qpB h)).mpr h)
theorem J9 {n i:Nat}{a:Int}(h:((List.range n).map fun (i:Nat)=>(0:Int)+(i:Int))[i]? = some a):i<n/\a=(i:Int):=by
 have hi:i<n:=by simpa using (qpA.mp h).1
 refine ⟨hi,?_⟩;simp [hi] at h;omega
theorem Dy (n:Nat):((List.range n).map fun (i:Nat)=>(0:Int)+(i:Int)).length=n:=by rw [qdA,List.length_range]
theorem Bg (s:Scr)(k:Int)(h0:0<=k)(h1:k<=100){P:Int->Prop}(hp:∀ n,P n):OK (AU s k) P:=by
 unfold AU;simp only [qdB,AE,AR];refine AY (fun h=>Gq h0 (of_decide_eq_true h) fun x _=>hp x) fun _=>?_;refine Bx (P:=fun z:Int=>-(2 ^ 64)<z/\z<2 ^ 64) (AY (fun h=>?_) fun _=>AC (by omega)) fun z hz=>A9 (ok_mul (.inl hz) (AC (hp _)));have h:=of_decide_eq_true h;refine A9 (Iz h (A9 (Gq (qfB _ (by omega)) (qgB _ h) fun x _=>AC ?_)));have a0:=qfB (x * 48271+k * 7919) (b:=2147483647) (by decide);have a1:=qgB (x * 48271+k * 7919) (b:=2147483647) (by decide);omega
theorem DI (a b:Nat):decide ([a] < [b])=decide (a<b):=decide_eq_decide.mpr (sing_lt a b)
theorem FK {x:Str}(h:Mom x):B2 x=some true:=by
 refine OK.eq ?_;unfold B2;simp only [qdB,AE,AR,Bool.not_true,cond_false];have hp:=h.pw
 have hm:∀ c∈x.cps.toList,97<=c/\c<=122:=fun c hc=>by
  have:=(List.Sublist.subset h) hc;unfold abcN at this;have:=List.mem_range'_1.mp this;omega
 have a1:("a" : Str).cps.toList=[97]:=by decide +kernel
 have z1:("z" : Str).cps.toList=[122]:=by decide +kernel
 have e0:("" : Str).cps.toList=[]:=by decide +kernel
 rw [HE];refine A9 (FS (fun i (s:Str)=>(i=0/\s = "")\/∃ c,x.cps.toList[i - 1]? = some c/\s=one c/\0<i) (.inl ⟨rfl,rfl⟩) (fun i a s ha hI=>?_) fun s _=>AC rfl)
 obtain ⟨c,hc,rfl⟩:∃ c,x.cps.toList[i]? = some c/\a=one c:=by
  rw [qrA] at ha;obtain ⟨c,h1,h2⟩:=Option.map_eq_some_iff.mp ha;exact ⟨c,h1,h2.symm⟩
 have hcb:=hm c (qoA hc);have oc:(one c).cps.toList=[c]:=rfl
 have hlast:decide (s.cps.toList<(one c).cps.toList)=true:=by
  rcases hI with ⟨_,rfl⟩ | ⟨d,hd,rfl,h0⟩
  ·rw [e0,oc]
   rfl
  ·show decide ([d] < [c])=true;rw [DI,decide_eq_true_iff];obtain ⟨h1,h2⟩:=qpA.mp hc;obtain ⟨h3,h4⟩:=qpA.mp hd;have:=List.pairwise_iff_getElem.mp hp (i - 1) i h3 h1 (by omega);rw [h2,h4] at this;exact this
 rw [hlast,a1,z1,oc,DI,DI,decide_eq_false (by omega),decide_eq_false (by omega)];simp only [Bool.not_true,Bool.or_self,cond_false];exact AC ⟨_,rfl,.inr ⟨c,by simpa using hc,rfl,by omega⟩⟩
open Builtin Builtin.Str in
theorem GP (x y:Str)(c0:Nat)(r:List Nat)(hy:y.cps.toList=c0::r):∀ (ps:List Str) (a:Nat) (cuts:List Nat) (f:Nat),ps ≠ []->(∀ p∈ps,c0 ∉ p.cps.toList)->x.cps.toList.drop a=(Str.join y ps).cps.toList ->
  StrLaws.ChainG x y x.length a cuts f->(∀ k,f<=k->¬ StrLaws.At x y x.length k)->StrLaws.partsFrom x y.length a cuts=ps
 | [],_,_,_,h,_,_,_,_=>absurd rfl h
 | [p],a,cuts,f,_,hf,hd,hG,hn=>by
  have hL:x.cps.toList.length=x.length:=qoB;have hd:x.cps.toList.drop a=p.cps.toList:=hd
  have no:∀ k,a<=k->¬ StrLaws.At x y x.length k:=fun k hk hA=>by
   have e:=eq_of_beq ((StrLaws.subAt_eq x y k).symm.trans hA.2);rw [hy] at e;have hyl:y.length=(c0::r).length:=by rw [<- hy];exact qoB.symm
   have e2:x.cps.toList.drop k=p.cps.toList.drop (k - a):=by rw [<- hd,List.drop_drop];congr 1;omega
   have hm:c0∈p.cps.toList:=by
    have:c0∈(x.cps.toList.drop k).take y.length:=by rw [e];exact qkA
    rw [e2] at this;exact List.mem_of_mem_drop (List.mem_of_mem_take this)
   exact hf p qkA hm
  cases cuts with
  | cons c cs=>exact absurd hG.2.1 (no c hG.1)
  | nil =>
   show [strSub x a x.length]=[p]
   congr 1
   apply Str.ext';apply Array.toList_inj.mp;rw [StrLaws.strSub_toList,hd];refine List.take_of_length_le ?_;rw [<- hd,List.length_drop,hL];omega
 | p::q::ps,a,cuts,f,_,hf,hd,hG,hn=>by
  have hL:x.cps.toList.length=x.length:=qoB;have hyl:y.length=(c0::r).length:=by rw [<- hy];exact qoB.symm
  have hyp:1<=y.length:=by rw [hyl,qfA];omega
  have hpl:p.cps.toList.length=p.length:=qoB
  have hd:x.cps.toList.drop a=p.cps.toList++((c0::r)++(Str.join y (q::ps)).cps.toList):=by
   rw [hd];show (p++y++Str.join y (q::ps)).cps.toList=_;simp only [Str.cps_append,Array.toList_append,hy,qtA]
  have hlen:x.length - a=p.length+(y.length+(Str.join y (q::ps)).cps.toList.length):=by
   have:=congrArg List.length hd;rw [List.length_drop,hL,qeA,qeA,hpl,<- hyl] at this;exact this
  have hc:StrLaws.At x y x.length (a+p.length):=by
   refine ⟨by omega,?_⟩;rw [StrLaws.subAt_eq,<- List.drop_drop,hd,<- hpl,List.drop_left,hyl,List.take_left,<- hy];exact beq_self_eq_true _
  have no:∀ k,a<=k->k<a+p.length->¬ StrLaws.At x y x.length k:=fun k hk hk2 hA=>by
   have e:=eq_of_beq ((StrLaws.subAt_eq x y k).symm.trans hA.2)
   have e2:x.cps.toList.drop k=p.cps.toList.drop (k - a)++((c0::r)++(Str.join y (q::ps)).cps.toList):=by
    rw [<- List.drop_append_of_le_length (by rw [hpl];omega),<- hd,List.drop_drop]
    congr 1
    omega
   rw [hy,e2,hyl] at e
   cases hz:p.cps.toList.drop (k - a) with
   | nil =>
    have:=congrArg List.length hz;rw [List.length_drop,hpl,List.length_nil] at this;omega
   | cons z zs =>
    rw [hz,List.cons_append,qfA,List.take_succ_cons] at e;have e3:=(List.cons.inj e).1;subst e3;exact hf p qkA (List.mem_of_mem_drop (hz ▸ qkA))
  cases cuts with
  | nil =>
   have e:f=a:=hG;exact absurd hc (hn _ (by omega))
  | cons c cs =>
   obtain ⟨h1,h2,h3,h4⟩:=hG
   have ec:c=a+p.length:=by
    by_cases h:c<a+p.length
    ·exact absurd h2 (no c h1 h)
    ·by_cases h':a+p.length<c
     ·exact absurd hc (h3 _ (by omega) h')
     ·omega
   subst ec;show strSub x a (a+p.length)::StrLaws.partsFrom x y.length (a+p.length+y.length) cs=_;rw [GP x y c0 r hy (q::ps) _ cs f (fun z=>nomatch z) (fun z hz=>hf z (qmA _ hz)) ?_ h4 hn]
   ·congr 1
    apply Str.ext';apply Array.toList_inj.mp;rw [StrLaws.strSub_toList,hd,Nat.add_sub_cancel_left,<- hpl,List.take_left]
   ·rw [<- List.drop_drop,<- List.drop_drop,hd,<- hpl,List.drop_left,hyl,List.drop_left]
open Builtin Builtin.Str in
theorem JC (y:Str)(c0:Nat)(r:List Nat)(hy:y.cps.toList=c0::r)(ps:List Str)(h0:ps ≠ [])(hf:∀ p∈ps,c0 ∉ p.cps.toList):Txt.split (Str.join y ps) y=ps:=by
 generalize hx:Str.join y ps=x;have hyl:y.length=(c0::r).length:=by rw [<- hy];exact qoB.symm
 obtain ⟨f,hG,hn⟩:=StrLaws.occ_tight x y (by rw [hyl,qfA];omega);have key:=GP x y c0 r hy ps 0 _ f h0 hf (by rw [hx];rfl) hG hn
 have one:∀ {z:Bool},occurrences x y 0 x.length (x.length+1)=[]->[x]=ps:=fun e=>by
  rw [e] at key;rw [<- key];show [x]=[strSub x 0 x.length];rw [StrLaws.sub_whole]
 unfold Txt.split
 cases ho:occurrences x y 0 x.length (x.length+1) with
 | nil =>
  have o:=one (z:=true) ho;split
  ·exact o
  ·rw [if_pos (show ([]:List Nat).isEmpty=true from rfl)];exact o
 | cons c cs =>
  rw [ho] at hG;have hA:=hG.2.1
  have k1:¬ (decide (x.length<y.length) || decide (strKind x<strKind y))=true:=by
   rw [Bool.or_eq_true,decide_eq_true_eq,decide_eq_true_eq];rintro (h|h)
   ·have:=hA.1;omega
   ·have:=PySem.W.kind_le x y hA.2;omega
  rw [if_neg k1,if_neg (by simp),StrLaws.partsBetween_eq,<- ho];exact key
theorem KA {y:Str}{c0:Nat}{r:List Nat}(hy:y.cps.toList=c0::r){ps:List Str}(h0:ps ≠ [])(hf:∀ p∈ps,c0 ∉ p.cps.toList)(hl:(Str.join y ps).length<=100000):Ev (Str.join y ps) y=some ps:=by
 have hs:sizeLine=16777216:=qcB;have hyl:y.length=(c0::r).length:=by rw [<- hy];exact qoB.symm
 have e:=JC y c0 r hy ps h0 hf;have l1:=split_le (Str.join y ps) y;unfold Ev;rw [e] at l1 ⊢;refine if_pos ⟨?_,by omega,?_,by omega,?_⟩
 ·rw [hyl,qfA];omega
 ·rw [len_partsBetween];have:=StrLaws.occ_length_le_len (Str.join y ps) y 0 (Str.join y ps).length ((Str.join y ps).length+1);omega
 ·refine List.all_eq_true.mpr fun z hz=>decide_eq_true ?_;have:=part_short (x:=Str.join y ps) (y:=y) (by rw [e];exact hz);omega
theorem joinO_eq {z:Str}{ys:List Str}(h:(ys.map (·.length)).sum+ys.length * z.length<=16777216):HG z ys=some (Str.join z ys):=by
 unfold HG;rw [if_pos h];exact congrArg some (StrLaws.glued_eq_join z ys)
theorem sum_le {l:List Str}{k:Nat}(h:∀ x∈l,x.length<=k):(l.map (·.length)).sum<=l.length * k:=by
 induction l with
 | nil=>exact qsB _
 | cons a l ih =>
  have h1:=h a qkA;have h2:=ih fun x hx=>h x (qmA _ hx);rw [qsA,List.sum_cons,qfA,Nat.succ_mul];omega
theorem join_le' {y:Str}{l:List Str}{k n:Nat}(h:∀ x∈l,x.length<=k)(hn:l.length<=n):(l.map (·.length)).sum+l.length * y.length<=n * (k+y.length):=by
 have:=sum_le h
 have:l.length * k+l.length * y.length<=n * (k+y.length):=by
  rw [<- Nat.mul_add];exact Nat.mul_le_mul_right _ hn
 omega
theorem sp_len:(" " : Str).length=1:=by decide +kernel
theorem sp_cps:(" " : Str).cps.toList=32::[]:=by decide +kernel
theorem cut_hi {α:Type}(xs:List α)(k:Nat):Fj xs none (some (k:Int))=xs.take k:=by
 unfold Fj;rw [HT.sIx_none,HT.sIx_nat,List.drop_zero,Nat.sub_zero];by_cases h:k<=xs.length
 ·rw [Nat.min_eq_left h]
 ·rw [Nat.min_eq_right (by omega),List.take_length,List.take_of_length_le (by omega)]
theorem cut_lo {α:Type}(xs:List α)(k:Nat):Fj xs (some (k:Int)) none=xs.drop k:=by
 unfold Fj;rw [HT.sIx_none,HT.sIx_nat];by_cases h:k<=xs.length
 ·rw [Nat.min_eq_left h,List.take_of_length_le (by rw [List.length_drop];omega)]
 ·rw [Nat.min_eq_right (by omega),Nat.sub_self,List.take_zero,List.drop_of_length_le (by omega)]
def mo (x:Str):Str:=if x = "" then "-" else x
theorem Jq:Mom "" := by
 unfold Mom;rw [show ("" : Str).cps.toList=[] from by decide +kernel];exact List.nil_sublist _
instance (x:Str):Decidable (Mom x):=inferInstanceAs (Decidable (List.Sublist _ _))
def rdw (w:Str):Option Str:=if w = "-" then some "" else if w = "" then none else if Mom w then some w else none
def Good (l:List Nat)(i:Nat):Prop:=∀ c,l[i]? = some c->97<=c/\c<=122/\∀ d,0<i->l[i - 1]? = some d->d<c
theorem Hx {x:Str}(h:∀ i,i<x.cps.toList.length->Good x.cps.toList i):Mom x:=by
 generalize hx:x.cps.toList=l at h
 have step:∀ (j i:Nat) (hj:j<l.length) (hi:i<l.length),i<j->l[i]<l[j]:=by
  intro j
  induction j with
  | zero=>intro i hj hi h0;omega
  | succ j ih =>
   intro i hj hi hij;have h1:=(h (j+1) hj l[j+1] (qqA hj)).2.2 l[j] (by omega) (qqA (by omega));by_cases e:i=j
   ·subst e;exact h1
   ·exact Nat.lt_trans (ih i (by omega) hi (by omega)) h1
 have pw:l.Pairwise (· < ·):=List.pairwise_iff_getElem.mpr fun i j hi hj hij=>step j i hj hi hij
 have mem:∀ c∈l,c∈abcN:=fun c hc=>by
  obtain ⟨i,hi,e⟩:=List.getElem_of_mem hc;have:=h i hi c (by rw [qqA hi,e]);unfold abcN;exact List.mem_range'_1.mpr ⟨this.1,by omega⟩
 unfold Mom;rw [hx]
 have:l=abcN.filter (fun c=>decide (c∈l)):=pw_eq pw (abc_pw.sublist List.filter_sublist) fun x=>by
  rw [List.mem_filter];exact ⟨fun h=>⟨mem x h,decide_eq_true h⟩,fun h=>of_decide_eq_true h.2⟩
 exact this ▸ List.filter_sublist
theorem mom_good {x:Str}(h:Mom x)(i:Nat):Good x.cps.toList i:=fun c hc=>by
 have hm:c∈abcN:=List.Sublist.subset h (qoA hc);unfold abcN at hm;have hm:=List.mem_range'_1.mp hm;refine ⟨by omega,by omega,fun d h0 hd=>?_⟩;obtain ⟨h1,h2⟩:=qpA.mp hc;obtain ⟨h3,h4⟩:=qpA.mp hd;have:=List.pairwise_iff_getElem.mp h.pw (i - 1) i h3 h1 (by omega);rw [h2,h4] at this;exact this
theorem KP (x:Str):B2 x=some (decide (Mom x)):=by
 by_cases hM:Mom x
 ·rw [decide_eq_true hM];exact FK hM
 rw [decide_eq_false hM];refine OK.eq ?_;unfold B2;simp only [qdB,AE,AR,Bool.not_true,cond_false];have a1:("a" : Str).cps.toList=[97]:=by decide +kernel
 have z1:("z" : Str).cps.toList=[122]:=by decide +kernel
 have e0:("" : Str).cps.toList=[]:=by decide +kernel
 rw [HE];refine A9 (Ig (fun i (s:Str)=>((i=0/\s = "")\/∃ c,x.cps.toList[i - 1]? = some c/\s=one c/\0<i)/\∀ j,j<i->Good x.cps.toList j) (fun _=>False) (fun r=>r=false) ⟨.inl ⟨rfl,rfl⟩,fun j hj=>absurd hj (Nat.not_lt_zero _)⟩ (fun i a s ha ⟨hI,hJ⟩=>?_) (fun s ⟨_,hJ⟩=>?_) (fun _ h=>h.elim) fun r hr=>AC hr)
 ·obtain ⟨c,hc,rfl⟩:∃ c,x.cps.toList[i]? = some c/\a=one c:=by
   rw [qrA] at ha;obtain ⟨c,h1,h2⟩:=Option.map_eq_some_iff.mp ha;exact ⟨c,h1,h2.symm⟩
  have oc:(one c).cps.toList=[c]:=rfl;refine AY (fun _=>AC rfl) fun h=>AC ⟨.inr ⟨c,by simpa using hc,rfl,by omega⟩,fun j hj=>?_⟩;by_cases e:j=i
  ·subst e;rw [a1,z1,oc,DI,DI] at h;simp only [Bool.or_eq_false_iff,decide_eq_false_iff_not,Bool.not_eq_false'] at h;intro c' hc';obtain rfl:c=c':=qyA (hc.symm.trans hc');refine ⟨by omega,by omega,fun d h0 hd=>?_⟩;rcases hI with ⟨h1,_⟩ | ⟨d',hd',rfl,_⟩
   ·omega
   ·obtain rfl:d=d':=qyA (hd.symm.trans hd');have:=h.2.2;rw [show (one d).cps.toList=[d] from rfl,DI] at this;exact of_decide_eq_true this
  ·exact hJ j (by omega)
 ·refine absurd (Hx fun i hi=>hJ i ?_) hM
  rwa [qdA]
theorem HQ (w:Str)(hw:w.length<=1000000):Ay w=some (rdw w):=by
 have hs:sizeLine=16777216:=qcB;refine OK.eq ?_;unfold Ay rdw;simp only [qdB,AE,AR];refine AY (fun h=>?_) fun h=>?_
 ·rw [if_pos (of_decide_eq_true h)];exact AC rfl
 rw [if_neg (of_decide_eq_false h)];refine A9 (F5 (n:=w.length) (by omega) (by omega) (by omega) ?_);refine A9 (Ig (fun i _=>∀ j,j<i->Good w.cps.toList j) (fun _=>False) (fun r=>r=none/\¬ Mom w) (fun j hj=>absurd hj (Nat.not_lt_zero _)) (fun i a s ha hJ=>?_) (fun s hJ=>?_) (fun _ h=>h.elim) fun r ⟨hr,hM⟩=>AC ?_)
 ·obtain ⟨hi,rfl⟩:=J9 ha;have hi':i<w.cps.toList.length:=by rw [qoB];exact hi
  obtain ⟨c,hc⟩:∃ c,w.cps.toList[i]? = some c:=⟨_,qqA hi'⟩;have ec:atI w.cps.toList (i:Int)=some c:=CY hc;simp only [ec,AE];have ei:inS (⟨#[c]⟩:Str) ("abcdefghijklmnopqrstuvwxyz" : Str)=decide (c∈abcN):=(inS_one c _).trans (by rw [Ja]);rw [ei];refine Bx (P:=fun b=>b=false ↔ Good w.cps.toList i) (AY (fun hb=>AC ?_) fun hb=>?_) fun b hb=>AY (fun h=>AC ⟨rfl,fun hM=>?_⟩) fun h=>AC fun j hj=>?_
  ·have hb:c ∉ abcN:=by simpa using hb
   refine ⟨fun z=>Bool.noConfusion z,fun g=>absurd ?_ hb⟩;have:=g c hc;unfold abcN;exact List.mem_range'_1.mpr ⟨this.1,by omega⟩
  ·have hb:c∈abcN:=by simpa using hb
   unfold abcN at hb;have hb:=List.mem_range'_1.mp hb;refine AY (fun h0=>?_) fun h0=>AC ⟨fun _ c' hc'=>?_,fun _=>rfl⟩
   ·have h0:=of_decide_eq_true h0;obtain ⟨k,rfl⟩:∃ k,i=k+1:=⟨i - 1,by omega⟩;obtain ⟨d,hd⟩:∃ d,w.cps.toList[k]? = some d:=⟨_,qqA (by omega)⟩
    have ed:atI w.cps.toList (((k+1:Nat):Int) - 1)=some d:=by
     rw [show (((k+1:Nat):Int) - 1)=(k:Int) by omega];exact CY hd
    simp only [ed,AE];refine AC ?_;show (!decide ([d] < [c]))=false ↔ _;rw [DI];simp only [Bool.not_eq_false',decide_eq_true_eq];refine ⟨fun hlt c' hc'=>?_,fun g=>(g c hc).2.2 d (by omega) hd⟩;obtain rfl:c=c':=qyA (hc.symm.trans hc');refine ⟨by omega,by omega,fun d' _ hd'=>?_⟩;obtain rfl:d=d':=qyA (hd.symm.trans hd');exact hlt
   ·have h0:=of_decide_eq_false h0;obtain rfl:c=c':=qyA (hc.symm.trans hc');exact ⟨by omega,by omega,fun d h1 _=>by omega⟩
  ·have:=hb.mpr (mom_good hM i);rw [this] at h;exact Bool.noConfusion h
  ·by_cases e:j=i
   ·subst e;exact hb.mp h
   ·exact hJ j (by omega)
 ·rw [Dy] at hJ;have hM:Mom w:=Hx fun i hi=>hJ i (by rwa [qoB] at hi);refine AY (fun h=>AC ?_) fun h=>AC ?_
  ·rw [if_pos (of_decide_eq_true h)]
  ·rw [if_neg (of_decide_eq_false h),if_pos hM]
 ·rw [hr,if_neg hM];split<;>rfl
theorem rdw_mom {w x:Str}(h:rdw w=some x):Mom x:=by
 unfold rdw at h;split at h
 ·cases h;exact Jq
 split at h
 ·cases h
 split at h
 ·cases h;assumption
 ·cases h
theorem rdw_mo {x:Str}(h:Mom x):rdw (mo x)=some x:=by
 unfold mo rdw;by_cases e:x = ""
 ·rw [if_pos e,if_pos rfl,e]
 ·rw [if_neg e,if_neg,if_neg e,if_pos h];rintro rfl;exact absurd h (by decide +kernel)
def rdx (w:Str):Except Str Str:=match rdw w with|some x=>.ok x|none=>.error "NoText"
theorem De (w:Str):Ab w=some (rdx w):=by
 unfold Ab rdx rdw;simp only [AE,KP];by_cases h1:w = "-"
 ·rw [if_pos h1,decide_eq_true h1];rfl
 rw [if_neg h1,decide_eq_false h1];by_cases h2:w = ""
 ·rw [if_pos h2,decide_eq_true h2];rfl
 rw [if_neg h2,decide_eq_false h2];by_cases h3:Mom w
 ·rw [if_pos h3,decide_eq_true h3];rfl
 ·rw [if_neg h3,decide_eq_false h3];rfl
abbrev Ow:=List (Option Str)
def sd:List Str->List Ow->Ow->List Ow
 | [],I,l=>I++[l]
 | w::ws,I,l=>if w=("/" : Str) then sd ws (I++[l]) [] else sd ws I (l++[rdw w])
theorem Ir (I:List Ow)(l:Ow)(x:Option Str)(h:l.length<16777216):IQ (I++[l]) (-(1:Int)) x=some (I++[l++[x]]):=by
 have hs:sizeLine=16777216:=qcB
 have e:ixN (I++[l]).length (-(1:Int))=some I.length:=by
  unfold ixN;rw [if_neg (by decide),qeA,qgA,if_pos (by omega)]
  congr 1
  omega
 unfold IQ;rw [e,AE,List.getElem?_append_right (qvA _),Nat.sub_self];show ((some l).bind fun l_1=>(Cs l_1 x).bind fun l'=>some ((I++[l]).set I.length l'))=_;rw [AE,show Cs l x=some (l++[x]) from if_pos (by omega),AE,List.set_append_right _ _ (qvA _),Nat.sub_self]
 rfl
theorem HR:∀ (ws:List Str) (I:List Ow) (l:Ow),I.length+l.length+ws.length<=2000000->(∀ w∈ws,w.length<=1000000) ->
  ER (S:=List (List (Option Str))) (ρ:=Unit) (fun (part_:Str) s10 =>
   (some (decide (part_=("/" : Str)))).bind fun b23=>cond b23
    ((Cs s10 ([]:List (Option Str))).bind fun z=>some (Fl.nx z))
    (((some part_).bind fun t1=>Ay t1).bind fun x=>(IQ s10 (-(1:Int)) x).bind fun z=>some (Fl.nx z))) ws (I++[l])=some (.nx (sd ws I l))
 | [],I,l,_,_=>rfl
 | w::ws,I,l,hl,hw=>by
  have hs:sizeLine=16777216:=qcB;rw [qfA] at hl;unfold ER sd;by_cases h:w=("/" : Str)
  ·rw [if_pos h,decide_eq_true h];have e:Cs (I++[l]) ([]:Ow)=some (I++[l]++[[]]):=if_pos (by rw [qeA,qgA];omega);simp only [AE,cond_true,e];exact HR ws (I++[l]) [] (by rw [qeA,qgA,List.length_nil];omega) fun x hx=>hw x (qmA _ hx)
  ·rw [if_neg h,decide_eq_false h];simp only [AE,cond_false,HQ w (hw w qkA),Ir I l _ (show l.length<16777216 by omega)];exact HR ws I (l++[rdw w]) (by rw [qeA,qgA];omega) fun x hx=>hw x (qmA _ hx)
theorem Il:∀ (ws:List Str) (I:List Ow) (l:Ow),(sd ws I l).length=I.length+1+ws.count ("/" : Str)
 | [],I,l=>by show (I++[l]).length=_;rw [qeA,qgA,List.count_nil]
 | w::ws,I,l=>by
  unfold sd;by_cases h:w=("/" : Str)
  ·rw [if_pos h,Il ws,qeA,qgA,h,List.count_cons_self];omega
  ·rw [if_neg h,Il ws,List.count_cons_of_ne h]
theorem sd_no:∀ (ws:List Str) (I:List Ow) (l:Ow),("/" : Str) ∉ ws->sd ws I l=I++[l++ws.map rdw]
 | [],I,l,_=>by show I++[l]=I++[l++[]];rw [quA]
 | w::ws,I,l,h=>by
  unfold sd;rw [if_neg fun (e:w=("/" : Str))=>h (e ▸ qkA),sd_no ws _ _ fun e=>h (qmA _ e),qtA]
  rfl
theorem sd_two:∀ (A B:List Str) (I:List Ow) (l:Ow),("/" : Str) ∉ A->sd (A++("/" : Str)::B) I l=sd B (I++[l++A.map rdw]) []
 | [],B,I,l,_=>by
  show (if ("/" : Str)=("/" : Str) then _ else _)=_;rw [if_pos rfl,List.map_nil,quA]
 | w::A,B,I,l,h=>by
  show (if w=("/" : Str) then _ else sd (A++("/" : Str)::B) I (l++[rdw w]))=_;rw [if_neg fun (e:w=("/" : Str))=>h (e ▸ qkA),sd_two A B _ _ fun e=>h (qmA _ e),qtA]
  rfl
theorem FT:∀ {l:List Str}{xs:List Str},l.map rdw=xs.map some->Ez (fun (Bj:Str)=>(some Bj).bind fun t32=>Ab t32) l=some (.ok xs)
 | [],[],_=>rfl
 | [],x::xs,h=>by cases h
 | w::l,[],h=>by cases h
 | w::l,x::xs,h=>by
  have h1:rdw w=some x:=(List.cons.inj h).1;have h2:l.map rdw=xs.map some:=(List.cons.inj h).2;unfold Ez;rw [AE,De,AE,FT h2];unfold rdx;rw [h1]
  rfl
theorem Fn:∀ {l:List Str},none∈l.map rdw->Ez (fun (Bj:Str)=>(some Bj).bind fun t32=>Ab t32) l=some (.error "NoText")
 | [],h=>by cases h
 | w::l,h=>by
  unfold Ez;rw [AE,De,AE];unfold rdx
  cases hw:rdw w with
  | none=>rfl
  | some x =>
   rw [qsA,hw] at h;rcases qhA.mp h with h|h
   ·cases h
   ·show ((Ez _ l).bind _)=_;rw [Fn h];rfl
theorem Ik:∀ (l:List Str),none∈l.map rdw\/∃ xs:List Str,l.map rdw=xs.map some/\∀ x∈xs,Mom x
 | []=>.inr ⟨[],rfl,fun x hx=>by cases hx⟩
 | w::l=>by
  cases hw:rdw w with
  | none=>exact .inl (by rw [qsA,hw];exact qkA)
  | some x =>
   rcases Ik l with h | ⟨xs,h,hm⟩
   ·exact .inl (qmA _ h)
   ·refine .inr ⟨x::xs,by rw [qsA,hw,h];rfl,fun y hy=>?_⟩;rcases qhA.mp hy with rfl|hy
    ·exact rdw_mom hw
    ·exact hm y hy
theorem GJ {l:List Str}(h:∀ x∈l,Mom x):Ar l=some (decide (l.length<=3000)):=by
 refine OK.eq ?_;unfold Ar;simp only [qdB,AE,AR,Bool.not_true,Bool.false_or];refine AY (fun q=>AC ?_) fun q=>?_
 ·have:=of_decide_eq_true q;rw [decide_eq_false (by omega)]
 ·have:=of_decide_eq_false q;refine A9 (GK (g:=fun _=>true) (fun x hx=>FK (h x hx)) (AC ?_));rw [decide_eq_true (by omega)];simp
theorem K7 {a b:List Str}(ha:∀ x∈a,Mom x)(hb:∀ x∈b,Mom x):CH (a,b)=some (decide (a.length<=3000) && (decide (b.length<=3000) && decide (0<b.length))):=by
 unfold CH;rw [AE];show (some (a,b).1 |>.bind _).bind _=_;simp only [qdB,AE,AR,GJ ha,GJ hb];rw [show decide ((0:Int)<(b.length:Int))=decide (0<b.length) from decide_eq_decide.mpr (by omega)];cases decide (a.length<=3000)<;>cases decide (b.length<=3000)<;>rfl
theorem memE_t {l:Ow}(h:none∈l):JB none l=true:=by unfold JB;simpa using h
theorem memE_f {l:Ow}(h:none ∉ l):JB none l=false:=by unfold JB;simpa using h
theorem kStr (t:Str):isK "str" (.str t)=true:=by simp [isK,dk]
theorem two_eq {t:Str}{A B:List Str}(hs0:Ev t " " = some (A++("/" : Str)::B))(hA:("/" : Str) ∉ A)(hB:("/" : Str) ∉ B)(hl:A.length+B.length<=999000)(hw:∀ w∈A++("/" : Str)::B,w.length<=1000000) :
  ((none∈A.map rdw\/none∈B.map rdw\/B=[])/\Ag t=some none/\AL (.str t)=some (.error "NoText")) \/
  ∃ a b:List Str,A.map rdw=a.map some/\B.map rdw=b.map some/\Ag t=some (some (a.map some,b.map some))/\(∀ x∈a,Mom x)/\(∀ x∈b,Mom x) /\
   AL (.str t)=some (if a.length<=3000/\b.length<=3000 then .ok (a,b) else .error "NoText"):=by
 have hc:(A++("/" : Str)::B).count ("/" : Str)=1:=by
  rw [List.count_append,List.count_cons_self,List.count_eq_zero.mpr hA,List.count_eq_zero.mpr hB]
 have hi:(A++("/" : Str)::B).idxOf ("/" : Str)=A.length:=by
  rw [List.idxOf_append,if_neg hA,List.idxOf_cons_self];omega
 have hlen:(A++("/" : Str)::B).length=A.length+B.length+1:=by rw [qeA,qfA];omega
 have e1:sd (A++("/" : Str)::B) [] []=[A.map rdw,B.map rdw]:=by
  rw [sd_two A B _ _ hA,sd_no B _ _ hB]
  rfl
 have ef:=HR (A++("/" : Str)::B) [] [] (by rw [hlen,List.length_nil,List.length_nil];omega) hw;rw [e1] at ef;have at0:atI [A.map rdw,B.map rdw] (0:Int)=some (A.map rdw):=CY (j:=0) rfl;have at1:atI [A.map rdw,B.map rdw] (1:Int)=some (B.map rdw):=CY (j:=1) rfl
 have er:Ag t=(if none∈A.map rdw\/none∈B.map rdw\/B=[] then some none else some (some (A.map rdw,B.map rdw))):=by
  unfold Ag;rw [AE,AE,hs0,AE];rw [show ([[]]:List Ow)=[]++[[]] from rfl,ef,AE];simp only [AE,at0,at1];rw [show (!decide (([A.map rdw,B.map rdw].length:Int)=2))=false from rfl];simp only [cond_false,AE];by_cases h1:none∈A.map rdw
  ·rw [memE_t h1,if_pos (.inl h1)];rfl
  rw [memE_f h1];by_cases h2:none∈B.map rdw
  ·rw [memE_t h2,if_pos (.inr (.inl h2))];rfl
  rw [memE_f h2];by_cases h3:B=[]
  ·rw [if_pos (.inr (.inr h3)),h3];rfl
  ·rw [if_neg (by rintro (h|h|h)<;>contradiction),decide_eq_false (fun e=>h3 (List.map_eq_nil_iff.mp e))];rfl
 have em:AL (.str t)=(Ez (fun (Bj:Str)=>(some Bj).bind fun t32=>Ab t32) A).bind fun r1=>match r1 with
  | .error n=>some (.error n)
  | .ok CO=>(Ez (fun (Bj:Str)=>(some Bj).bind fun t32=>Ab t32) B).bind fun r2=>match r2 with
   | .error n=>some (.error n)
   | .ok C2=>(((some (CO,C2)).bind fun t58=>CH t58).bind fun t59=>(some (!t59))).bind fun b60=>cond b60
    (some (.error "NoText"))
    (some (.ok (CO,C2))):=by
  unfold AL C7;rw [AE,AE,AE,AE,kStr];show ((Ev t " ").bind _)=_;rw [hs0,AE,AE,hc];rw [show (!decide (((1:Nat):Int)=1))=false from rfl];simp only [cond_false,AE]
  have ei:idxL (A++("/" : Str)::B) ("/" : Str)=some (A.length:Int):=by
   unfold idxL;rw [if_pos ⟨qrB _ qkA,by rw [hlen];omega⟩,hi]
  rw [ei,AE,cut_hi,show ((A.length:Int)+1)=((A.length+1:Nat):Int) from by omega,cut_lo,List.take_left];rw [show (A++("/" : Str)::B).drop (A.length+1)=B from by rw [<- List.drop_drop,List.drop_left];rfl]
  try rfl
 rcases Ik A with h1 | ⟨a,h1,ma⟩
 ·exact .inl ⟨.inl h1,by rw [er,if_pos (.inl h1)],by rw [em,Fn h1];rfl⟩
 rcases Ik B with h2 | ⟨b,h2,mb⟩
 ·exact .inl ⟨.inr (.inl h2),by rw [er,if_pos (.inr (.inl h2))],by rw [em,FT h1,AE,Fn h2];rfl⟩
 have hab:B=[] ↔ b=[]:=by
  rw [<- List.map_eq_nil_iff (f:=rdw) (l:=B),h2,List.map_eq_nil_iff]
 have em2:AL (.str t)=cond (!(decide (a.length<=3000) && (decide (b.length<=3000) && decide (0<b.length)))) (some (.error "NoText")) (some (.ok (a,b))):=by
  rw [em,FT h1,AE,FT h2];show ((CH (a,b)).bind fun t59=>some (!t59)).bind _=_;rw [K7 ma mb]
  rfl
 by_cases h3:B=[]
 ·refine .inl ⟨.inr (.inr h3),by rw [er,if_pos (.inr (.inr h3))],?_⟩;rw [em2,hab.mp h3];simp
 ·have h3':0<b.length:=List.length_pos_iff.mpr fun e=>h3 (hab.mpr e);refine .inr ⟨a,b,h1,h2,?_,ma,mb,?_⟩
  ·rw [er,if_neg,h1,h2];rw [h1,h2];rintro (h|h|h)
   ·simp at h
   ·simp at h
   ·exact h3 h
  ·rw [em2,decide_eq_true h3'];by_cases k1:a.length<=3000
   ·by_cases k2:b.length<=3000
    ·rw [decide_eq_true k1,decide_eq_true k2,if_pos ⟨k1,k2⟩];rfl
    ·rw [decide_eq_false k2,if_neg fun h=>k2 h.2];simp
   ·rw [decide_eq_false k1,if_neg fun h=>k1 h.1];rfl
theorem read_any {t:Str}{ws:List Str}(hs0:Ev t " " = some ws)(hl:ws.length<=900000)(hw:∀ w∈ws,w.length<=1000000) :
  (Ag t=some none/\AL (.str t)=some (.error "NoText")) \/
  ∃ a b:List Str,Ag t=some (some (a.map some,b.map some)) /\
   AL (.str t)=some (if a.length<=3000/\b.length<=3000 then .ok (a,b) else .error "NoText"):=by
 by_cases hc:ws.count ("/" : Str)=1
 ·have hm:("/" : Str)∈ws:=List.count_pos_iff.mp (by omega);obtain ⟨A,B,rfl,hA⟩:=List.eq_append_cons_of_mem hm
  have hB:("/" : Str) ∉ B:=fun h=>by
   rw [List.count_append,List.count_cons_self] at hc;have:=List.count_pos_iff.mpr h;omega
  rcases two_eq hs0 hA hB (by rw [qeA,qfA] at hl;omega) hw with ⟨_,h⟩ | ⟨a,b,_,_,h1,_,_,h2⟩
  ·exact .inl h
  ·exact .inr ⟨a,b,h1,h2⟩
 ·refine .inl ⟨?_,?_⟩
  ·have ef:=HR ws [] [] (by rw [List.length_nil,List.length_nil];omega) hw;have hn:=Il ws [] [];unfold Ag;rw [AE,AE,hs0,AE];rw [show ([[]]:List Ow)=[]++[[]] from rfl,ef,AE];simp only [AE];rw [show (!decide (((sd ws [] []).length:Int)=2))=true from by rw [hn,List.length_nil,decide_eq_false (by omega)];rfl]
   rfl
  ·unfold AL C7;rw [AE,AE,AE,AE,kStr];show ((Ev t " ").bind _)=_;rw [hs0,AE,AE];rw [show (!decide (((ws.count ("/" : Str):Nat):Int)=1))=true from by rw [decide_eq_false (by omega)];rfl]
   rfl
theorem splO_any {t:Str}(h:t.length<=800000):∃ ws,Ev t " " = some ws/\ws.length<=900000/\∀ w∈ws,w.length<=1000000:=by
 have hs:sizeLine=16777216:=qcB;have l1:=split_le t " "
 have l2:∀ z∈Txt.split t " ",z.length<=t.length:=fun z hz=>by
  have:=part_short (x:=t) (y := " ") hz;omega
 refine ⟨Txt.split t " ",if_pos ⟨?_,by omega,?_,by omega,?_⟩,by omega,fun w hw=>by have:=l2 w hw;omega⟩
 ·rw [sp_len];decide
 ·rw [len_partsBetween];have:=StrLaws.occ_length_le_len t " " 0 t.length (t.length+1);omega
 ·refine List.all_eq_true.mpr fun z hz=>decide_eq_true ?_;have:=l2 z hz;omega
theorem JN (k:Nat)(hk:k<26):atI ("abcdefghijklmnopqrstuvwxyz" : Str).cps.toList (k:Int)=some (97+k):=by
 rw [Ja];refine CY ?_;unfold abcN;rw [List.getElem?_range' hk]
 congr 1
 omega
theorem IB (k:Nat)(hk:k<26):abcN.take (k+1)=abcN.take k++[97+k]:=by
 have:abcN[k]? = some (97+k):=by
  unfold abcN;rw [List.getElem?_range' hk]
  congr 1
  omega
 rw [List.take_add_one,this]
 rfl
theorem Ee (c:Int)(h0:0<=c):OK (Ah c) Mom:=by
 have hs:sizeLine=16777216:=qcB;unfold Ah;simp only [qdB,AE,AR];refine AY (fun _=>AC Jq) fun _=>AY (fun _=>?_) fun _=>?_
 ·have a0:=qfB (c / 5) (b:=26) (by decide);have a1:=qgB (c / 5) (b:=26) (by decide);obtain ⟨k,hk⟩:=qeB a0;rw [hk] at a1 ⊢;refine A9 (OK.of (JN k (by omega)) (AC ?_));show [97+k].Sublist abcN;refine List.singleton_sublist.mpr ?_;unfold abcN;exact List.mem_range'_1.mpr ⟨by omega,by omega⟩
 ·refine A9 (F5 (n:=26) (by omega) (by omega) (by omega) ?_);refine A9 (FS (fun i (s:Str)=>s.cps.toList.Sublist (abcN.take i)) (by rw [show ("" : Str).cps.toList=[] from by decide +kernel];exact List.nil_sublist _) (fun i a s ha hI=>?_) fun s hI=>AC ?_)
  ·obtain ⟨hi,rfl⟩:=J9 ha;have b0:(0:Int)<=(i:Int) * (i:Int):=Int.mul_nonneg (by omega) (by omega);have b1:(i:Int) * (i:Int)<=26 * 26:=Int.mul_le_mul (by omega) (by omega) (by omega) (by decide);refine A9 (ok_mul (.inl ⟨by omega,by omega⟩) (A9 (ok_div ⟨by omega,by omega⟩ ?_)));have c0:=qfB (i:Int) (b:=3) (by decide);have c1:=qgB (i:Int) (b:=3) (by decide);refine A9 (Gq c0 c1 fun m hm=>?_)
   have mp:0<m:=by
    have:=qoA hm;simp only [qhA,List.not_mem_nil,or_false] at this;omega
   refine A9 (Iz mp (AY (fun _=>?_) fun _=>AC ⟨_,rfl,?_⟩))
   ·have hlen:s.length<=26:=by
     have:=hI.length_le;rw [List.length_take,qoB] at this;show s.cps.size<=26;omega
    refine A9 (OK.of (JN i hi) (A9 (Br (by show s.length+1<=sizeLine;omega) (AC ⟨_,rfl,?_⟩))));show (s++one (97+i)).cps.toList.Sublist _;rw [IB i hi,show (s++one (97+i)).cps.toList=s.cps.toList++[97+i] from by show (s.cps++#[97+i]).toList=_;simp];exact hI.append (List.Sublist.refl _)
   ·rw [IB i hi];exact hI.trans (List.sublist_append_left _ _)
  ·rw [Dy] at hI;exact hI
theorem abs_nn (c:Int):0<=(if c<0 then -c else c):=by split<;>omega
theorem JA (t:Str)(c:Int)(ht:t.length<=1000000):OK (BQ t c) fun z=>z.length<=4 * t.length+1:=by
 have hs:sizeLine=16777216:=qcB;have hsl:∀ lo hi,(Txt.slice t lo hi).length<=t.length:=Txt.slice_le t;unfold BQ;simp only [qdB,AE,AR];have l40:("abcdefghijklmnopqrstuvwxyz  //--AZ09;,~!" : Str).cps.toList.length=40:=by decide +kernel
 have a0:=qfB (c / 5) (b:=40) (by decide);have a1:=qgB (c / 5) (b:=40) (by decide);refine A9 (Gq a0 (by rw [l40];exact a1) fun z _=>?_);have hz:(⟨#[z]⟩:Str).length=1:=rfl;generalize (⟨#[z]⟩:Str)=nw at hz;refine A9 (Iz (by omega) ?_);generalize ((c / 200) * 48271) % 2147483647 % ((t.length:Int)+1)=a;have k1:=hsl none (some a);have k2:=hsl (some (a+1)) none;have k3:=hsl (some a) none;have k4:=hsl (some (a+1)) (some (a+2));have k5:=hsl (some a) (some (a+1));have k6:=hsl (some (a+2)) none;refine AY (fun _=>A9 (Br (by omega) (Br (by rw [Str.length_append];omega) (by rw [Str.length_append,Str.length_append];omega)))) fun _=>?_;refine AY (fun _=>A9 (Br (by omega) (Br (by rw [Str.length_append];omega) (by rw [Str.length_append,Str.length_append];omega)))) fun _=>?_;refine AY (fun _=>Br (by omega) (by rw [Str.length_append];omega)) fun _=>?_;refine AY (fun _=>A9 (Br (by omega) (A9 (Br (by rw [Str.length_append];omega) (Br (by rw [Str.length_append,Str.length_append];omega) (by rw [Str.length_append,Str.length_append,Str.length_append];omega)))))) fun _=>AC (by omega)
theorem kL (l:List D):isK "list" (.lst l)=true:=by simp [isK,dk]
theorem FJ (l:List Str)(hl:l.length<=10000):B0 (.lst (l.map D.str)) (.lst (l.map D.str))=some true:=by
 have hs:sizeLine=16777216:=qcB;have hl':(l.map D.str).length=l.length:=qdA ..;refine OK.eq ?_;unfold B0;simp only [qdB,AE,AR,lenD,kL,Bool.not_true,cond_false];refine AY (fun q=>?_) fun _=>?_
 ·simp at q
 refine A9 (F5 (n:=l.length) (by omega) (by omega) (by omega) ?_);refine A9 (FS (fun _ _=>True) trivial (fun i a s ha _=>?_) fun s _=>AC rfl);obtain ⟨hi,rfl⟩:=J9 ha;have ea:atD (.lst (l.map D.str)) (i:Int)=some (.str l[i]):=CY (by rw [qrA,qqA hi];rfl);generalize l[i]=d at ea;simp only [ea,AE,kStr,cond_true,Bool.not_true,cond_false,K3];refine AY (fun q=>?_) fun _=>AC ⟨_,rfl,trivial⟩;simp at q
theorem Fp (a b:List Str)(ha:a.length<=10000)(hb:b.length<=10000):AZ (a,b) (.tup [.lst (a.map D.str),.lst (b.map D.str)])=some true:=by
 have e0:atD (.tup [.lst (a.map D.str),.lst (b.map D.str)]) (0:Int)=some (.lst (a.map D.str)):=CY (j:=0) rfl;have e1:atD (.tup [.lst (a.map D.str),.lst (b.map D.str)]) (1:Int)=some (.lst (b.map D.str)):=CY (j:=1) rfl;have ea:B0 (ToD.to a) (.lst (a.map D.str))=some true:=FJ a ha;have eb:B0 (ToD.to b) (.lst (b.map D.str))=some true:=FJ b hb;refine OK.eq ?_;unfold AZ;simp only [qdB,AE,AR];refine AY (fun q=>absurd q (by decide)) fun _=>?_;refine A9 (OK.of e0 (A9 (OK.of ea (AY (fun _=>A9 (OK.of e1 (OK.of eb rfl))) fun h=>Bool.noConfusion h))))
theorem Jm (x:Str):BI x=some (mo x):=by
 unfold BI mo;rw [AE];by_cases h:x = ""
 ·rw [if_pos h,decide_eq_true h];rfl
 ·rw [if_neg h,decide_eq_false h];rfl
theorem mo_eq (x:Str):Au x=some (mo x):=by
 unfold Au mo;rw [AE];by_cases h:x = ""
 ·rw [if_pos h,decide_eq_true h];rfl
 ·rw [if_neg h,decide_eq_false h];rfl
theorem mo_wd {x:Str}(h:Mom x):32 ∉ (mo x).cps.toList/\(mo x).length<=26:=by
 have hd:32 ∉ ("-" : Str).cps.toList/\("-" : Str).length<=26:=by decide +kernel
 unfold mo;split
 ·exact hd
 ·refine ⟨fun hc=>?_,h.len⟩;have:=List.Sublist.subset h hc;unfold abcN at this;have:=List.mem_range'_1.mp this;omega
def pts (s r:List Str):List Str:=s.map mo++("/" : Str)::r.map mo
structure Rn (s r:List Str):Prop where
 s1:s.length<=280
 r0:1<=r.length
 r8:r.length<=8
 sm:∀ x∈s,Mom x
 rm:∀ x∈r,Mom x
theorem JG {s r:List Str}(g:Rn s r):∀ w∈pts s r,32 ∉ w.cps.toList/\w.length<=26:=fun w hw=>by
 rcases List.mem_append.mp hw with h|h
 ·obtain ⟨x,hx,rfl⟩:=qiA.mp h;exact mo_wd (g.sm x hx)
 rcases qhA.mp h with rfl|h
 ·decide +kernel
 ·obtain ⟨x,hx,rfl⟩:=qiA.mp h;exact mo_wd (g.rm x hx)
theorem pts_len {s r:List Str}(g:Rn s r):(pts s r).length<=289:=by
 have:=g.s1;have:=g.r8;unfold pts;rw [qeA,qfA,qdA,qdA];omega
theorem Jr {s r:List Str}(g:Rn s r):((pts s r).map (·.length)).sum+(pts s r).length * (" " : Str).length<=289 * 27:=by
 have:=join_le' (y := " ") (fun x hx=>(JG g x hx).2) (pts_len g);rw [sp_len] at this ⊢;omega
def txt (s r:List Str):Str:=Str.join " " (pts s r)
theorem txt_eq {s r:List Str}(g:Rn s r):HG " " (pts s r)=some (txt s r):=joinO_eq (qwA (Jr g) (by decide))
theorem Ji {s r:List Str}(g:Rn s r):(txt s r).length<=7803:=qwA (StrLaws.join_length_le " " (pts s r)) (qwA (Jr g) (by decide))
theorem txt_spl {s r:List Str}(g:Rn s r):Ev (txt s r) " " = some (pts s r):=KA sp_cps (fun e=>by unfold pts at e;cases s<;>cases e) (fun p hp=>(JG g p hp).1) (qwA (Ji g) (by decide))
theorem run_text {s r:List Str}(g:Rn s r):BF (s,r)=some (txt s r):=by
 have hs:sizeLine=16777216:=qcB;have:=g.s1;have:=g.r8;refine OK.eq ?_;unfold BF;simp only [qdB,AE,AR];refine A9 (GK (g:=mo) (fun x _=>Jm x) ?_);refine A9 (JX (by rw [qdA];omega) ?_);refine A9 (GK (g:=mo) (fun x _=>Jm x) ?_);refine A9 (HV (by rw [qeA,qdA,qdA,qgA];omega) ?_);rw [show s.map mo++[("/" : Str)]++r.map mo=pts s r from by unfold pts;rw [qtA];rfl];exact OK.of (txt_eq g) rfl
theorem show_run {s r:List Str}(g:Rn s r):C6 (s,r)=some (txt s r):=by
 have hs:sizeLine=16777216:=qcB;have:=g.s1;have:=g.r8;refine OK.eq ?_;unfold C6 Bu;simp only [qdB,AE,AR];refine A9 (GK (g:=mo) (fun x _=>mo_eq x) ?_);refine A9 (GK (g:=mo) (fun x _=>mo_eq x) ?_);refine A9 (HV (by rw [qdA,qgA];omega) ?_);refine A9 (HV (by rw [qeA,qdA,qdA,qgA];omega) ?_);rw [show s.map mo++[("/" : Str)]++r.map mo=pts s r from by unfold pts;rw [qtA];rfl];exact OK.of (txt_eq g) rfl
theorem EZ:∀ {l:List Str},(∀ x∈l,Mom x)->(l.map mo).map rdw=l.map some
 | [],_=>rfl
 | x::l,h=>by
  rw [qsA,qsA,qsA,rdw_mo (h x qkA),EZ fun y hy=>h y (qmA _ hy)]
theorem Js {l:List Str}(h:∀ x∈l,Mom x):("/" : Str) ∉ l.map mo:=fun hm=>by
 obtain ⟨x,hx,e⟩:=qiA.mp hm;have:=rdw_mo (h x hx);rw [e] at this;have e2:rdw ("/" : Str)=none:=by decide +kernel
 rw [e2] at this;cases this
theorem IY {a b:List Str}(h:a.map some=b.map some):a=b:=by
 have:=congrArg (List.filterMap id) h
 simpa using this
theorem Gy {s r:List Str}(g:Rn s r):Ax (txt s r)=some (s,r):=by
 have:=g.s1;have:=g.r8;have h0:=g.r0;have no:∀ {l:List Str},none ∉ l.map (some:Str->Option Str):=fun h=>by simp at h
 unfold Ax;rcases two_eq (txt_spl g) (Js g.sm) (Js g.rm) (by rw [qdA,qdA];omega) (fun w hw=>qwA (JG g w hw).2 (by decide)) with ⟨h,_⟩ | ⟨a,b,h1,h2,_,_,_,h3⟩
 ·rw [EZ g.sm,EZ g.rm] at h;rcases h with h|h|h
  ·exact absurd h no
  ·exact absurd h no
  ·have:=congrArg List.length h;rw [qdA,List.length_nil] at this;omega
 ·rw [EZ g.sm] at h1;rw [EZ g.rm] at h2;obtain rfl:=IY h1;obtain rfl:=IY h2;rw [h3,if_pos ⟨by omega,by omega⟩]
  rfl
def Thg (d:D):Prop:=(∃ t:Str,d = .str t/\t.length<=800000)\/isK "str" d=false
theorem not_text {d:D}(h:isK "str" d=false):AL d=some (.error "NoText"):=by
 unfold AL C7;rw [AE,AE,AE,AE,h]
 rfl
theorem no_text {d:D}(h:AL d=some (.error "NoText")):BS d=some true:=by
 unfold BS;rw [h];show (if ("NoText" : Str) = "NoText" then some true else none)=some true;exact if_pos rfl
theorem JU {s r:List Str}(g:Rn s r):((((some (txt s r)).bind fun t313=>Ax t313).bind fun EO =>
      (((some EO).bind fun t329=>(some (ToD.to (Tp.mk [(ToD.to s),(ToD.to r)]))).bind fun t330=>AZ t329 t330).bind fun t331=>(some (!t331))).bind fun b332=>cond b332
       ((some false))
       ((some ("a" : Str)).bind fun a342=>(Cs EO.1 a342).bind fun z350 =>
       (((some (txt s r)).bind fun t352=>Ax t352).bind fun t353=>(some (ToD.to (Tp.mk [(ToD.to s),(ToD.to r)]))).bind fun t354=>AZ t353 t354))))=some true:=by
 have hs:sizeLine=16777216:=qcB;have:=g.s1;have:=g.r8;have e:=Fp s r (by omega) (by omega);have e':AZ (s,r) (ToD.to (Tp.mk [(ToD.to s),(ToD.to r)]))=some true:=e;refine OK.eq ?_;simp only [qdB,AE,AR];refine A9 (OK.of (Gy g) (A9 (OK.of e' (AY (fun h=>Bool.noConfusion h) fun _=>A9 (JX (by show s.length<sizeLine;omega) (A9 (OK.of (Gy g) (OK.of e' rfl))))))))
theorem Jo (x:Str)(n:Int)(h1:2<=n)(h2:n<=10000)(h3:x.length=2):OK (Iu x n) fun z=>z.length<=20000:=by
 have e:Iu x n=some ⟨(List.replicate n.toNat x.cps).foldl (·++·) #[]⟩:=if_pos ⟨h1,h2,by omega,by omega⟩;obtain ⟨_,_,_,hl⟩:=HU e;refine OK.of e ?_;have hx:x.cps.toList.length=2:=by rw [qoB];exact h3
 have:=congrArg List.length hl;rw [List.length_flatten,List.map_replicate,List.sum_replicate_nat,qoB,hx] at this;show Array.size _<=20000;rw [this];omega
theorem law_true (ns:List Int)(hl:ns.length<=63):IJ ⟨ns⟩=some true:=by
 have hs:sizeLine=16777216:=qcB;refine OK.eq ?_;unfold IJ;refine Bx (P:=fun s:List Str=>s.length<=8/\∀ x∈s,Mom x) ?_ fun stem ⟨hs8,hsm⟩=>?_
 ·simp only [qdB,AE,AR];refine A9 (Bg _ 0 (by decide) (by decide) fun c0=>?_);have a0:=qfB c0 (b:=9) (by decide);have a1:=qgB c0 (b:=9) (by decide);obtain ⟨n,hn⟩:=qeB a0;rw [hn] at a1 ⊢;refine A9 (F5 (n:=n) (by omega) (by omega) (by omega) ?_);refine JO (R:=fun _ x=>Mom x) (fun a ha=>?_) fun bs h1 h2 _=>⟨by rw [h1,Dy];omega,fun x hx=>by obtain ⟨_,_,h⟩:=h2 x hx;exact h⟩;obtain ⟨k,hk,rfl⟩:=qiA.mp ha;have:=qnA.mp hk;exact A9 (Bg _ _ (by omega) (by omega) fun c=>Ee _ (abs_nn c))
 refine Bx (P:=fun s:List Str=>1<=s.length/\s.length<=8/\∀ x∈s,Mom x) ?_ fun ring ⟨hr1,hr8,hrm⟩=>?_
 ·simp only [qdB,AE,AR];refine A9 (Bg _ 1 (by decide) (by decide) fun c0=>?_);have a0:=qfB c0 (b:=8) (by decide);have a1:=qgB c0 (b:=8) (by decide);obtain ⟨n,hn⟩:=qeB a0;rw [hn] at a1 ⊢;refine A9 (F5 (n:=n+1) (by omega) (by omega) (by omega) ?_);refine JO (R:=fun _ x=>Mom x) (fun a ha=>?_) fun bs h1 h2 _=>⟨by rw [h1,Dy];omega,by rw [h1,Dy];omega,fun x hx=>by obtain ⟨_,_,h⟩:=h2 x hx;exact h⟩;obtain ⟨k,hk,rfl⟩:=qiA.mp ha;have:=qnA.mp hk;exact A9 (Bg _ _ (by omega) (by omega) fun c=>Ee _ (abs_nn c))
 refine Bx (P:=fun _=>True) ?_ fun b45 _=>?_
 ·simp only [qdB,AE,AR];exact A9 (Bg _ 0 (by decide) (by decide) fun c0=>AC trivial)
 refine Bx (P:=fun s:List Str=>s.length<=280/\∀ x∈s,Mom x) (AY (fun _=>?_) fun _=>AC ⟨by omega,hsm⟩) fun st ⟨h280,hstm⟩=>?_
 ·simp only [qdB,AE,AR];refine A9 (Bg _ 0 (by decide) (by decide) fun c0=>?_);have a0:=qfB (c0 / 81) (b:=70) (by decide);have a1:=qgB (c0 / 81) (b:=70) (by decide);obtain ⟨n,hn⟩:=qeB a0;rw [hn] at a1 ⊢;rw [show ((1:Int)+(n:Int))=((n+1:Nat):Int) by omega,show Fj stem none (some (4:Int))=stem.take 4 from cut_hi stem 4];have t4:(stem.take 4).length<=4:=by rw [List.length_take];omega
  have hm:(stem.take 4).length * (n+1)<=4 * 70:=Nat.mul_le_mul t4 (by omega);refine ok_rep (by omega) (by omega) ⟨?_,fun x hx=>?_⟩
  ·rw [List.length_flatten,List.map_replicate,List.sum_replicate_nat,Nat.mul_comm];exact hm
  ·obtain ⟨l,h1,h2⟩:=List.mem_flatten.mp hx;rw [List.eq_of_mem_replicate h1] at h2;exact hsm x (List.mem_of_mem_take h2)
 have g:Rn st ring:=⟨h280,hr1,hr8,hstm,hrm⟩;refine A9 (OK.of (run_text g) (Fg (A9 (OK.of (show_run g) ?_))));refine Fg (AY (fun h=>?_) fun _=>?_)
 ·simp at h
 refine Fg ?_;refine Bx (P:=fun l:List Int=>l.length<=3/\∀ x∈l,0<=x/\x<=3) ?_ fun l ⟨hl3,hlm⟩=>?_
 ·simp only [qdB,AE,AR];refine A9 (Bg _ 20 (by decide) (by decide) fun c0=>?_);have a0:=qfB c0 (b:=4) (by decide);have a1:=qgB c0 (b:=4) (by decide);obtain ⟨n,hn⟩:=qeB a0;rw [hn] at a1 ⊢;refine F5 (n:=n) (by omega) (by omega) (by omega) ⟨by rw [Dy];omega,fun x hx=>?_⟩;obtain ⟨k,hk,rfl⟩:=qiA.mp hx;have:=qnA.mp hk;omega
 have tl:=Ji g;refine A9 (FS (fun i (s:D)=>∃ t:Str,s = .str t/\t.length+1<=8000 * 4 ^ i) ⟨_,rfl,by omega⟩ (fun i a s ha ⟨t,hst,ht⟩=>?_) fun s ⟨t,hst,ht⟩=>?_)
 ·have hi:i<l.length:=(qpA.mp ha).1;have ham:=hlm a (qoA ha);subst hst;have p3:4 ^ i<=4 ^ 3:=Nat.pow_le_pow_right (by decide) (by omega);have p0:1<=4 ^ i:=Nat.one_le_pow _ _ (by decide);simp only [qdB,AE,AR,GM];refine A9 (Bg _ _ (by omega) (by omega) fun c=>Bx (JA t _ (by omega)) fun z hz=>AC ⟨_,rfl,z,rfl,?_⟩);rw [Nat.pow_succ];omega
 have hT:Thg s:=.inl ⟨t,hst,by
  have p3:4 ^ l.length<=4 ^ 3:=Nat.pow_le_pow_right (by decide) hl3
  omega⟩
 clear hst ht;refine Bx (P:=fun _=>True) ?_ fun b158 _=>?_
 ·simp only [qdB,AE,AR];exact A9 (Bg _ 20 (by decide) (by decide) fun c0=>AC trivial)
 refine Bx (P:=Thg) (AY (fun _=>?_) fun _=>AC hT) fun s2 hT2=>?_
 ·simp only [qdB,AE,AR];refine A9 (Bg _ 24 (by decide) (by decide) fun c0=>?_);have a0:=qfB c0 (b:=10) (by decide);have a1:=qgB c0 (b:=10) (by decide);refine Gq a0 a1 fun d hd=>?_;have hd:=qoA hd;simp only [qhA,List.not_mem_nil,or_false] at hd;rcases hd with rfl|rfl|rfl|rfl|rfl|rfl|rfl|rfl|rfl|rfl
  ·exact .inr (by simp [isK,dk,ToD.to])
  ·exact .inr (by simp [isK,dk,ToD.to])
  ·exact .inr (by simp [isK,dk,ToD.to])
  ·exact .inr (by simp [isK,dk,ToD.to])
  ·exact .inr (by simp [isK,dk,ToD.to])
  ·exact .inr (by simp [isK,dk,ToD.to])
  ·exact .inl ⟨_,rfl,by decide +kernel⟩
  ·exact .inl ⟨_,rfl,by decide +kernel⟩
  ·exact .inl ⟨_,rfl,by decide +kernel⟩
  ·exact .inl ⟨_,rfl,by decide +kernel⟩
 refine Bx (P:=fun _=>True) ?_ fun b188 _=>?_
 ·simp only [qdB,AE,AR];exact A9 (Bg _ 20 (by decide) (by decide) fun c0=>AC trivial)
 refine Bx (P:=Thg) (AY (fun _=>?_) fun _=>AC hT2) fun s3 hT3=>?_
 ·simp only [qdB,AE,AR];refine A9 (Bg _ 24 (by decide) (by decide) fun c0=>?_);have a0:=qfB c0 (b:=2) (by decide);have a1:=qgB c0 (b:=2) (by decide);refine Bx (Jo ("a " : Str) _ (by omega) (by omega) (by decide +kernel)) fun x1 hx1=>?_;have lb:("/ b" : Str).length=3:=by decide +kernel
  have lc:("b /" : Str).length=3:=by decide +kernel
  refine A9 (Br (by omega) ?_);refine Bx (Jo (" a" : Str) _ (by omega) (by omega) (by decide +kernel)) fun x2 hx2=>?_;refine A9 (Br (by omega) ?_);refine A9 (Bg _ 24 (by decide) (by decide) fun c1=>?_);have b0:=qfB (c1 / 2) (b:=2) (by decide);have b1:=qgB (c1 / 2) (b:=2) (by decide);refine A9 (Gq b0 b1 fun d hd=>AC ?_);have hd:=qoA hd;simp only [qhA,List.not_mem_nil,or_false] at hd;rcases hd with rfl|rfl
  ·exact .inl ⟨_,rfl,by rw [Str.length_append];omega⟩
  ·exact .inl ⟨_,rfl,by rw [Str.length_append];omega⟩
 refine Fg (Fg ?_);refine Bx (P:=fun o:Option (List (Option Str) × List (Option Str))=>(o=none/\AL s3=some (.error "NoText"))\/∃ (t:Str) (a b:List Str),s3 = .str t/\o=some (a.map some,b.map some)/\AL s3=some (if a.length<=3000/\b.length<=3000 then .ok (a,b) else .error "NoText")) ?_ fun s249 h249=>?_
 ·rcases hT3 with ⟨t,rfl,ht⟩|hk
  ·obtain ⟨ws,h1,h2,h3⟩:=splO_any ht;refine AY (fun _=>?_) fun h=>?_
   ·simp only [qdB,AE,AR,GM];rcases read_any h1 h2 h3 with ⟨e1,e2⟩ | ⟨a,b,e1,e2⟩
    ·exact OK.of e1 (.inl ⟨rfl,e2⟩)
    ·exact OK.of e1 (.inr ⟨t,a,b,rfl,rfl,e2⟩)
   ·rw [kStr] at h;cases h
  ·rw [hk];exact AC (.inl ⟨rfl,not_text hk⟩)
 clear hT hT2 hT3;refine Bx (P:=fun b:Bool=>b=match s249 with|none=>false|some p=>decide (3000<p.1.length\/3000<p.2.length)) ?_ fun b276 h276=>?_
 ·refine Fg ?_
  cases s249 with
  | none=>exact AC rfl
  | some p =>
   refine AC ?_;show decide ((3000:Int)<if (p.2.length:Int) > (p.1.length:Int) then (p.2.length:Int) else (p.1.length:Int))=decide (3000<p.1.length\/3000<p.2.length);refine decide_eq_decide.mpr ?_;split<;>omega
 refine Bx (P:=fun o:Option (List (Option Str) × List (Option Str))=>(o=none/\AL s3=some (.error "NoText"))\/∃ (t:Str) (a b:List Str),s3 = .str t/\o=some (a.map some,b.map some)/\a.length<=3000/\b.length<=3000/\AL s3=some (.ok (a,b))) ?_ fun s281 h281=>?_
 ·rcases h249 with ⟨rfl,e⟩ | ⟨t,a,b,e0,rfl,e⟩
  ·rw [h276];exact AC (.inl ⟨rfl,e⟩)
  ·have h276:b276=decide (3000<a.length\/3000<b.length):=by rw [h276];simp
   by_cases hc:a.length<=3000/\b.length<=3000
   ·rw [if_pos hc] at e;rw [h276,decide_eq_false (by omega)];exact AC (.inr ⟨t,a,b,e0,rfl,hc.1,hc.2,e⟩)
   ·rw [if_neg hc] at e;rw [h276,decide_eq_true (by omega)];exact AC (.inl ⟨rfl,e⟩)
 refine Fg ?_;rcases h281 with ⟨rfl,e⟩ | ⟨t,a,b,rfl,rfl,ha,hb,e⟩
 ·refine AY (fun _=>?_) fun h=>Bool.noConfusion h;refine A9 (A9 (OK.of (no_text e) (AC ?_)));exact AY (fun h=>Bool.noConfusion h) fun _=>OK.of (JU g) rfl
 ·refine AY (fun h=>Bool.noConfusion h) fun _=>?_;have er:Ax t=some (a,b):=by unfold Ax;rw [e];rfl
  have ed:ToD.to (some (a.map some,b.map some):Option (List (Option Str) × List (Option Str)))=D.tup [.lst (a.map D.str),.lst (b.map D.str)]:=by
   show D.tup [.lst ((a.map some).map ToD.to),.lst ((b.map some).map ToD.to)]=_;rw [List.map_map,List.map_map]
   rfl
  have ei:AZ (a,b) (ToD.to (some (a.map some,b.map some):Option (List (Option Str) × List (Option Str))))=some true:=by
   rw [ed];exact Fp a b (by omega) (by omega)
  refine A9 (A9 (A9 (OK.of er (OK.of ei (AC ?_)))));exact AY (fun h=>Bool.noConfusion h) fun _=>OK.of (JU g) rfl
theorem law_imp {K:FZ9}{vs:List V}{H:Hp}{Q:VK}{E:XK}(h:Hj K vs H Q E):spM K mm_law vs H Q E:=by
 obtain ⟨a,ns,rfl,hS,hl,q⟩:=h;exact ⟨H,(⟨ns⟩,()),true,Same.refl H,⟨.ref a,[],rfl,⟨a,rfl,hS⟩,rfl⟩,law_true ns hl,fun v G2 H2 x r=>by cases r;exact q H2⟩
set_option maxHeartbeats 1000000 in
theorem all_mk {l:PySem.W.OpenLaw}{w:World}{K:FZ9}{h:Heap}{mg:Str->Option Value}{fa:Addr}(X:K.In h)(G:h.Ns mainGlobals mg)(hfa:mg "law" = some (.ref fa))
  (Z:DIn K mg "is_moment" Dh/\DIn K mg "is_moment_list" C4/\DIn K mg "is_run" Fi/\DIn K mg "show_moment" D2/\DIn K mg "show_round" DL/\DIn K mg "show_run" EK/\DIn K mg "refuse_other_kinds" BX/\DIn K mg "read_moment" D3/\DIn K mg "read_run" EH/\DIn K mg "_law_cell" ET/\DIn K mg "_law_moment_of" CI/\DIn K mg "_law_word" EQ/\DIn K mg "_law_run_text" Cb/\DIn K mg "_law_read_word" CJ/\DIn K mg "_law_read_of" D0/\DIn K mg "_law_changed" Cu/\DIn K mg "_law_classes" Cy/\DIn K mg "_law_no_text" Ct/\DIn K mg "_law_listed" DF/\DIn K mg "_law_is_run" DU/\DIn K mg "law" s_law)
  {tk0:Tok}
  (gv0:qjB K mainGlobals "MOST_MOMENTS" = some (some (.int 3000 tk0)))
  (zs:Nn K "ValueError" /\ Nn K "abs" /\ Nn K "all" /\ Nn K "bool" /\ Nn K "int" /\ Nn K "isinstance" /\ Nn K "len" /\ Nn K "list" /\ Nn K "max" /\ Nn K "range" /\ Nn K "str" /\ Nn K "tuple")
  (XX:XC K) :
  ∃ fd:FuncData,(∀ (s:Shared) (v:Value),BindsTo s fd ⟨[v],[]⟩ [("_law_script",v)])/\∀ base:Heap,K.In base->base.Ns mainGlobals mg->FnOk l.prog w K mg base CX0 6 fa fd ["_law_script"] (Hj K):=by
 obtain ⟨z0,z1,z2,z3,z4,z5,z6,z7,z8,z9,z10,z11,z12,z13,z14,z15,z16,z17,z18,z19,z20⟩:=Z;obtain ⟨y0,y1,y2,y3,y4,y5,y6,y7,y8,y9,y10,y11⟩:=zs;obtain ⟨f,fd,a,F⟩:=z20.ex;cases hfa.symm.trans a;have T:Txt mg:=⟨PySem.W.mg_none_of X G y0,PySem.W.mg_none_of X G y1,PySem.W.mg_none_of X G y2,PySem.W.mg_none_of X G y3,PySem.W.mg_none_of X G y4,PySem.W.mg_none_of X G y5,PySem.W.mg_none_of X G y6,PySem.W.mg_none_of X G y7,PySem.W.mg_none_of X G y8,PySem.W.mg_none_of X G y9,PySem.W.mg_none_of X G y10,PySem.W.mg_none_of X G y11,⟨_,qkB X G gv0⟩⟩;refine ⟨fd,?_,fun base KB GB=>?_⟩
 ·obtain ⟨_,_,_,_,_,_,_,_,_,rfl,_⟩:=F.ex;exact fun s v=>.of_eq rfl
 obtain ⟨aS,aT,aR,aW,aM,aE,aC,aX,aN,⟨naS,naT,naR,naW,naM,naE,naC,naX,naN⟩,xe,xk,xm,xT,xV,xaR,xaW,xaM,xaE,xaC,xaX,xaN⟩:=XX;have O:OwnCls "NoText" aT bmV "ValueError.__new__" mg base:=own_in KB GB naT xe;have W:XT K mg aS aT aR aW aM aE aC aX aN:=⟨qkB X G naS,qkB X G naT,qkB X G naR,qkB X G naW,qkB X G naM,qkB X G naE,qkB X G naC,qkB X G naX,qkB X G naN,xk.to,xm,xT,xV,xaR,xaW,xaM,xaE,xaC,xaX,xaN⟩;have DP:=@IN l.prog w K mg base z11 T;have Cd:=@FR l.prog w K mg base z12 T DP;have DR:=@Gf l.prog w K mg base z4 T;have CC:=@Fy l.prog w K mg base z3 T;have EM:=@IZ l.prog w K mg base z5 T DR CC;have Ba:=@Db l.prog w K mg base z6 T _ O;have Bo:=@Hn l.prog w K mg base z0 T;have CB:=@Fa l.prog w K mg base z7 T _ O Bo;have Bf:=@Ec l.prog w K mg base z1 T Bo;have GU:=@KD l.prog w K mg base z2 T Bf;have Y_:=@Hz l.prog w K mg base z8 T _ O Ba CB GU;have Ch:=K4 Y_;have CT:=@GX l.prog w K mg base z18 T;have Bt:=@Ge l.prog w K mg base z19 T CT;have Bk:=@FF l.prog w K mg base z10 T;have D7:=@GC l.prog w K mg base z15 T;have CL:=@FD l.prog w K mg base z13 T;have D1:=@GL l.prog w K mg base z14 T CL;have Aj:=@IX l.prog w K mg base z9 T;have Cw:=@Ff l.prog w K mg base z16 T _ _ _ _ _ _ _ _ _ W;have D5:=@Fw l.prog w K mg base z17 T _ _ _ _ _ _ _ _ _ W Y_ Cw;exact (ok_law F T Cd EM Ch Bt Bk D7 D1 Aj D5).imp fun _ _ _ _ h=>law_imp h
theorem walk {l:PySem.W.OpenLaw}{q:Program}{loose:List Str}{XP:(Str->Option Value)->Heap->Prop}{YP:World->Heap->Prop}{d:DefRec}{K:Params->FZ9}(hn:l.most=some 63)(hdf:d.params.defaults=[])
  (hY:∀ (w:World) (h:Heap),YP w h->(K w.params).In h)
  (F:∀ (w:World) (mg:Str->Option Value) (fa:Addr) (h:Heap),(K w.params).In h->h.Ns mainGlobals mg->mg d.name=some (.ref fa) ->
   ∃ fd:FuncData,(∀ (s:Shared) (u:Value),BindsTo s fd ⟨[u],[]⟩ [("_law_script",u)])/\∀ base:Heap,(K w.params).In base->base.Ns mainGlobals mg->FnOk l.prog w (K w.params) mg base CX0 6 fa fd ["_law_script"] (Hj (K w.params))) :
  PySem.W.WalkO q loose XP YP l.row.toRowW d [] (fun f vs=>PySem.call f vs) :=
 L2.walk_of (n:=63) (k:=6) (x := "_law_script") (CX:=fun _=>CX0) (sp:=fun w=>Hj (K w.params)) hn (by decide) hdf ⟨rfl,by decide,by decide⟩ hY F (fun _ _ a ns hl _ hS=>⟨a,ns,rfl,hS,hl,fun _=>rfl⟩) fun _ _ _ _ _ z=>z
end My
open PySem PySem.W PyProof.Rows
theorem PySem.W.Fast.tw11147293499391986801:True:=trivial
theorem PySem.W.Fast.tw14233943658156742082:True:=trivial
theorem PySem.W.Fast.tw2270334471696727426:True:=trivial
theorem PySem.W.Fast.tw10732864958549858030:True:=trivial
theorem PySem.W.Fast.tw11318307579111977610:True:=trivial
theorem PySem.W.Fast.tw3227352323403516463:True:=trivial
theorem PySem.W.Fast.tw3480222376844718501:True:=trivial
theorem PySem.W.Fast.tw8442637251222912140:True:=trivial
theorem PySem.W.Fast.tw13146028077673509147:True:=trivial
theorem PySem.W.Fast.tw13653177677730978638:True:=trivial
theorem PySem.W.Fast.tw8850993164020290347:True:=trivial
theorem PySem.W.Fast.tw16284222049539068031:True:=trivial
theorem PySem.W.Fast.tw11435692354957834503:True:=trivial
theorem PySem.W.Fast.tw7166161553903621991:True:=trivial
theorem PySem.W.Fast.tw1442055112008016360:True:=trivial
theorem PySem.W.Fast.tw1042502542922976695:True:=trivial
set_option maxRecDepth 100000 in
set_option maxHeartbeats 0 in
theorem PySem.Challenge.cw_lassoscribe_k87_runs_written_and_read_holds : PySem.Challenge.rw_lassoscribe_k87_runs_written_and_read.Holds := by
 w_on; o_law; k_head; (case hw => w_witness2)
 k_fill
 refine My.walk (l := PySem.Challenge.rw_lassoscribe_k87_runs_written_and_read) rfl rfl (fun w h Y => PySem.W.kIn_of Y) ?F
 case F =>
  intro w mg fa h KX G hmg;refine' My.all_mk KX G hmg ?zz ?gv0 ?zy ?xx
  (case zz =>
   refine ⟨?_, ?_, ?_, ?_, ?_, ?_, ?_, ?_, ?_, ?_, ?_, ?_, ?_, ?_, ?_, ?_, ?_, ?_, ?_, ?_, ?_⟩
   all_goals (refine' L2.din KX G ?a ?l ?c ?k; (case a => k_is); (case l => k_is); (case c => k_is); (case k => k_is)))
  (case gv0 => k_is)
  (case zy => refine ⟨?_, ?_, ?_, ?_, ?_, ?_, ?_, ?_, ?_, ?_, ?_, ?_⟩ <;> (unfold L2.Nn; k_is))
  (case xx =>
   refine' My.xc_mk ?n1 ?n2 ?n3 ?n4 ?n5 ?n6 ?n7 ?n8 ?n9 ?xe ?c1 ?c2 ?c3 ?c4 ?c5 ?c6 ?c7 ?c8 ?xm ?k1 ?k2 ?k3 ?k4 ?k5 ?k6 ?k7 ?k8 ?k9
   (case n1 => k_is)
   (case n2 => k_is)
   (case n3 => k_is)
   (case n4 => k_is)
   (case n5 => k_is)
   (case n6 => k_is)
   (case n7 => k_is)
   (case n8 => k_is)
   (case n9 => k_is)
   (case xe => k_exc)
   (case c1 => k_is)
   (case c2 => k_is)
   (case c3 => k_is)
   (case c4 => k_is)
   (case c5 => k_is)
   (case c6 => k_is)
   (case c7 => k_is)
   (case c8 => k_is)
   (case xm => kts_exm)
   (case k1 => kit_is)
   (case k2 => kit_is)
   (case k3 => kit_is)
   (case k4 => kit_is)
   (case k5 => kit_is)
   (case k6 => kit_is)
   (case k7 => kit_is)
   (case k8 => kit_is)
   (case k9 => kit_is))
end
