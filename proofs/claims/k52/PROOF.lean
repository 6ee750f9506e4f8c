import PyProof.Rows.All
import Wide.All
import OpenK.AllK
import Wide.FinOn
import Lean
import PyProof.EqAt
import PyProof.EqKinds
import PyProof.TupleCall
import PyProof.NeKinds
import PyProof.EnumFor
import PyProof.EnumMake
import PyProof.Rows.EnumRows
import PyProof.Rows.Range3
import PyProof.NoPylong
import PyProof.ListRange
import PyProof.TupleOfSeq
import PyProof.TupleOfStr
import PyProof.Draws
import PyProof.ZipIter
import PyProof.Rows.ZipGen
import PyProof.Rows.SortStr
import PyProof.Rows.TupAdd
import PyProof.SetRoads
import PyProof.Rows.SetFrom
import PyProof.StrWalks
import PyProof.CollectWalk
import KE.KDictList
import PyProof.Tail
import PyProof.TupleIter
import PyProof.AttrMiss
import KE.KDictOf
import OpenK.KTop
import PyProof.Rows.SortRev
import PyProof.Rows.CallKwBuiltin
import PyProof.Rows.CallKw2
import KE.KRevIter
import PyProof.SumWalkG
import Wide.Seal
import PyProof.AttrMissHeap
import PyProof.TupleKey
import PySem.Challenge.RW_lassoscribe_k52_a_runs_machine
open Option renaming bind_eq_some_iff → qaA, bind_assoc → qfB
open PySem renaming wpAny_bind → qbA, wpAny_pure → qcA, wpAny_holding → qdA, sizeLine_eq → qeB
open List renaming length_map → qeA, length_append → qfA, length_cons → qgA, length_singleton → qhA, length_range → qiA, length_take → qjA, mem_append → qkA, mem_cons → qmA, mem_map → qnA, mem_singleton → qoA, mem_cons_self → qpA, mem_cons_of_mem → qqA, mem_range → qrA, mem_of_getElem? → qsA, getElem?_eq_some_iff → qtA, getElem?_eq_getElem → quA, getD_eq_getElem?_getD → qvA, map_cons → qwA, size_toArray → qkB, not_mem_nil → qpB, mem_append_right → qrB
open Nat renaming le_refl → qxA, le_trans → qyA, lt_irrefl → qzA, ne_of_lt → qoB, lt_of_lt_of_le → qqB, zero_le → qsB
open Option.some renaming inj → qaB
open PySem.Heap renaming lt_size → qbB, get?_push_of_some → qcB, get?_push_size → qdB
open Int renaming eq_ofNat_of_zero_le → qgB, emod_nonneg → qhB, emod_lt_of_pos → qiB
open Bool renaming false_ne_true → qjB
open PySem.W renaming fnOf → qmB
open Array renaming length_toList → qnB
noncomputable section
set_option Elab.async false
set_option linter.all false
set_option maxRecDepth 100000
set_option maxHeartbeats 4000000
local macro_rules
 | `(tactic| clear $n:num $rs*) => do
  let i := fun (n : Lean.Name) => Lean.mkIdent n
  match n.getNat with
  | 7 => let l := #[`G1, `s1, `c, `hc, `H, `sH, `Q, `k].map i; `(tactic| intro $l:ident*)
  | 8 => `(tactic| refine $(rs[0]!) $(i `G1) $(i `s1) $(rs[1]!) $(rs[2]!) $(i `H) $(i `sH) _ fun $(i `v) $(i `G2) $(i `H2) $(i `x2) $(i `r2) => ?_)
  | _ => Lean.Macro.throwUnsupported
theorem bE {α β : Type} {o : Option α} {f : α -> Option β} {b : β} {C : Prop} (h : o.bind f = some b) (k : ∀ a, o = some a -> f a = some b -> C) : C := by
 obtain ⟨a, h1, h2⟩ := qaA.mp h;exact k a h1 h2
abbrev FZ9 := PySem.W.Frag
namespace L2
open PySem PySem.Spec PyProof.Rows
abbrev Key:=Sum Int Str
def DC:Key->Value->Bool
 | .inl k,v=>Value.isInt k v
 | .inr x,v=>Value.isStrOf x v
def Jn (w:World):Key->Int
 | .inl k=>hashInt k
 | .inr x=>hashStr w x
theorem BF:∀ {k:Key}{v:Value},DC k v=true->(∃ i t,k=Sum.inl i/\v=Value.int i t)\/(∃ x t,k=Sum.inr x/\v=Value.str x t)
 | .inl i,v,h=>by
  obtain ⟨t,e⟩:=Value.isInt_shape (k:=i) (v:=v) h;exact .inl ⟨i,t,rfl,e⟩
 | .inr x,v,h=>by
  obtain ⟨t,e⟩:=Value.isStrOf_shape (x:=x) (v:=v) h;exact .inr ⟨x,t,rfl,e⟩
theorem Fy (i:Int)(t:Tok):DC (.inl i) (.int i t)=true:=by simp [DC,Value.isInt]
theorem Lb (x:Str)(t:Tok):DC (.inr x) (.str x t)=true:=by simp [DC,Value.isStrOf]
theorem key_ll (a b:Int):decide ((Sum.inl a:Key)=Sum.inl b)=(a == b):=by
 by_cases e:a=b
 ·subst e;simp
 ·have h:¬ (Sum.inl a:Key)=Sum.inl b:=fun q=>e (Sum.inl.inj q);rw [decide_eq_false h];exact (beq_eq_false_iff_ne.mpr e).symm
theorem key_rr (a b:Str):decide ((Sum.inr a:Key)=Sum.inr b)=decide (a=b):=by
 by_cases e:a=b
 ·subst e;simp
 ·have h:¬ (Sum.inr a:Key)=Sum.inr b:=fun q=>e (Sum.inr.inj q);rw [decide_eq_false h,decide_eq_false e]
theorem key_lr (a:Int)(b:Str):decide ((Sum.inl a:Key)=Sum.inr b)=false:=decide_eq_false (fun q=>nomatch q)
theorem key_rl (a:Str)(b:Int):decide ((Sum.inr a:Key)=Sum.inl b)=false:=decide_eq_false (fun q=>nomatch q)
def C6 (prog:Program)(w:World):PySem.KeyKind prog w Key where
 is:=DC
 hash:=Jn w
 inj:=fun v a b ha hb=>by
  rcases BF ha with ⟨i,t,rfl,rfl⟩ | ⟨x,t,rfl,rfl⟩
  ·rcases BF hb with ⟨j,u,rfl,e⟩ | ⟨y,u,rfl,e⟩
   ·injection e with e1 _;rw [e1]
   ·exact nomatch e
  ·rcases BF hb with ⟨j,u,rfl,e⟩ | ⟨y,u,rfl,e⟩
   ·exact nomatch e
   ·injection e with e1 _;rw [e1]
 byValue:=fun k v h=>by
  rcases BF h with ⟨i,t,rfl,rfl⟩ | ⟨x,t,rfl,rfl⟩<;>rfl
 pyHash:=fun hv h=>by
  rcases BF hv with ⟨i,t,rfl,rfl⟩ | ⟨x,t,rfl,rfl⟩
  ·exact wpAny_pyHash_int h
  ·exact wpAny_pyHash_str h
 eqBool:=fun hu hv h=>by
  rcases BF hu with ⟨i,t,rfl,rfl⟩ | ⟨x,t,rfl,rfl⟩
  ·rcases BF hv with ⟨j,u,rfl,rfl⟩ | ⟨y,u,rfl,rfl⟩
   ·rw [key_ll] at h;exact wpAny_eqBool_int h
   ·rw [key_lr] at h;exact SeqAt.EqAt.int_str i t y u _ _ _ _ h
  ·rcases BF hv with ⟨j,u,rfl,rfl⟩ | ⟨y,u,rfl,rfl⟩
   ·rw [key_rl] at h;exact SeqAt.EqAt.str_int x t j u _ _ _ _ h
   ·rw [key_rr] at h;exact wpAny_eqBool_str h
 «strs»:=fun k x t v h=>by
  rcases BF h with ⟨i,u,rfl,e⟩ | ⟨y,u,rfl,e⟩
  ·exact nomatch e
  ·injection e with e1 _
   subst e1;cases v<;>rfl
inductive V where
 | non|bl (b:Bool)|int (i:Int)|str (x:Str)|byt (b:Array UInt8)|flt (b:UInt64)|ref (a:Addr)|ty (n:String)
 deriving DecidableEq
def RelV:V->Value->Prop
 | .non,u=>u=Value.none
 | .bl b,u=>u=Value.bool b
 | .int i,u=>∃ t,u=Value.int i t
 | .str x,u=>∃ t,u=Value.str x t
 | .byt b,u=>∃ t,u=Value.bytes b t
 | .flt b,u=>∃ t,u=Value.float b t
 | .ref a,u=>u=Value.ref a
 | .ty n,u=>u=Value.type n
abbrev Vals:List V->List Value->Prop:=Paired RelV
theorem Vals.length {xs:List V}{us:List Value}(r:Vals xs us):xs.length=us.length:=Paired.length r
theorem Vals.get:∀ {xs:List V}{us:List Value}{i:Nat}{x:V},Vals xs us->xs[i]? = some x->∃ u,us[i]? = some u/\RelV x u
 | _,_,_,_,.nil,e=>by simp at e
 | _,_,0,_,.cons r _,e=>by simp at e;subst e;exact ⟨_,rfl,r⟩
 | _,_,i+1,x,.cons _ t,e=>by
  obtain ⟨u,h1,h2⟩:=Vals.get (i:=i) (x:=x) t (by simpa using e);exact ⟨u,by simpa using h1,h2⟩
theorem Vals.set {x:V}{u:Value}(r:RelV x u):∀ {xs:List V}{us:List Value}(i:Nat),Vals xs us->Vals (xs.set i x) (us.set i u)
 | _,_,_,.nil=>.nil
 | _,_,0,.cons _ t=>.cons r t
 | _,_,i+1,.cons q t=>.cons q (Vals.set r i t)
theorem Vals.append:∀ {xs ys:List V}{us ws:List Value},Vals xs us->Vals ys ws->Vals (xs++ys) (us++ws)
 | _,_,_,_,.nil,s=>s
 | _,_,_,_,.cons r t,s=>.cons r (Vals.append t s)
theorem Vals.take:∀ {xs:List V}{us:List Value}(n:Nat),Vals xs us->Vals (xs.take n) (us.take n)
 | _,_,0,_=>.nil
 | _,_,_+1,.nil=>.nil
 | _,_,n+1,.cons r t=>.cons r (Vals.take n t)
theorem Vals.drop:∀ {xs:List V}{us:List Value}(n:Nat),Vals xs us->Vals (xs.drop n) (us.drop n)
 | _,_,0,r=>r
 | _,_,_+1,.nil=>.nil
 | _,_,n+1,.cons _ t=>Vals.drop n t
def RelO:Option V->Option Value->Prop
 | some v,some u=>RelV v u
 | none,none=>True
 | _,_=>False
def KV {κ:Type}:List (κ × V)->List (κ × Value)->Prop:=Paired fun (p:κ × V) (q:κ × Value)=>p.1=q.1/\RelV p.2 q.2
def kV:Key->V
 | .inl i=>.int i
 | .inr x=>.str x
inductive HO where
 | lst (xs:List V)
 | tup (xs:List V)
 | dK (kvs:List (Key × V))|dT (kvs:List (List Key × V))
 | set (S:Int->Bool) (n:Nat)
 | ins (C dx:Addr) (fs:List (Str × V))
 | own (x:Addr)
 | xd (fs:List (Str × V))
 | met (f x:Addr)
 | rng (lo hi:Int)
 | frz (o:Obj) (u:HO)
 | tbl (ps:Array Value)
 | ext (φ:Heap->Prop)
abbrev Hp:=Addr->Option HO
def upd (H:Hp)(a:Addr)(o:HO):Hp:=fun b=>if b=a then some o else H b
theorem AM {H:Hp}{a:Addr}{o:HO}:upd H a o a=some o:=by unfold upd;rw [if_pos rfl]
theorem Ak {H:Hp}{a b:Addr}{o:HO}(h:b≠a):upd H a o b=H b:=by unfold upd;rw [if_neg h]
theorem Bb {H:Hp}{a b:Addr}{o:HO}(h:H a=some o)(h':H b=none):a≠b:=by
 intro e;subst e;rw [h] at h';cases h'
section
variable (P:Program)(w:World)
def ObjOk (H:Hp)(h:Heap)(a:Addr):HO->Prop
 | .lst xs=>xs.length<=sizeLine/\∃ (its:List Value) (n:Nat),Vals xs its/\h.get? a=some { cls:=.type "list",data:=.seq its.toArray n }
 | .tup xs=>xs.length<=sizeLine/\∃ its:List Value,Vals xs its/\IsTup h a its.toArray
 | .dK kvs=>kvs.length<=sizeLine/\(a == sysModules)=false/\∃ vs,KV kvs vs/\h.DictOf (C6 P w) a vs
 | .dT kvs=>kvs.length<=sizeLine/\(a == sysModules)=false/\∃ xs:List (List Key × Addr × Value),
   Paired (fun (p:List Key × V) (q:List Key × Addr × Value)=>p.1=q.1/\H q.2.1=some (.tup (p.1.map kV))/\RelV p.2 q.2.2) kvs xs /\
   ∃ o es ep,h.get? a=some o/\o.ExactDict/\o.data = .dict es ep/\es.toList=xs.map (entryOfKey (tupleKind (C6 P w)))/\(xs.map (·.1)).Nodup
 | .set S n=>h.SetOf (intKind P w) a S n
 | .ins C dx fs=>H dx=some (.own a)/\fs.length<=1000/\dx≠a/\h.get? a=some (PySem.W.instObj C dx) /\
   ∃ mA,h.Ns1 dx mA/\(∀ f,RelO (fs.lookup f) (mA f))/\PySem.Within mA (fs.map (·.1))
 | .own _=>∃ o,h.get? a=some o
 | .xd fs=>∃ mA,h.Ns1 a mA/\∀ f,RelO (fs.lookup f) (mA f)
 | .rng lo hi=>∃ t u v,h.get? a=some { cls:=.type "range",data:=.fields #[.int lo t,.int hi u,.int 1 v] }
 | .frz o u=>h.get? a=some o/\ObjOk H h a u
 | .tbl ps=>h.get? a=some { cls:=.none,data:=.fields ps }
 | .met f x=>h.get? a=some (PySem.W.methodObj (.ref f) (.ref x))
 | .ext φ=>φ h/\(∃ o,h.get? a=some o)/\∀ h1 h2:Heap,φ h1->(∀ o,h1.get? a=some o->h2.get? a=some o)->φ h2
def HOk (H:Hp)(h:Heap):Prop:=∀ a o,H a=some o->ObjOk P w H h a o
end
section
variable {P:Program}{w:World}{H H':Hp}{h h':Heap}{a:Addr}{o:HO}
theorem ObjOk.lt (x:ObjOk P w H h a o):a<h.objs.size:=by
 cases o with
 | lst xs=>obtain ⟨_,_,_,_,e⟩:=x;exact qbB e
 | tup xs=>obtain ⟨_,_,_,p⟩:=x;exact p.lt
 | dK kvs=>obtain ⟨_,_,_,_,o,_,_,e,_⟩:=x;exact qbB e
 | dT kvs=>obtain ⟨_,_,_,_,o,_,_,e,_⟩:=x;exact qbB e
 | set S n=>obtain ⟨o,_,_,_,e,_⟩:=x;exact qbB e
 | ins C dx fs=>obtain ⟨_,_,_,e,_⟩:=x;exact qbB e
 | own y=>obtain ⟨_,e⟩:=x;exact qbB e
 | xd fs=>obtain ⟨_,⟨_,_,_,e,_⟩,_⟩:=x;exact qbB e
 | rng lo hi=>obtain ⟨_,_,_,e⟩:=x;exact qbB e
 | frz ob u=>obtain ⟨e,_⟩:=x;exact qbB e
 | tbl ps=>exact qbB (show h.get? a=some _ from x)
 | met f y=>exact qbB (show h.get? a=some _ from x)
 | ext φ=>obtain ⟨_,⟨_,e⟩,_⟩:=x;exact qbB e
theorem Paired.mapP {α β:Type}{F G:α->β->Prop}:∀ {l₁:List α}{l₂:List β},Paired F l₁ l₂->(∀ a b,F a b->G a b)->Paired G l₁ l₂
 | _,_,.nil,_=>.nil
 | _,_,.cons r t,f=>.cons (f _ _ r) (Paired.mapP t f)
theorem Paired.imp' {α β:Type}{F G:α->β->Prop}(f:∀ a b,F a b->G a b){l₁:List α}{l₂:List β}(r:Paired F l₁ l₂):Paired G l₁ l₂:=Paired.mapP r f
theorem ObjOk.stay (x:ObjOk P w H h a o)(k:∀ b u,(b=a\/H b=some (.own a))->h.get? b=some u->h'.get? b=some u)
  (ho:∀ b,H b=some (.own a)->H' b=some (.own a)) (ht:∀ b xs,H b=some (.tup xs)->H' b=some (.tup xs)):ObjOk P w H' h' a o:=by
 induction o with
 | lst xs=>obtain ⟨z,its,n,r,e⟩:=x;exact ⟨z,its,n,r,k _ _ (.inl rfl) e⟩
 | tup xs=>obtain ⟨z,its,r,ob,e,c⟩:=x;exact ⟨z,its,r,ob,k _ _ (.inl rfl) e,c⟩
 | dK kvs=>obtain ⟨z,y,vs,r,ob,es,ep,e,c⟩:=x;exact ⟨z,y,vs,r,ob,es,ep,k _ _ (.inl rfl) e,c⟩
 | dT kvs =>
  obtain ⟨z,y,xs,r,ob,es,ep,e,c⟩:=x;exact ⟨z,y,xs,Paired.mapP r fun p q z=>⟨z.1,ht _ _ z.2.1,z.2.2⟩,ob,es,ep,k _ _ (.inl rfl) e,c⟩
 | set S n=>obtain ⟨ob,es,ep,t,e,c⟩:=x;exact ⟨ob,es,ep,t,k _ _ (.inl rfl) e,c⟩
 | ins C dx fs =>
  obtain ⟨d,z,ne,e,mA,⟨od,es,ep,e2,c⟩,r⟩:=x;exact ⟨ho _ d,z,ne,k _ _ (.inl rfl) e,mA,⟨od,es,ep,k _ _ (.inr d) e2,c⟩,r⟩
 | own y=>obtain ⟨ob,e⟩:=x;exact ⟨ob,k _ _ (.inl rfl) e⟩
 | xd fs=>obtain ⟨mA,⟨od,es,ep,e,c⟩,r⟩:=x;exact ⟨mA,⟨od,es,ep,k _ _ (.inl rfl) e,c⟩,r⟩
 | rng lo hi=>obtain ⟨t,u,v,e⟩:=x;exact ⟨t,u,v,k _ _ (.inl rfl) e⟩
 | frz ob u ih=>obtain ⟨e,q⟩:=x;exact ⟨k _ _ (.inl rfl) e,ih q⟩
 | tbl ps =>
  have e:h.get? a=some { cls:=.none,data:=.fields ps }:=x;show h'.get? a=some { cls:=.none,data:=.fields ps };exact k a _ (.inl rfl) e
 | met f y =>
  have e:h.get? a=some (PySem.W.methodObj (.ref f) (.ref y)):=x;show h'.get? a=some (PySem.W.methodObj (.ref f) (.ref y));exact k a _ (.inl rfl) e
 | ext φ=>obtain ⟨p,⟨o,e⟩,st⟩:=x;exact ⟨st _ _ p fun o q=>k _ _ (.inl rfl) q,⟨o,k _ _ (.inl rfl) e⟩,st⟩
theorem HOk.lt (x:HOk P w H h)(e:H a=some o):a<h.objs.size:=(x a o e).lt
theorem HOk.fresh (x:HOk P w H h)(e:h.objs.size<=a):H a=none:=by
 cases q:H a with
 | none=>rfl
 | some u=>exact absurd (qqB (x.lt q) e) (qzA _)
theorem HOk.kept (x:HOk P w H h)(k:∀ b u,h.get? b=some u->h'.get? b=some u):HOk P w H h':=fun a o e =>
 (x a o e).stay (fun b u _ q=>k b u q) (fun _ q=>q) fun _ _ q=>q
theorem HOk.laid (x:HOk P w H h)(k:∀ b u,h.get? b=some u->h'.get? b=some u)(hp:h.objs.size<=a)(new:ObjOk P w (upd H a o) h' a o):HOk P w (upd H a o) h':=fun b u e=>by
 have hn:=x.fresh hp;by_cases hb:b=a
 ·subst hb;rw [AM] at e;cases e;exact new
 ·rw [Ak hb] at e;exact (x b u e).stay (fun c v _ q=>k c v q) (fun c q=>by rw [Ak (Bb q hn)];exact q) fun c xs q=>by rw [Ak (Bb q hn)];exact q
end
def Rd (H:Hp)(a:Addr)(u:HO):Prop:=H a=some u\/∃ o,H a=some (.frz o u)
theorem Rd.ok {P:Program}{w:World}{H:Hp}{h:Heap}{a:Addr}{u:HO}(r:Rd H a u)(x:HOk P w H h):ObjOk P w H h a u:=by
 rcases r with r | ⟨o,r⟩
 ·exact x a u r
 ·obtain ⟨_,q⟩:=x a _ r;exact q
def Mut:Option HO->Prop
 | some (.lst _)=>True
 | some (.dK _)=>True
 | some (.dT _)=>True
 | some (.set _ _)=>True
 | some (.ins _ _ _)=>True
 | some (.ext _)=>True
 | _=>False
section
variable {P:Program}{w:World}{H:Hp}{h h':Heap}{x e:Addr}{o':HO}
theorem HOk.write (ok:HOk P w H h)(mu:Mut (H x))(he:e=x\/H e=some (.own x))(k:∀ b u,b≠e->h.get? b=some u->h'.get? b=some u)(heo:∃ u,h'.get? e=some u)
  (new:ObjOk P w (upd H x o') h' x o'):HOk P w (upd H x o') h':=fun b u q=>by
 have nown:∀ c y,H c=some (.own y)->c≠x:=fun c y r z=>by subst z;rw [r] at mu;exact mu
 have ntup:∀ c xs,H c=some (.tup xs)->c≠x:=fun c xs r z=>by subst z;rw [r] at mu;exact mu
 by_cases hb:b=x
 ·subst hb;rw [AM] at q;cases q;exact new
 ·rw [Ak hb] at q;by_cases hbe:b=e
  ·have q':H b=some (.own x):=by
    rcases he with z|z
    ·exact absurd (hbe.trans z) hb
    ·rw [hbe];exact z
   rw [q] at q';cases q';obtain ⟨v,hv⟩:=heo;exact ⟨v,by rw [hbe];exact hv⟩
  ·refine (ok b u q).stay (fun c v hc r=>k c v ?_ r) (fun c r=>by rw [Ak (nown c b r)];exact r) fun c xs r=>by rw [Ak (ntup c xs r)];exact r
   rcases hc with rfl|hc
   ·exact hbe
   ·rintro rfl;rcases he with z|z
    ·exact nown c b hc z
    ·rw [hc] at z;cases z;exact hb rfl
end
structure Un (fs ex:List Addr)(H H':Hp)(h h':Heap):Prop where
 keep:∀ b o,h.get? b=some o->H b=none->b ∉ fs->b ∉ ex->h'.get? b=some o
 slot:∀ b o,h.get? b=some o->H b=none->b∈fs->b ∉ ex->∃ sl,h'.get? b=some { o with slots:=sl }
 free:∀ b o,h.get? b=some o->H b=none->b ∉ ex->H' b=none
 there:∀ b o,h.get? b=some o->b ∉ ex->∃ o',h'.get? b=some o'
 tups:∀ b xs,H b=some (.tup xs)->H' b=some (.tup xs)
 frzs:∀ b o u,H b=some (.frz o u)->H' b=some (.frz o u)
 tbls:∀ b ps,H b=some (.tbl ps)->∃ more,H' b=some (.tbl (ps++more))
section
variable {fs fs' ex ex':List Addr}{H H1 H2:Hp}{h h1 h2 h':Heap}{a x e:Addr}{o:HO}
theorem Un.any (u:Un fs ex H H1 h h1){b:Addr}{ob:Obj}(q:h.get? b=some ob)(n:H b=none)(hx:b ∉ ex):∃ sl,h1.get? b=some { ob with slots:=sl }:=by
 by_cases hb:b∈fs
 ·exact u.slot b ob q n hb hx
 ·exact ⟨ob.slots,u.keep b ob q n hb hx⟩
theorem Un.kept (k:∀ b u,h.get? b=some u->h'.get? b=some u):Un fs ex H H h h' :=
 ⟨fun b ob q _ _ _=>k b ob q,fun b ob q _ _ _=>⟨ob.slots,k b ob q⟩,fun _ _ _ n _=>n,fun b ob q _=>⟨ob,k b ob q⟩,fun _ _ q=>q,fun _ _ _ q=>q,fun _ ps q=>⟨#[],by rw [q];simp⟩⟩
theorem Un.refl:Un fs ex H H h h:=Un.kept fun _ _ q=>q
theorem Un.laid (k:∀ b u,h.get? b=some u->h'.get? b=some u)(hp:h.objs.size<=a)(hn:H a=none):Un fs ex H (upd H a o) h h' where
 keep:=fun b u q _ _ _=>k b u q
 slot:=fun b u q _ _ _=>⟨u.slots,k b u q⟩
 free:=fun b u q n _=>by rw [Ak (qoB (qqB (qbB q) hp))];exact n
 there:=fun b u q _=>⟨u,k b u q⟩
 tups:=fun b xs q=>by rw [Ak (Bb q hn)];exact q
 frzs:=fun b u xs q=>by rw [Ak (Bb q hn)];exact q
 tbls:=fun b ps q=>⟨#[],by rw [Ak (Bb q hn),q];simp⟩
theorem Un.write (mu:Mut (H x))(he:e=x\/H e=some (.own x))(k:∀ b u,b≠e->h.get? b=some u->h'.get? b=some u)(heo:∃ u,h'.get? e=some u):Un fs ex H (upd H x o) h h':=by
 have hx:∀ b,H b=none->b≠x:=fun b n z=>by subst z;rw [n] at mu;exact mu
 have hb:∀ b,H b=none->b≠e:=fun b n z=>by
  subst z;rcases he with r|r
  ·exact hx b n r
  ·rw [n] at r;cases r
 have hm:∀ b u,H b=some u->¬ Mut (some u)->b≠x:=fun b u q nm z=>by subst z;rw [q] at mu;exact nm mu
 refine ⟨fun b u q n _ _=>k b u (hb b n) q,fun b u q n _ _=>⟨u.slots,k b u (hb b n) q⟩,fun b u q n _=>by rw [Ak (hx b n)];exact n,fun b u q _=>?_,
  fun b xs q=>by rw [Ak (hm b _ q fun z=>z)];exact q,fun b u xs q=>by rw [Ak (hm b _ q fun z=>z)];exact q,fun b ps q=>⟨#[],by rw [Ak (hm b _ q fun z=>z),q];simp⟩⟩
 by_cases hbe:b=e
 ·subst hbe;exact heo
 ·exact ⟨u,k b u hbe q⟩
end
def trk (h:Heap)(H:Hp):List Addr:=(List.range h.objs.size).filter fun a=>(H a).isSome
def JD (h:Heap)(H:Hp):Heap:=PySem.W.hideAll h (trk h H)
theorem MK (h:Heap)(H:Hp):(JD h H).objs.size=h.objs.size:=PySem.W.hideAll_size _ _
theorem hidT_get {h:Heap}{H:Hp}{b:Addr}{o:Obj}(e:h.get? b=some o)(n:H b=none):(JD h H).get? b=some o :=
 PySem.W.hideAll_get _ e fun hm=>by
  have q:(H b).isSome=true:=(List.mem_filter.mp hm).2;rw [n] at q;simp at q
theorem of_hidT {h:Heap}{H:Hp}{b:Addr}{o:Obj}(e:(JD h H).get? b=some o):h.get? b=some o/\H b=none:=by
 have e':h.get? b=some o:=PySem.W.of_hideAll (trk h H) e;refine ⟨e',?_⟩
 cases q:H b with
 | none=>rfl
 | some x =>
  have hm:b∈trk h H:=List.mem_filter.mpr ⟨qrA.mpr (qbB e'),by simp [q]⟩;have z:(JD h H).get? b=none:=PySem.W.hideAll_none (trk h H) hm;rw [z] at e;cases e
structure Mod (K:FZ9)(mg:Str->Option Value)(base:Heap):Prop where
 kin:K.In base
 glob:base.Ns mainGlobals mg
 blt:∃ mb,base.Ns builtinsNs mb/\∀ x:Str,x ≠ "__name__" -> mb x=bootBuiltins x
 nolimit:base.NoLimit
structure Cx where
 prog:Program
 w:World
 K:FZ9
 mg:Str->Option Value
 base:Heap
 A:Around
 N:List Str
 s₀:Shared
 H₀:Hp
 env:Env
 outer:List Env
 stack:List Env
 ex:List Addr
 fn:Str->Bool
 calm:Bool
 pn:List (Addr × Obj)
 xe:Value->Shared->Prop
def frs (l:List Env):List Addr:=l.filterMap (·.frame)
abbrev Cx.fs (X:Cx):List Addr:=frs X.outer
def Vis (sc:Scope)(x:Str):Prop:=sc.names.lookup x=some .local \/ sc.names.lookup x=some .cell\/sc.names.lookup x=some .free
def Loc (sc:Scope)(x:Str):Prop:=sc.names.lookup x=some .local \/ sc.names.lookup x=some .cell
def Look (env:Env)(h:Heap)(m:Str->Option Value)(x:Str)(u:Value):Prop :=
 (env.kindOf x=some .local /\ m x=some u)\/((env.kindOf x=some .cell\/env.kindOf x=some .free)/\∃ c,env.cells.lookup x=some c/\h.IsCell c (some u))
structure Cx.Ok (X:Cx):Prop where
 mod:Mod X.K X.mg X.base
 kind:X.env.scope.kind = .function
 glob:X.env.globals=mainGlobals
 blt:X.env.builtins=builtinsNs
 above:X.s₀.heap.objs.size<=X.env.locals
 inj:∀ x y c,X.env.cells.lookup x=some c->X.env.cells.lookup y=some c->x=y
 has:∀ x,(X.env.kindOf x=some .cell\/X.env.kindOf x=some .free)->∃ c,X.env.cells.lookup x=some c
 cab:∀ x c,X.fn x=true->X.env.cells.lookup x=some c->X.s₀.heap.objs.size<=c
 hd:X.calm=true->X.A.handled=none
 frames:X.A.frames=some X.stack
 stk:X.stack=X.outer\/(X.stack=X.env::X.outer/\X.env.frame=some X.env.locals)
 exf:∀ b∈X.ex,b≠X.env.locals/\∀ x c,X.env.cells.lookup x=some c->c≠b
 bs:∀ b o,X.base.get? b=some o->X.s₀.heap.get? b=some o/\X.H₀ b=none
 bsz:X.base.objs.size<=X.s₀.heap.objs.size
 noex:∀ b o,X.base.get? b=some o->b ∉ X.ex
 exfs:∀ b∈X.ex,b ∉ X.fs
 funs:X.s₀.heap.FunFrames X.base X.outer
 frf:∀ b∈X.fs,X.H₀ b=none
structure Inv (X:Cx)(pins:List (Addr × Obj))(σ:List (Option V))(H:Hp)(s:Shared):Prop where
 ok:X.Ok
 os:s.os=X.s₀.os
 bare:AllBare s.gens
 base:Un X.fs X.ex X.H₀ H X.s₀.heap s.heap
 loc:∃ m,s.heap.Ns X.env.locals m/\∀ (i:Nat) (x:Str) (v:V),X.N[i]? = some x->σ[i]? = some (some v)->Vis X.env.scope x->∃ u,RelV v u/\Look X.env s.heap m x u
 cell:∀ x c,X.env.cells.lookup x=some c->∃ v,s.heap.IsCell c v
 free:H X.env.locals=none
 freeC:∀ x c,X.env.cells.lookup x=some c->H c=none
 pin:∀ p∈X.pn++pins,s.heap.get? p.1=some p.2/\H p.1=none/\p.1≠X.env.locals/\p.1 ∉ X.fs/\∀ v,p.2.data ≠ .cell v
 hok:HOk X.prog X.w H s.heap
 len:σ.length=X.N.length
section
variable {X:Cx}{pins:List (Addr × Obj)}{σ:List (Option V)}{H H':Hp}{s:Shared}{h':Heap}
theorem Cx.Ok.nofr (ok:X.Ok){b:Addr}{o:Obj}(e:X.base.get? b=some o):b ∉ X.fs:=fun hb=>by
 have:=(ok.funs.mem hb).1;rw [e] at this;cases this
theorem Inv.bs (I:Inv X pins σ H s):∀ b o,X.base.get? b=some o->s.heap.get? b=some o/\H b=none:=fun b o e =>
 ⟨I.base.keep b o (I.ok.bs b o e).1 (I.ok.bs b o e).2 (I.ok.nofr e) (I.ok.noex b o e),I.base.free b o (I.ok.bs b o e).1 (I.ok.bs b o e).2 (I.ok.noex b o e)⟩
theorem Inv.bk (I:Inv X pins σ H s):∀ b o,X.base.get? b=some o->s.heap.get? b=some o:=fun b o e=>(I.bs b o e).1
theorem Inv.mod (I:Inv X pins σ H s):Mod X.K X.mg X.base:=I.ok.mod
theorem Inv.kIn (I:Inv X pins σ H s):X.K.In s.heap:=I.ok.mod.kin.keeps I.bk
theorem Inv.lt (I:Inv X pins σ H s):X.env.locals<s.heap.objs.size:=let ⟨_,hn,_⟩:=I.loc;hn.lt
theorem Inv.sz (I:Inv X pins σ H s):X.s₀.heap.objs.size<=s.heap.objs.size:=qyA I.ok.above (Nat.le_of_lt I.lt)
theorem Inv.nofs (I:Inv X pins σ H s){a:Addr}(h:s.heap.objs.size<=a):a ∉ X.fs:=fun hb=>by
 obtain ⟨_,o,ho,_⟩:=I.ok.funs.mem hb;exact absurd (qqB (qbB ho) (qyA I.sz h)) (qzA _)
theorem Inv.cne (I:Inv X pins σ H s):∀ x c,X.env.cells.lookup x=some c->c≠X.env.locals:=fun x c e z=>by
 obtain ⟨v,o,ho,hd⟩:=I.cell x c e;obtain ⟨m,⟨o',es,ep,ho',hd',_⟩,_⟩:=I.loc;rw [z,ho'] at ho;cases ho;rw [hd'] at hd;cases hd
theorem Inv.funs (I:Inv X pins σ H s):s.heap.FunFrames X.base X.outer:=by
 have all:∀ (l:List Env),(∀ b∈frs l,b∈X.fs)->X.s₀.heap.FunFrames X.base l->s.heap.FunFrames X.base l:=by
  intro l
  induction l with
  | nil=>intro _ _;trivial
  | cons env r ih =>
   intro hs hl;obtain ⟨hk,⟨L,o,hf,hn,ho,hd⟩,hr⟩:=hl;have hL:L∈X.fs:=hs L (by unfold frs;rw [List.filterMap_cons,hf];exact qpA);obtain ⟨sl,e⟩:=I.base.slot L o ho (I.ok.frf L hL) hL fun z=>I.ok.exfs L z hL;exact ⟨hk,⟨L,_,hf,hn,e,hd⟩,ih (fun b hb=>hs b (by unfold frs;rw [List.filterMap_cons,hf];exact qqA _ hb)) hr⟩
 exact all X.outer (fun _ hb=>hb) I.ok.funs
theorem Inv.stack (I:Inv X pins σ H s):s.heap.FunFrames X.base X.stack:=by
 rcases I.ok.stk with e | ⟨e,hf⟩
 ·rw [e];exact I.funs
 ·rw [e];obtain ⟨m,hn,_⟩:=I.loc;refine .cons (by rw [I.ok.kind];decide) hf hn ?_ I.funs;exact Heap.get?_none_of_le (qyA I.ok.bsz I.ok.above)
theorem Inv.stkSub (I:Inv X pins σ H s):∀ b∈frs X.stack,b∈X.env.locals::X.fs:=fun b hb=>by
 rcases I.ok.stk with e | ⟨e,hf⟩
 ·rw [e] at hb;exact qqA _ hb
 ·rw [e] at hb;unfold frs at hb;rw [List.filterMap_cons,hf] at hb;exact hb
theorem Inv.stkFree (I:Inv X pins σ H s):∀ b∈frs X.stack,H b=none:=fun b hb=>by
 rcases qmA.mp (I.stkSub b hb) with e|hb
 ·rw [e];exact I.free
 ·obtain ⟨_,o,ho,_⟩:=I.ok.funs.mem hb;exact I.base.free b o ho (I.ok.frf b hb) fun z=>I.ok.exfs b z hb
theorem Inv.step {g':Array GenState}{t':Nat}{d':Drawn}{ch:List Addr}(I:Inv X pins σ H s)
  (hch:∀ b∈ch,(b∈X.ex\/X.s₀.heap.objs.size<=b)/\b≠X.env.locals/\(∀ x c,X.env.cells.lookup x=some c->c≠b)/\∀ p∈X.pn++pins,p.1≠b)
  (keep:∀ b o,b≠X.env.locals->b ∉ X.fs->b ∉ ch->s.heap.get? b=some o->H b=none->h'.get? b=some o)
  (slot:∀ b o,b≠X.env.locals->b∈X.fs->b ∉ ch->s.heap.get? b=some o->H b=none->∃ sl,h'.get? b=some { o with slots:=sl }) (free:∀ b o,b ∉ ch->s.heap.get? b=some o->H b=none->H' b=none)
  (there:∀ b o,b ∉ ch->s.heap.get? b=some o->∃ o',h'.get? b=some o')
  (tups:∀ b xs,H b=some (.tup xs)->H' b=some (.tup xs)) (frzs:∀ b o u,H b=some (.frz o u)->H' b=some (.frz o u)) (tbls:∀ b ps,H b=some (.tbl ps)->∃ more,H' b=some (.tbl (ps++more)))
  (ns:∀ m,s.heap.Ns X.env.locals m->h'.Ns X.env.locals m) (hok:HOk X.prog X.w H' h') (hg:AllBare g') :
  Inv X pins σ H' { s with heap:=h',gens:=g',drawn:=d',toks:=t' }:=by
 have neL:∀ b o,X.s₀.heap.get? b=some o->b≠X.env.locals:=fun b o e=>qoB (qqB (qbB e) I.ok.above)
 have neC:∀ b o,X.s₀.heap.get? b=some o->b ∉ X.ex->b ∉ ch:=fun b o e hx hb=>by
  rcases (hch b hb).1 with z|z
  ·exact hx z
  ·exact absurd (qqB (qbB e) z) (qzA _)
 have cellK:∀ x c,X.env.cells.lookup x=some c->∀ v,s.heap.IsCell c v->h'.IsCell c v:=fun x c e v ⟨o,ho,hd⟩=>by
  have nch:c ∉ ch:=fun z=>(hch c z).2.2.1 x c e rfl;by_cases hc:c∈X.fs
  ·obtain ⟨sl,q⟩:=slot c o (I.cne x c e) hc nch ho (I.freeC x c e);exact ⟨_,q,hd⟩
  ·exact ⟨o,keep c o (I.cne x c e) hc nch ho (I.freeC x c e),hd⟩
 refine ⟨I.ok,I.os,hg,⟨fun b o e n hb hx=>?_,fun b o e n hb hx=>?_,fun b o e n hx=>?_,fun b o e hx=>?_,fun b xs e=>tups b xs (I.base.tups b xs e),fun b o xs e=>frzs b o xs (I.base.frzs b o xs e),fun b ps e=>?_⟩,?_,fun x c e=>?_,?_,fun x c e=>?_,fun p hp=>?_,hok,I.len⟩
 ·exact keep b o (neL b o e) hb (neC b o e hx) (I.base.keep b o e n hb hx) (I.base.free b o e n hx)
 ·obtain ⟨sl,e1⟩:=I.base.slot b o e n hb hx;obtain ⟨sl',e2⟩:=slot b _ (neL b o e) hb (neC b o e hx) e1 (I.base.free b o e n hx);exact ⟨sl',e2⟩
 ·obtain ⟨o',e1⟩:=I.base.there b o e hx;exact free b o' (neC b o e hx) e1 (I.base.free b o e n hx)
 ·obtain ⟨o',e1⟩:=I.base.there b o e hx;exact there b o' (neC b o e hx) e1
 ·obtain ⟨m1,e1⟩:=I.base.tbls b ps e;obtain ⟨m2,e2⟩:=tbls b _ e1;exact ⟨m1++m2,by rw [e2,Array.append_assoc]⟩
 ·obtain ⟨m,hn,hl⟩:=I.loc;refine ⟨m,ns m hn,fun i x v e1 e2 e3=>?_⟩;obtain ⟨u,r,l⟩:=hl i x v e1 e2 e3;refine ⟨u,r,?_⟩;rcases l with l | ⟨k,c,e,z⟩
  ·exact .inl l
  ·exact .inr ⟨k,c,e,cellK x c e _ z⟩
 ·obtain ⟨v,z⟩:=I.cell x c e;exact ⟨v,cellK x c e v z⟩
 ·obtain ⟨m,⟨o,_,_,ho,_⟩,_⟩:=I.loc;exact free _ o (fun z=>(hch _ z).2.1 rfl) ho I.free
 ·obtain ⟨v,o,ho,hd⟩:=I.cell x c e;exact free c o (fun z=>(hch c z).2.2.1 x c e rfl) ho (I.freeC x c e)
 ·obtain ⟨e,n,ne,nf,d⟩:=I.pin p hp;have nch:p.1 ∉ ch:=fun z=>(hch p.1 z).2.2.2 p hp rfl;exact ⟨keep p.1 p.2 ne nf nch e n,free p.1 p.2 nch e n,ne,nf,d⟩
theorem Inv.un {t':Nat}(I:Inv X pins σ H s)(u:Un X.fs [] H H' s.heap h')(hok:HOk X.prog X.w H' h'):Inv X pins σ H' { s with heap:=h',toks:=t' }:=by
 obtain ⟨m,⟨o,es,ep,ho,r⟩,_⟩:=id I.loc;obtain ⟨sl,hL⟩:=u.any ho I.free (by simp)
 exact I.step (g':=s.gens) (d':=s.drawn) (ch:=[]) (fun _ z=>nomatch z) (fun b o _ hb _ e n=>u.keep b o e n hb (by simp)) (fun b o _ hb _ e n=>u.slot b o e n hb (by simp)) (fun b o _ e n=>u.free b o e n (by simp)) (fun b o _ e=>u.there b o e (by simp)) u.tups u.frzs u.tbls (fun m' hm=>by
  obtain ⟨o',es',ep',ho',r'⟩:=hm;rw [ho] at ho';cases ho'
  exact ⟨_,es',ep',hL,r'⟩) hok I.bare
theorem Inv.call {g':Array GenState}{t':Nat}{d':Drawn}{ch:List Addr}(I:Inv X pins σ H s)(u:Un (frs X.stack) ch H H' s.heap h')(hok:HOk X.prog X.w H' h')(hg:AllBare g')
  (hch:∀ b∈ch,(b∈X.ex\/X.s₀.heap.objs.size<=b)/\b≠X.env.locals/\(∀ x c,X.env.cells.lookup x=some c->c≠b)/\∀ p∈X.pn++pins,p.1≠b) :
  Inv X pins σ H' { s with heap:=h',gens:=g',drawn:=d',toks:=t' }:=by
 obtain ⟨m,⟨o,es,ep,ho,r⟩,_⟩:=id I.loc;obtain ⟨sl,hL⟩:=u.any ho I.free fun z=>(hch _ z).2.1 rfl
 exact I.step (ch:=ch) hch (fun b o hL hb hc e n=>u.keep b o e n (fun z=>(qmA.mp (I.stkSub b z)).elim hL hb) hc) (fun b o _ _ hc e n=>u.any e n hc) (fun b o hc e n=>u.free b o e n hc) (fun b o hc e=>u.there b o e hc) u.tups u.frzs u.tbls (fun m' hm=>by
  obtain ⟨o',es',ep',ho',r'⟩:=hm;rw [ho] at ho';cases ho'
  exact ⟨_,es',ep',hL,r'⟩) hok hg
theorem Inv.turned {t':Nat}{it:Addr}(I:Inv X pins σ H s)(k:∀ b o,b≠it->s.heap.get? b=some o->h'.get? b=some o)(hn:H it=none)(hL:it≠X.env.locals)
  (h1:it∈X.ex\/X.s₀.heap.objs.size<=it) (h2:∀ x c,X.env.cells.lookup x=some c->c≠it) (h3:∀ p∈X.pn++pins,p.1≠it):Inv X pins σ H { s with heap:=h',toks:=t' }:=by
 have nit:∀ b u,H b=some u->b≠it:=fun b u e z=>by rw [z,hn] at e;cases e
 refine I.step (g':=s.gens) (d':=s.drawn) (ch:=[it]) (fun b hb=>?_) (fun b o _ _ hc e _=>k b o (fun z=>hc (by simp [z])) e) (fun b o _ _ hc e _=>⟨o.slots,k b o (fun z=>hc (by simp [z])) e⟩) (fun _ _ _ _ n=>n)
  (fun b o hc e=>⟨o,k b o (fun z=>hc (by simp [z])) e⟩) (fun _ _ e=>e) (fun _ _ _ e=>e) (fun b ps e=>⟨#[],by rw [e];simp⟩) (fun m hm=>?_) (fun b u e=>?_) I.bare
 ·have e:b=it:=by simpa using hb
  subst e;exact ⟨h1,hL,h2,h3⟩
 ·obtain ⟨o,es,ep,ho,r⟩:=hm;exact ⟨o,es,ep,k _ o (Ne.symm hL) ho,r⟩
 ·refine (I.hok b u e).stay (fun c v hc q=>k c v ?_ q) (fun _ q=>q) fun _ _ q=>q;rcases hc with z|z
  ·rw [z];exact nit b u e
  ·exact nit c _ z
theorem Inv.tok (I:Inv X pins σ H s)(t:Nat):Inv X pins σ H { s with toks:=t }:=I.un (h':=s.heap) (t':=t) Un.refl I.hok
theorem Inv.kept {t':Nat}(I:Inv X pins σ H s)(k:∀ b u,s.heap.get? b=some u->h'.get? b=some u):Inv X pins σ H { s with heap:=h',toks:=t' }:=I.un (Un.kept k) (I.hok.kept k)
theorem Inv.laid {a:Addr}{o:HO}{t':Nat}(I:Inv X pins σ H s)(k:∀ b u,s.heap.get? b=some u->h'.get? b=some u)(hp:s.heap.objs.size<=a)(new:ObjOk X.prog X.w (upd H a o) h' a o) :
  Inv X pins σ (upd H a o) { s with heap:=h',toks:=t' }:=I.un (Un.laid k hp (I.hok.fresh hp)) (I.hok.laid k hp new)
theorem Inv.write {x e:Addr}{o:HO}{t':Nat}(I:Inv X pins σ H s)(mu:Mut (H x))(he:e=x\/H e=some (.own x))(k:∀ b u,b≠e->s.heap.get? b=some u->h'.get? b=some u)(heo:∃ u,h'.get? e=some u)
  (new:ObjOk X.prog X.w (upd H x o) h' x o):Inv X pins σ (upd H x o) { s with heap:=h',toks:=t' }:=I.un (Un.write mu he k heo) (I.hok.write mu he k heo new)
theorem Inv.weak {σ':List (Option V)}(I:Inv X pins σ H s)(hl:σ'.length=σ.length)(w:∀ (i:Nat) v,σ'[i]? = some (some v)->σ[i]? = some (some v)):Inv X pins σ' H s :=
 ⟨I.ok,I.os,I.bare,I.base,let ⟨m,hn,hl'⟩:=I.loc;⟨m,hn,fun i x v e1 e2 e3=>hl' i x v e1 (w i v e2) e3⟩,I.cell,I.free,I.freeC,I.pin,I.hok,hl.trans I.len⟩
theorem Inv.pins_of {pins':List (Addr × Obj)}(I:Inv X pins σ H s)(h:∀ p∈pins',s.heap.get? p.1=some p.2/\H p.1=none/\p.1≠X.env.locals/\p.1 ∉ X.fs/\∀ v,p.2.data ≠ .cell v):Inv X pins' σ H s :=
 ⟨I.ok,I.os,I.bare,I.base,I.loc,I.cell,I.free,I.freeC,fun p hp=>(qkA.mp hp).elim (fun z=>I.pin p (List.mem_append_left _ z)) (h p),I.hok,I.len⟩
theorem Jg {N:List Str}(hN:N.Nodup){i j:Nat}{x:Str}(a:N[i]? = some x)(b:N[j]? = some x):i=j:=by
 obtain ⟨h1,e1⟩:=qtA.mp a;obtain ⟨h2,e2⟩:=qtA.mp b;exact (List.getElem_inj hN).mp (e1.trans e2.symm)
theorem IA {M:Model}{A:Around}{E:Value->Shared->Prop}{i:Nat}{x:Str}{v:V}{u:Value}{Q:Unit->Shared->Prop}(I:Inv X pins σ H s)(hN:X.N.Nodup)(hi:X.N[i]? = some x)(hx:Loc X.env.scope x)(r:RelV v u)
  (h:∀ s',Inv X pins (σ.set i (some v)) H s'->(∃ a,Heap.SameBut a s.heap s'.heap/\(a=X.env.locals\/X.env.cells.lookup x=some a))->Q () s') (hf:X.fn x=true\/X.env.scope.names.lookup x=some .local := by first|exact .inl rfl|exact .inr rfl|assumption):wpAny M A (storeName X.env x u) Q E s:=by
 obtain ⟨m,hn,hl⟩:=id I.loc;have hcls:(X.env.scope.kind == .class || (X.env.scope.kind == .module && X.env.locals != X.env.globals))=false:=by rw [I.ok.kind];rfl
 have hiσ:i<σ.length:=by rw [I.len];exact (qtA.mp hi).1
 have cne:=I.cne
 have tracked:∀ {a:Addr}{h':Heap},(∃ o,s.heap.get? a=some o/\H a=none)->Heap.SameBut a s.heap h'->HOk X.prog X.w H h':=fun {a h'} ha hs b ob e=>by
  obtain ⟨_,_,hfree⟩:=ha;refine (I.hok b ob e).stay (fun c w' hc q=>(hs.2 c ?_).trans q) (fun _ q=>q) fun _ _ q=>q;rintro rfl;rcases hc with rfl|hc
  ·rw [hfree] at e;cases e
  ·rw [hfree] at hc;cases hc
 rcases hx with hk|hk
 ·refine wpAny_storeName_local hk hn (fun h' hn' hs=>?_) hcls;obtain ⟨oL,_,_,hoL,_⟩:=id hn;refine h _ ⟨I.ok,I.os,I.bare,⟨fun b o e n hb hx=>?_,fun b o e n hb hx=>?_,I.base.free,fun b o e hx=>?_,I.base.tups,I.base.frzs,I.base.tbls⟩,⟨_,hn',fun j y v' e1 e2 e3=>?_⟩,fun y c e=>?_,I.free,I.freeC,fun p hp=>?_,tracked ⟨oL,hoL,I.free⟩ hs,by simpa using I.len⟩ ⟨_,hs,.inl rfl⟩
  ·exact (hs.2 b (qoB (qqB (qbB e) I.ok.above))).trans (I.base.keep b o e n hb hx)
  ·obtain ⟨sl,e1⟩:=I.base.slot b o e n hb hx;exact ⟨sl,(hs.2 b (qoB (qqB (qbB e) I.ok.above))).trans e1⟩
  ·obtain ⟨o',e1⟩:=I.base.there b o e hx;exact ⟨o',(hs.2 b (qoB (qqB (qbB e) I.ok.above))).trans e1⟩
  ·by_cases hj:j=i
   ·subst hj;rw [hi] at e1;cases e1;rw [List.getElem?_set_self hiσ] at e2;cases e2;exact ⟨u,r,.inl ⟨hk,by simp⟩⟩
   ·rw [List.getElem?_set_ne (Ne.symm hj)] at e2;obtain ⟨u',r',q⟩:=hl j y v' e1 e2 e3;refine ⟨u',r',?_⟩;rcases q with ⟨k,e⟩ | ⟨k,c,e,z⟩
    ·refine .inl ⟨k,?_⟩;have:y≠x:=fun e=>hj (Jg hN e1 (e ▸ hi));simp [this,e]
    ·exact .inr ⟨k,c,e,z.sameBut hs (cne y c e)⟩
  ·obtain ⟨w',z⟩:=I.cell y c e;exact ⟨w',z.sameBut hs (cne y c e)⟩
  ·obtain ⟨e,n,ne,nf,d⟩:=I.pin p hp;exact ⟨(hs.2 p.1 ne).trans e,n,ne,nf,d⟩
 ·have hfn:X.fn x=true:=by
   rcases hf with z|z
   ·exact z
   ·rw [z] at hk;cases hk
  obtain ⟨c,hc⟩:=I.ok.has x (.inl hk);obtain ⟨w',z⟩:=I.cell x c hc;refine wpAny_storeName_cell I.ok.kind hk hc z (fun h' hc' hs=>?_);obtain ⟨oc,hoc,hocd⟩:=id z;refine h { s with heap:=h' } ⟨I.ok,I.os,I.bare,⟨fun b o e n hb hx=>?_,fun b o e n hb hx=>?_,I.base.free,fun b o e hx=>?_,I.base.tups,I.base.frzs,I.base.tbls⟩,⟨m,hn.sameBut hs (Ne.symm (cne x c hc)),fun j y v' e1 e2 e3=>?_⟩,fun y c' e=>?_,I.free,I.freeC,fun p hp=>?_,tracked ⟨oc,hoc,I.freeC x c hc⟩ hs,by simpa using I.len⟩ ⟨c,hs,.inr hc⟩
  ·exact (hs.2 b (qoB (qqB (qbB e) (I.ok.cab x c hfn hc)))).trans (I.base.keep b o e n hb hx)
  ·obtain ⟨sl,e1⟩:=I.base.slot b o e n hb hx;exact ⟨sl,(hs.2 b (qoB (qqB (qbB e) (I.ok.cab x c hfn hc)))).trans e1⟩
  ·obtain ⟨o',e1⟩:=I.base.there b o e hx;exact ⟨o',(hs.2 b (qoB (qqB (qbB e) (I.ok.cab x c hfn hc)))).trans e1⟩
  ·by_cases hj:j=i
   ·subst hj;rw [hi] at e1;cases e1;rw [List.getElem?_set_self hiσ] at e2;cases e2;exact ⟨u,r,.inr ⟨.inl hk,c,hc,hc'⟩⟩
   ·rw [List.getElem?_set_ne (Ne.symm hj)] at e2;obtain ⟨u',r',q⟩:=hl j y v' e1 e2 e3;refine ⟨u',r',?_⟩;rcases q with q | ⟨k,c',e,z'⟩
    ·exact .inl q
    ·refine .inr ⟨k,c',e,z'.sameBut hs ?_⟩;rintro rfl;exact hj (Jg hN e1 (I.ok.inj _ _ _ e hc ▸ hi))
  ·by_cases hcc:c'=c
   ·subst hcc;exact ⟨_,hc'⟩
   ·obtain ⟨w2,z2⟩:=I.cell y c' e;exact ⟨w2,z2.sameBut hs hcc⟩
  ·obtain ⟨e,n,ne,nf,d⟩:=I.pin p hp;refine ⟨(hs.2 p.1 ?_).trans e,n,ne,nf,d⟩;intro q;rw [q,hoc] at e;have q':oc=p.2:=qaB e;exact d w' (by rw [<- q'];exact hocd)
theorem Gm {M:Model}{A:Around}{E:Value->Shared->Prop}{i:Nat}{x:Str}{v:V}{u:Value}{Q:Unit->Shared->Prop}(I:Inv X pins σ H s)(hN:X.N.Nodup)(hi:X.N[i]? = some x)(hx:Loc X.env.scope x)(r:RelV v u)
  (h:∀ s',Inv X pins (σ.set i (some v)) H s'->Q () s') (hf:X.fn x=true\/X.env.scope.names.lookup x=some .local := by first|exact .inl rfl|exact .inr rfl|assumption):wpAny M A (storeName X.env x u) Q E s :=
 IA I hN hi hx r (fun s' I' _=>h s' I') hf
theorem Inv.call' {s':Shared}{ch:List Addr}(I:Inv X pins σ H s)(ho:s'.os=s.os)(u:Un (frs X.stack) ch H H' s.heap s'.heap)(hok:HOk X.prog X.w H' s'.heap)(hg:AllBare s'.gens)
  (hch:∀ b∈ch,(b∈X.ex\/X.s₀.heap.objs.size<=b)/\b≠X.env.locals/\(∀ x c,X.env.cells.lookup x=some c->c≠b)/\∀ p∈X.pn++pins,p.1≠b):Inv X pins σ H' s':=by
 obtain ⟨h',g',d',t',o'⟩:=s';have e:o'=s.os:=ho;subst e;exact I.call (g':=g') (t':=t') (d':=d') u hok hg hch
end
abbrev XK:=Value->Option Addr->Hp->Prop
abbrev St:=List (Option V)
abbrev VK:=V->Hp->Prop
abbrev TE:=St->Hp->VK->Prop
abbrev TT:=St->Hp->(Bool->Hp->Prop)->Prop
abbrev TA:=St->Hp->(List V->Hp->Prop)->Prop
structure Ends where
 nx:St->Hp->Prop
 rt:VK
 bk:St->Hp->Prop:=fun _ _=>False
 ct:St->Hp->Prop:=fun _ _=>False
abbrev TS:=Ends->St->Hp->Prop
def EP (X:Cx)(pins:List (Addr × Obj))(σ:St)(Q:VK)(u:Value)(s':Shared):Prop:=∃ v H',Inv X pins σ H' s'/\RelV v u/\Q v H'
def TP (X:Cx)(pins:List (Addr × Obj))(σ:St)(Q:Bool->Hp->Prop)(b:Bool)(s':Shared):Prop:=∃ H',Inv X pins σ H' s'/\Q b H'
def AP (X:Cx)(pins:List (Addr × Obj))(σ:St)(Q:List V->Hp->Prop)(us:List Value)(s':Shared):Prop:=∃ vs H',Inv X pins σ H' s'/\Vals vs us/\Q vs H'
def SP (X:Cx)(pins:List (Addr × Obj))(D:Ends)(f:Flow)(s':Shared):Prop :=
 match f with
 | .next=>∃ σ' H',Inv X pins σ' H' s'/\D.nx σ' H'
 | .brk=>∃ σ' H',Inv X pins σ' H' s'/\D.bk σ' H'
 | .cont=>∃ σ' H',Inv X pins σ' H' s'/\D.ct σ' H'
 | .ret u=>∃ v σ' H',Inv X pins σ' H' s'/\RelV v u/\D.rt v H'
def PE (X:Cx)(e:Expr)(t:TE):Prop :=
 ∀ (pins:List (Addr × Obj)) (s:Shared) (σ:St) (H:Hp) (Q:VK),Inv X pins σ H s->t σ H Q->wpAny (model X.prog X.w) X.A (eval e X.env) (EP X pins σ Q) X.xe s
def PT (X:Cx)(e:Expr)(t:TT):Prop :=
 ∀ (pins:List (Addr × Obj)) (s:Shared) (σ:St) (H:Hp) (Q:Bool->Hp->Prop),Inv X pins σ H s->t σ H Q->wpAny (model X.prog X.w) X.A (isTrue e X.env (eval e X.env)) (TP X pins σ Q) X.xe s
def PW (X:Cx)(e:Expr)(t:TT):Prop :=
 ∀ (whole:Sem Value) (pins:List (Addr × Obj)) (s:Shared) (σ:St) (H:Hp) (Q:Bool->Hp->Prop),Inv X pins σ H s->t σ H Q->wpAny (model X.prog X.w) X.A (isTrue e X.env whole) (TP X pins σ Q) X.xe s
theorem PW.pt {X:Cx}{e:Expr}{t:TT}(h:PW X e t):PT X e t:=h _
def PA (X:Cx)(es:List Expr)(t:TA):Prop :=
 ∀ (pos:Pos) (pins:List (Addr × Obj)) (s:Shared) (σ:St) (H:Hp) (Q:List V->Hp->Prop),Inv X pins σ H s->t σ H Q->wpAny (model X.prog X.w) X.A (spliced (backTo pos (starEach es X.env))) (AP X pins σ Q) X.xe s
def PS (X:Cx)(st:Stmt)(t:TS):Prop :=
 ∀ (pins:List (Addr × Obj)) (s:Shared) (σ:St) (H:Hp) (D:Ends),Inv X pins σ H s->t D σ H->wpAny (model X.prog X.w) X.A (exec st X.env) (SP X pins D) X.xe s
def PSs (X:Cx)(st:List Stmt)(t:TS):Prop :=
 ∀ (pins:List (Addr × Obj)) (s:Shared) (σ:St) (H:Hp) (D:Ends),Inv X pins σ H s->t D σ H->wpAny (model X.prog X.w) X.A (execs st X.env) (SP X pins D) X.xe s
theorem thn {α:Type}{t:Sem α}{Q Q':α->Shared->Prop}{M:Model}{A:Around}{E:Value->Shared->Prop}{s:Shared}(h:wpAny M A t Q E s)(hQ:∀ a s,Q a s->Q' a s):wpAny M A t Q' E s:=wpAny_mono h hQ fun _ _ x=>x
section
variable {X:Cx}
abbrev Ii (i:Nat):TE:=fun σ H Q=>∃ v,σ[i]? = some (some v)/\Q v H
abbrev tC (v:V):TE:=fun _ H Q=>Q v H
theorem pe_var {i:Nat}{x:Str}{pos:Pos}(hN:X.N[i]? = some x)(hv:Vis X.env.scope x)(hd:(x == ("__debug__" : Str))=false:=by decide)(hcd:(x == ("__classdict__" : Str))=false:=by decide):PE X (.Name x pos) (Ii i):=by
 intro pins s σ H Q I h;obtain ⟨v,e,h⟩:=h;obtain ⟨m,hn,hl⟩:=I.loc;obtain ⟨u,r,l⟩:=hl i x v hN e hv;have fin:EP X pins σ Q u s:=⟨v,H,I,r,h⟩;rcases l with ⟨hk,hm⟩ | ⟨hk,c,hc,hcell⟩
 ·exact wpAny_Name (wpAny_loadName_local I.ok.kind hk hn hm fin) hd
 ·rcases hk with hk|hk
  ·exact wpAny_Name (wpAny_loadName_cell I.ok.kind hk hc hcell fin) hd
  ·exact wpAny_Name (wpAny_loadName_free I.ok.kind hk hc hcell fin hcd) hd
theorem A9 {i j pos}:PE X (.Constant (.int i) j pos) (tC (.int i)):=fun _ _ _ H _ I h=>wpAny_Constant_int ⟨.int i,H,I.tok _,⟨_,rfl⟩,h⟩
theorem Bh {b j pos}:PE X (.Constant (.bool b) j pos) (tC (.bl b)):=fun _ _ _ H _ I h=>Constant_bool ⟨.bl b,H,I,rfl,h⟩
theorem Ea {x j pos}:PE X (.Constant (.str x) j pos) (tC (.str x)):=fun _ _ _ H _ I h=>Calls.Constant_str ⟨.str x,H,I.tok _,⟨_,rfl⟩,h⟩
def Gl (X:Cx)(x:Str):Prop:=X.env.kindOf x=some .globalImplicit
theorem LH {E:Value->Shared->Prop}{pins:List (Addr × Obj)}{s:Shared}{σ:St}{H:Hp}{x:Str}{u:Value}{pos:Pos}{Q:Value->Shared->Prop}(I:Inv X pins σ H s)(hg:Gl X x)(hm:X.mg x=some u)(h:Q u s)
  (hd:(x == ("__debug__" : Str))=false:=by decide):wpAny (model X.prog X.w) X.A (eval (.Name x pos) X.env) Q E s :=
 Calls.Name_function_global I.ok.kind hg (Calls.loadGlobal_global (by rw [I.ok.glob];exact I.mod.glob.keeps I.bk) hm h) hd
theorem EZ {E:Value->Shared->Prop}{pins:List (Addr × Obj)}{s:Shared}{σ:St}{H:Hp}{x:Str}{u:Value}{pos:Pos}{Q:Value->Shared->Prop}(I:Inv X pins σ H s)(hg:Gl X x)(hm:X.mg x=none)(hv:bootBuiltins x=some u)(h:Q u s)
  (hn:x ≠ "__name__" := by decide) (hd:(x == ("__debug__" : Str))=false:=by decide):wpAny (model X.prog X.w) X.A (eval (.Name x pos) X.env) Q E s:=by
 obtain ⟨mb,h1,h2⟩:=I.mod.blt;exact Calls.Name_function_global I.ok.kind hg (Calls.loadGlobal_builtin (by rw [I.ok.glob];exact I.mod.glob.keeps I.bk) hm (by rw [I.ok.blt];exact h1.keeps I.bk) ((h2 x hn).trans hv) h) hd
theorem pe_glob {x:Str}{v:V}{u:Value}{pos:Pos}(hg:Gl X x)(hm:X.mg x=some u)(r:RelV v u)(hd:(x == ("__debug__" : Str))=false:=by decide):PE X (.Name x pos) (tC v) :=
 fun _ _ _ H _ I h=>LH I hg hm ⟨v,H,I,r,h⟩ hd
theorem BJ {x:Str}{v:V}{u:Value}{pos:Pos}(hg:Gl X x)(hm:X.mg x=none)(hv:bootBuiltins x=some u)(r:RelV v u)(hn:x ≠ "__name__" := by decide)(hd:(x == ("__debug__" : Str))=false:=by decide):PE X (.Name x pos) (tC v) :=
 fun _ _ _ H _ I h=>EZ I hg hm hv ⟨v,H,I,r,h⟩ hn hd
variable {a b:Expr}{ta tb:TE}{pos:Pos}
variable {tA tB':TT}{rest:List Expr}
abbrev tAnd (t u:TT):TT:=fun σ H Q=>t σ H fun c H1=>if c=true then u σ H1 Q else Q false H1
abbrev tOr (t u:TT):TT:=fun σ H Q=>t σ H fun c H1=>if c=true then Q true H1 else u σ H1 Q
abbrev tNot (t:TT):TT:=fun σ H Q=>t σ H fun c H1=>Q (!c) H1
theorem LD (ha:PT X a tA):PW X (.BoolOp .And [a] pos) tA:=by
 intro wh pins s σ H Q I h;refine isTrue_and (thn (ha pins s σ H Q I h) fun c s1 e=>?_)
 cases c with
 | true=>exact isTrue_and_nil e
 | false=>exact e
theorem Bq (ha:PT X a tA):PW X (.BoolOp .Or [a] pos) tA:=by
 intro wh pins s σ H Q I h;refine isTrue_or (thn (ha pins s σ H Q I h) fun c s1 e=>?_)
 cases c with
 | false=>exact isTrue_or_nil e
 | true=>exact e
theorem pw_and (ha:PT X a tA)(hb:PW X (.BoolOp .And (b::rest) pos) tB'):PW X (.BoolOp .And (a::b::rest) pos) (tAnd tA tB'):=by
 intro wh pins s σ H Q I h;refine isTrue_and (thn (ha pins s σ H _ I h) fun c s1 ⟨H1,I1,q1⟩=>?_)
 cases c with
 | true=>exact hb wh pins s1 σ H1 Q I1 q1
 | false=>exact ⟨H1,I1,q1⟩
theorem CL (ha:PT X a tA)(hb:PW X (.BoolOp .Or (b::rest) pos) tB'):PW X (.BoolOp .Or (a::b::rest) pos) (tOr tA tB'):=by
 intro wh pins s σ H Q I h;refine isTrue_or (thn (ha pins s σ H _ I h) fun c s1 ⟨H1,I1,q1⟩=>?_)
 cases c with
 | true=>exact ⟨H1,I1,q1⟩
 | false=>exact hb wh pins s1 σ H1 Q I1 q1
theorem BE (ha:PT X a tA):PT X (.UnaryOp .Not a pos) (tNot tA):=by
 intro pins s σ H Q I h;exact isTrue_not (ha pins s σ H (fun c H1=>Q (!c) H1) I h)
abbrev tAndV (ta tb:TE):TE:=fun σ H Q=>ta σ H fun x H1=>∃ c,x = .bl c/\if c=true then tb σ H1 Q else Q (.bl false) H1
abbrev tNotV (ta:TE):TE:=fun σ H Q=>ta σ H fun x H1=>∃ c,x = .bl c/\Q (.bl (!c)) H1
theorem FE {op}{t:TE}(h:PE X a t):PE X (.BoolOp op [a] pos) t:=fun pins s σ H Q I hw=>BoolOp_one (h pins s σ H Q I hw)
theorem Ei (ha:PE X a ta)(hb:PE X (.BoolOp .And (b::rest) pos) tb):PE X (.BoolOp .And (a::b::rest) pos) (tAndV ta tb):=by
 intro pins s σ H Q I h;refine BoolOp_and (thn (ha pins s σ H _ I h) fun v s1 ⟨x,H1,I1,r1,q1⟩=>?_);obtain ⟨c,rfl,q1⟩:=q1;cases r1;refine wpAny_truthy_bool ?_
 cases c with
 | true=>exact hb pins s1 σ H1 Q I1 q1
 | false=>exact ⟨.bl false,H1,I1,rfl,q1⟩
theorem pe_not (ha:PE X a ta):PE X (.UnaryOp .Not a pos) (tNotV ta):=by
 intro pins s σ H Q I h;refine UnaryOp_ (thn (ha pins s σ H _ I h) fun v s1 ⟨x,H1,I1,r1,q1⟩=>?_);obtain ⟨c,rfl,q1⟩:=q1;cases r1;exact not_of (wpAny_truthy_bool ⟨.bl (!c),H1,I1,rfl,q1⟩)
end
def SqL (K:FZ9)(H:Hp)(a:Addr)(xs:List V):Prop :=
 Rd H a (.lst xs) \/
  ∃ (o:Obj) (its:Array Value) (n:Nat),K.lookup a=some o/\o.cls = .type "list" /\ o.dict=none/\o.data = .seq its n/\its.size<=sizeLine/\Vals xs its.toList
def SqT (K:FZ9)(H:Hp)(a:Addr)(xs:List V):Prop :=
 Rd H a (.tup xs) \/
  ∃ (o:Obj) (its:Array Value) (n:Nat),K.lookup a=some o/\o.cls = .type "tuple" /\ o.data = .seq its n/\its.size<=sizeLine/\Vals xs its.toList
def absV:Value->Option V
 | .none=>some .non
 | .bool b=>some (.bl b)
 | .int i _=>some (.int i)
 | .str x _=>some (.str x)
 | .bytes b _=>some (.byt b)
 | .float b _=>some (.flt b)
 | .ref a=>some (.ref a)
 | .type n=>some (.ty n)
 | _=>none
theorem RelV.abs {x:V}{u:Value}(r:RelV x u):absV u=some x:=by
 cases x with
 | non=>cases r;rfl
 | bl _=>cases r;rfl
 | int _=>obtain ⟨t,rfl⟩:=r;rfl
 | str _=>obtain ⟨t,rfl⟩:=r;rfl
 | byt _=>obtain ⟨t,rfl⟩:=r;rfl
 | flt _=>obtain ⟨t,rfl⟩:=r;rfl
 | ref _=>cases r;rfl
 | ty _=>cases r;rfl
theorem RelV.inj {x y:V}{u:Value}(r:RelV x u)(q:RelV y u):x=y:=qaB (r.abs.symm.trans q.abs)
theorem Vals.inj:∀ {xs ys:List V}{us:List Value},Vals xs us->Vals ys us->xs=ys
 | _,_,_,.nil,.nil=>rfl
 | _,_,_,.cons r t,.cons r' t'=>by rw [r.inj r',Vals.inj t t']
section
variable {X:Cx}{pins:List (Addr × Obj)}{σ:St}{H:Hp}{s:Shared}{a:Addr}{xs ys:List V}
theorem SqL.of {K:FZ9}(h:H a=some (.lst xs)):SqL K H a xs:=.inl (.inl h)
theorem SqT.of {K:FZ9}(h:H a=some (.tup xs)):SqT K H a xs:=.inl (.inl h)
theorem Inv.list (I:Inv X pins σ H s)(h:SqL X.K H a xs):∃ its:List Value,Vals xs its/\PlainL s.heap a its.toArray/\xs.length<=sizeLine:=by
 rcases h with h | ⟨o,its,n,hk,hc,hd,hs,hz,r⟩
 ·obtain ⟨z,its,n,r,e⟩:=h.ok I.hok;exact ⟨its,r,⟨_,n,e,rfl,rfl,rfl⟩,z⟩
 ·refine ⟨its.toList,r,⟨o,n,I.kIn a o hk,hc,hd,by simpa using hs⟩,?_⟩;have e:=r.length;simp only [qnB] at e;omega
theorem Inv.tuple (I:Inv X pins σ H s)(h:SqT X.K H a xs):∃ its:List Value,Vals xs its/\IsTup s.heap a its.toArray/\xs.length<=sizeLine:=by
 rcases h with h | ⟨o,its,n,hk,hc,hs,hz,r⟩
 ·obtain ⟨z,its,r,p⟩:=h.ok I.hok;exact ⟨its,r,p,z⟩
 ·refine ⟨its.toList,r,⟨o,I.kIn a o hk,hc,n,by simpa using hs⟩,?_⟩;have e:=r.length;simp only [qnB] at e;omega
theorem Inv.list_inj (I:Inv X pins σ H s)(h:SqL X.K H a xs)(h':SqL X.K H a ys):xs=ys:=by
 obtain ⟨its,r,⟨o,n,e,_,_,d⟩,_⟩:=I.list h;obtain ⟨its',r',⟨o',n',e',_,_,d'⟩,_⟩:=I.list h';rw [e] at e';cases e';rw [d] at d';injection d' with d1 _
 have:its=its':=by simpa using congrArg Array.toList d1
 subst this;exact r.inj r'
theorem Inv.tuple_inj (I:Inv X pins σ H s)(h:SqT X.K H a xs)(h':SqT X.K H a ys):xs=ys:=by
 obtain ⟨its,r,⟨o,e,_,n,d⟩,_⟩:=I.tuple h;obtain ⟨its',r',⟨o',e',_,n',d'⟩,_⟩:=I.tuple h';rw [e] at e';cases e';rw [d] at d';injection d' with d1 _
 have:its=its':=by simpa using congrArg Array.toList d1
 subst this;exact r.inj r'
end
abbrev Cx.wish (X:Cx)(E:Value->Shared->Prop):Cx:={ X with xe:=E }
abbrev Cx.nox (X:Cx):Cx:=X.wish fun _ _=>False
theorem Cx.Ok.wish {X:Cx}(ok:X.Ok)(E:Value->Shared->Prop):(X.wish E).Ok :=
 ⟨ok.mod,ok.kind,ok.glob,ok.blt,ok.above,ok.inj,ok.has,ok.cab,ok.hd,ok.frames,ok.stk,ok.exf,ok.bs,ok.bsz,ok.noex,ok.exfs,ok.funs,ok.frf⟩
theorem Cx.Ok.unwish {X:Cx}{E:Value->Shared->Prop}(ok:(X.wish E).Ok):X.Ok :=
 ⟨ok.mod,ok.kind,ok.glob,ok.blt,ok.above,ok.inj,ok.has,ok.cab,ok.hd,ok.frames,ok.stk,ok.exf,ok.bs,ok.bsz,ok.noex,ok.exfs,ok.funs,ok.frf⟩
section
variable {X:Cx}{pins:List (Addr × Obj)}{σ:St}{H:Hp}{s:Shared}{E:Value->Shared->Prop}
theorem Inv.wish (I:Inv X pins σ H s)(E:Value->Shared->Prop):Inv (X.wish E) pins σ H s:=⟨I.ok.wish E,I.os,I.bare,I.base,I.loc,I.cell,I.free,I.freeC,I.pin,I.hok,I.len⟩
theorem Inv.unwish (I:Inv (X.wish E) pins σ H s):Inv X pins σ H s:=⟨I.ok.unwish,I.os,I.bare,I.base,I.loc,I.cell,I.free,I.freeC,I.pin,I.hok,I.len⟩
theorem SP.unwish {D:Ends}{f:Flow}{s':Shared}(h:SP (X.wish E) pins D f s'):SP X pins D f s':=by
 cases f with
 | next=>obtain ⟨σ',H',I,q⟩:=h;exact ⟨σ',H',I.unwish,q⟩
 | brk=>obtain ⟨σ',H',I,q⟩:=h;exact ⟨σ',H',I.unwish,q⟩
 | cont=>obtain ⟨σ',H',I,q⟩:=h;exact ⟨σ',H',I.unwish,q⟩
 | ret u=>obtain ⟨v,σ',H',I,r,q⟩:=h;exact ⟨v,σ',H',I.unwish,r,q⟩
theorem PSs.nox {st:List Stmt}{t:TS}(h:PSs X.nox st t):PSs X st t:=fun pins s σ H D I hw =>
 wpAny_mono (h pins s σ H D (I.wish _) hw) (fun _ _ q=>q.unwish) fun _ _ z=>False.elim z
end
section
variable {X:Cx}{st:Stmt}{rest:List Stmt}{t u:TS}{e:Expr}{te:TE}{pos:Pos}
abbrev BY:TS:=fun D σ H=>D.nx σ H
abbrev Dc (t u:TS):TS:=fun D σ H=>t { D with nx:=u D } σ H
theorem AA:PSs X [] BY:=fun _ _ σ H _ I h=>wpAny_execs_nil ⟨σ,H,I,h⟩
theorem A5 (h1:PS X st t)(h2:PSs X rest u):PSs X (st::rest) (Dc t u):=by
 intro pins s σ H D I h;refine wpAny_execs_cons (thn (h1 pins s σ H { D with nx:=u D } I h) fun f s1 q=>?_)
 cases f with
 | next =>
  obtain ⟨σ',H',I',q⟩:=q;exact h2 pins s1 σ' H' D I' q
 | ret v=>exact q
 | brk=>exact q
 | cont=>exact q
theorem Inv.quiet {pins:List (Addr × Obj)}{σ:St}{H:Hp}{s:Shared}(I:Inv X pins σ H s):interactive X.env=false:=by simp [interactive,I.ok.kind]
abbrev Ky (te:TE):TS:=fun D σ H=>te σ H fun _ H1=>D.nx σ H1
theorem CN (he:PE X e te)(hs:swapsWith e none pos.line X.env=pure false:=by rfl):PS X (.Expr e pos) (Ky te):=by
 intro pins s σ H D I h;exact wpAny_Expr_any (thn (he pins s σ H _ I h) fun v s1 ⟨x,H1,I1,r1,q1⟩=>⟨σ,H1,I1,q1⟩) I.quiet hs
abbrev tRet (te:TE):TS:=fun D σ H=>te σ H D.rt
theorem AN (he:PE X e te):PS X (.Return (some e) pos) (tRet te):=by
 intro pins s σ H D I h;exact wpAny_Return_some (thn (he pins s σ H _ I h) fun v s1 ⟨x,H1,I1,r1,q1⟩=>⟨x,σ,H1,I1,r1,q1⟩)
abbrev Ht (c:TT)(t u:TS):TS:=fun D σ H=>c σ H fun b H1=>if b=true then t D σ H1 else u D σ H1
theorem B7 {c:Expr}{a b:List Stmt}{tc:TT}(hc:PT X c tc)(ha:PSs X a t)(hb:PSs X b u):PS X (.If c a b pos) (Ht tc t u):=by
 intro pins s σ H D I h;refine wpAny_If (thn (hc pins s σ H _ I h) fun d s1 ⟨H1,I1,q1⟩=>?_)
 cases d with
 | true=>exact ha pins s1 σ H1 D I1 q1
 | false=>exact hb pins s1 σ H1 D I1 q1
end
abbrev TG:=V->St->Hp->(St->Hp->Prop)->Prop
def PG (X:Cx)(target:Expr)(t:TG):Prop :=
 ∀ (pins:List (Addr × Obj)) (s:Shared) (σ:St) (H:Hp) (v:V) (u:Value) (Q:St->Hp->Prop),Inv X pins σ H s->RelV v u->t v σ H Q ->
  wpAny (model X.prog X.w) X.A (assign target X.env u) (fun _ s'=>∃ σ' H',Inv X pins σ' H' s'/\Q σ' H') X.xe s
abbrev TSet:=V->V->V->Hp->(Hp->Prop)->Prop
def PSet (X:Cx)(t:TSet):Prop :=
 ∀ (pins:List (Addr × Obj)) (s:Shared) (σ:St) (H:Hp) (o i v:V) (ov iv u:Value) (Q:Hp->Prop),Inv X pins σ H s->RelV o ov->RelV i iv->RelV v u->t o i v H Q ->
  wpAny (model X.prog X.w) X.A (setItem ov iv u) (fun _ s'=>∃ H',Inv X pins σ H' s'/\Q H') X.xe s
section
variable {X:Cx}{pos:Pos}
abbrev De (i:Nat):TG:=fun v σ H Q=>Q (σ.set i (some v)) H
theorem pg_name {i:Nat}{x:Str}(hN:X.N.Nodup)(hi:X.N[i]? = some x)(hx:Loc X.env.scope x)(hf:X.fn x=true\/X.env.scope.names.lookup x=some .local := by first|exact .inl rfl|exact .inr rfl|assumption):PG X (.Name x pos) (De i):=by
 intro pins s σ H v u Q I r h;exact wpAny_assign_Name (Gm I hN hi hx r (fun s' I'=>⟨_,H,I',h⟩) hf)
def gSub (to ti:TE)(t:TSet):TG:=fun v σ H Q=>to σ H fun o H1=>ti σ H1 fun i H2=>t o i v H2 fun H3=>Q σ H3
theorem pg_sub {o i:Expr}{to ti:TE}{t:TSet}(ho:PE X o to)(hi:PE X i ti)(hs:PSet X t)
  (ha:∀ v,assign (.Subscript o i pos) X.env v=(do
   let ov <- holding [v] (eval o X.env)
   let iv <- holding [v,ov] (eval i X.env)
   standAt pos
   holding [v,ov,iv] (setItem ov iv v)
   release [v,ov,iv] []):=by intro _;rfl):PG X (.Subscript o i pos) (gSub to ti t):=by
 intro pins s σ H v u Q I r h;rw [ha];refine qbA (qdA (thn (ho pins s σ H _ I h) fun ov s1 ⟨x,H1,I1,r1,q1⟩=>?_));refine qbA (qdA (thn (hi pins s1 σ H1 _ I1 q1) fun iv s2 ⟨y,H2,I2,r2,q2⟩=>?_));refine qbA (wpAny_standAt (qbA (qdA (thn (hs pins s2 σ H2 x y v ov iv u _ I2 r1 r2 r q2) fun _ s3 ⟨H3,I3,q3⟩=>?_))));exact wpAny_release ⟨σ,H3,I3,q3⟩
abbrev HG (te:TE)(g:TG):TS:=fun D σ H=>te σ H fun x H1=>g x σ H1 D.nx
theorem ps_asg {tg e:Expr}{te:TE}{g:TG}(he:PE X e te)(hg:PG X tg g)(hs:swapsWithSole [tg] e pos.line X.env=pure false:=by rfl)(hw:swappedStores [tg] e X.env=pure none:=by rfl)
  (h1:(assignEach [tg] X.env).map (·.2)=[assign tg X.env]:=by rfl):PS X (.Assign [tg] e pos) (HG te g):=by
 intro pins s σ H D I h;refine wpAny_Assign_stores (thn (he pins s σ H _ I h) fun v s1 ⟨x,H1,I1,r1,q1⟩=>?_) hs hw;rw [h1];exact thn (hg pins s1 σ H1 x v _ I1 r1 q1) fun _ s2 q=>q
theorem ps_set {i:Nat}{x:Str}{e:Expr}{te:TE}{pos':Pos}(hN:X.N.Nodup)(hi:X.N[i]? = some x)(hx:Loc X.env.scope x)(he:PE X e te)(hs:swapsWith e (some (.Name x pos')) pos.line X.env=pure false:=by rfl)(hf:X.fn x=true\/X.env.scope.names.lookup x=some .local := by first|exact .inl rfl|exact .inr rfl|assumption) :
  PS X (.Assign [.Name x pos'] e pos) (HG te (De i)):=by
 intro pins s σ H D I h;refine wpAny_Assign_Name (thn (he pins s σ H _ I h) fun v s1 ⟨y,H1,I1,r1,q1⟩=>?_) hs;exact Gm I1 hN hi hx r1 (fun s2 I2=>⟨_,H1,I2,q1⟩) hf
end
section
variable {X:Cx}{pos:Pos}
def tWhile (c:TT)(tb:TS):TS:=fun D σ H=>∃ W:Nat->St->Hp->Prop,(∃ m,W m σ H)/\∀ m σ H,W m σ H ->
 c σ H fun b H1=>if b=true then ∃ N:St->Hp->Prop,(∀ σ' H',N σ' H'->∃ m',m'<m/\W m' σ' H')/\tb { D with nx:=N,ct:=N,bk:=D.nx } σ H1 else D.nx σ H1
theorem ps_while {c:Expr}{body:List Stmt}{tc:TT}{tb:TS}(hp:PassesOwn (model X.prog X.w) X.A X.env X.xe)(hc:PT X c tc)(hb:PSs X body tb):PS X (.While c body [] pos) (tWhile tc tb):=by
 intro pins s σ H D I h;obtain ⟨W,⟨m0,w0⟩,turn⟩:=h;refine wpAny_While (codeAny_whileLoop (fun n s'=>∃ σ' H',Inv X pins σ' H' s'/\W n σ' H') ?_ m0 ⟨σ,H,I,w0⟩);rintro n s1 ⟨σ1,H1,I1,w1⟩;refine wpAny_passesOwn hp (thn (hc pins s1 σ1 H1 _ I1 (turn n σ1 H1 w1)) fun b s2 ⟨H2,I2,q2⟩=>?_)
 cases b with
 | true =>
  obtain ⟨N,hN,q2⟩:=q2;rw [if_pos rfl];refine wpAny_passesOwn hp (thn (hb pins s2 σ1 H2 _ I2 q2) fun f s3 q3=>?_)
  cases f with
  | next =>
   obtain ⟨σ3,H3,I3,n3⟩:=q3;obtain ⟨m',hm,w3⟩:=hN σ3 H3 n3;exact ⟨m',hm,σ3,H3,I3,w3⟩
  | cont =>
   obtain ⟨σ3,H3,I3,n3⟩:=q3;obtain ⟨m',hm,w3⟩:=hN σ3 H3 n3;exact ⟨m',hm,σ3,H3,I3,w3⟩
  | brk=>exact q3
  | ret v=>exact q3
 | false =>
  rw [if_neg qjB];exact wpAny_execs_nil ⟨σ1,H2,I2,q2⟩
end
structure It where
 go:Nat->Hp->Prop
 yld:Nat->Hp->V->Hp->Prop
 stop:Nat->Hp->Prop
def HX (X:Cx)(pins:List (Addr × Obj))(H:Hp)(b:Addr):Prop :=
 H b=none/\b≠X.env.locals/\b ∉ X.fs/\(b∈X.ex\/X.s₀.heap.objs.size<=b)/\(∀ x c,X.env.cells.lookup x=some c->c≠b)/\∀ p∈X.pn++pins,p.1≠b
theorem Inv.fpOk {X:Cx}{pins:List (Addr × Obj)}{σ:St}{H H':Hp}{s:Shared}{b:Addr}(I:Inv X pins σ H s)(hb:s.heap.objs.size<=b)(hn:H' b=none):HX X pins H' b:=by
 refine ⟨hn,Nat.ne_of_gt (qqB I.lt hb),I.nofs hb,.inr (qyA I.sz hb),fun x c e z=>?_,fun p hp z=>?_⟩
 ·obtain ⟨v,q⟩:=I.cell x c e;exact absurd (qqB q.lt (by rw [z];exact hb)) (qzA _)
 ·exact absurd (qqB (qbB (I.pin p hp).1) (by rw [z];exact hb)) (qzA _)
structure Turn (P:Program)(w:World)(K:FZ9)(tg:Expr)(J:It)(fp:List Addr)(it:Addr)(tn:Nat->Heap->Prop):Prop where
 mem:it∈fp
 obj:∀ i h,tn i h->∀ b∈fp,∃ o,h.get? b=some o/\∀ v,o.data ≠ .cell v
 keep:∀ i h h',tn i h->(∀ b∈fp,∀ o,h.get? b=some o->h'.get? b=some o)->tn i h'
 item:∀ (X:Cx),X.prog=P->X.w=w->X.K=K->X.calm=true->∀ (i:Nat) (pins:List (Addr × Obj)) (s:Shared) (σ:St) (H:Hp) (E:Value->Shared->Prop),Inv X pins σ H s->(∀ b∈fp,HX X pins H b)->tn i s.heap->J.go i H ->
  wpAny (model P w) X.A (pyNext (.ref it)) (fun r s1=>∃ u,r=some u /\
   wpAny (model P w) X.A (letOwnedTupleGo tg (.ref it) u) (fun _ s2=>∃ x H',Inv X pins σ H' s2/\RelV x u/\J.yld i H x H'/\tn (i+1) s2.heap/\∀ b∈fp,H' b=none) E s1) E s
 done:∀ (X:Cx),X.prog=P->X.w=w->X.K=K->X.calm=true->∀ (i:Nat) (pins:List (Addr × Obj)) (s:Shared) (σ:St) (H:Hp) (E:Value->Shared->Prop),Inv X pins σ H s->(∀ b∈fp,HX X pins H b)->tn i s.heap->J.stop i H ->
  wpAny (model P w) X.A (pyNext (.ref it)) (fun r s1=>r=none/\Inv X pins σ H s1) E s
 self:∀ (A:Around) (i:Nat) (s:Shared) (Q:Value->Shared->Prop) (E:Value->Shared->Prop),tn i s.heap->Q (.ref it) s->wpAny (model P w) A (pyIter (.ref it)) Q E s
abbrev TI:=St->Hp->(It->Hp->Prop)->Prop
def PIE (X:Cx)(pins:List (Addr × Obj))(σ:St)(tg:Expr)(R:It->Hp->Prop)(itv:Value)(s2:Shared):Prop :=
 ∃ (it:Addr) (fp:List Addr) (tn:Nat->Heap->Prop) (J:It) (H':Hp),itv = .ref it/\Inv X pins σ H' s2/\Turn X.prog X.w X.K tg J fp it tn/\tn 0 s2.heap/\(∀ b∈fp,HX X pins H' b)/\R J H'
def PI (X:Cx)(tg iter:Expr)(wi:TI):Prop :=
 ∀ (pins:List (Addr × Obj)) (s:Shared) (σ:St) (H:Hp) (R:It->Hp->Prop),Inv X pins σ H s->wi σ H R ->
  wpAny (model X.prog X.w) X.A (eval iter X.env) (fun v s1=>wpAny (model X.prog X.w) X.A (pyIter v) (PIE X pins σ tg R) X.xe s1) X.xe s
theorem Jb {M:Model}{A:Around}{E:Value->Shared->Prop}{s:Shared}{tg:Expr}{it:Addr}{u:Value}{o:Obj}{n:String}{vs:Array Value}{Q:Unit->Shared->Prop}(ho:s.heap.get? it=some o)(hc:o.cls = .type n)(hd:o.data = .fields vs)
  (hn:["enumerate","zip","dict_itemiterator","dict_reverseitemiterator","odict_iterator","itertools.zip_longest","itertools.pairwise"].contains n=false) (hQ:Q () s):wpAny M A (letOwnedTupleGo tg (.ref it) u) Q E s:=by
 unfold letOwnedTupleGo
 cases tg<;>first
  | exact qcA hQ
  | (cases u<;>first
    | exact qcA hQ
    | (refine qbA (wpAny_load ho ?_)
       rw [hc,hd];show wpAny M A (if (["enumerate","zip","dict_itemiterator","dict_reverseitemiterator","odict_iterator","itertools.zip_longest","itertools.pairwise"].contains n && vs[0]? == some (rawInt _))=true then _ else _) Q E s;rw [if_neg (by intro h;rw [hn,Bool.false_and] at h;cases h)]
       exact qcA hQ))
def Itl (K:FZ9)(a:Addr):It :=
 ⟨fun i H=>∃ xs x,SqL K H a xs/\xs[i]? = some x,fun i H x H'=>H'=H/\∀ xs,SqL K H a xs->xs[i]? = some x,fun i H=>∃ xs,SqL K H a xs/\xs.length<=i⟩
def Itt (K:FZ9)(a:Addr):It :=
 ⟨fun i H=>∃ xs x,SqT K H a xs/\xs[i]? = some x,fun i H x H'=>H'=H/\∀ xs,SqT K H a xs->xs[i]? = some x,fun i H=>∃ xs,SqT K H a xs/\xs.length<=i⟩
def Itr (lo:Int)(n:Nat):It:=⟨fun i _=>i<n,fun i H x H'=>H'=H/\x = .int (lo+i),fun i _=>n<=i⟩
theorem Lk {P:Program}{w:World}{K:FZ9}{tg:Expr}(a it:Addr):Turn P w K tg (Itl K a) [it] it (fun i h=>h.IsListIter it a i) where
 mem:=by simp
 obj:=fun i h st b hb=>by
  have e:b=it:=by simpa using hb
  subst e;obtain ⟨o,e,c,d⟩:=st;exact ⟨o,e,fun v z=>by rw [d] at z;cases z⟩
 keep:=fun i h h' st k=>st.at fun o e=>k it (by simp) o e
 item:=by
  intro X hP hw hK hc i pins s σ H E I hf st hg;subst hP hw hK;obtain ⟨xs,x,hq,hx⟩:=hg;obtain ⟨its,rv,p,hz⟩:=I.list hq;obtain ⟨u,hu,ru⟩:=rv.get hx;obtain ⟨f0,f1,f2,f3,f4,f5⟩:=hf it (by simp);refine wpAny_pyNext_list_item st p.isList (x:=u) (by simpa using hu) fun h' st' sb=>?_;have I1:Inv X pins σ H { s with heap:=h' }:=I.turned (t':=s.toks) (fun b o hb e=>(sb.2 b hb).trans e) f0 f1 f3 f4 f5;obtain ⟨o,e,c,d⟩:=id st';exact ⟨u,rfl,Jb (s:={ s with heap:=h' }) e c d (by decide) ⟨x,H,I1,ru,⟨rfl,fun ys hy=>by rw [I.list_inj hy hq];exact hx⟩,st',fun b hb=>(hf b hb).1⟩⟩
 done:=by
  intro X hP hw hK hc i pins s σ H E I hf st hg;subst hP hw hK;obtain ⟨xs,hq,hx⟩:=hg;obtain ⟨its,rv,p,hz⟩:=I.list hq;obtain ⟨f0,f1,f2,f3,f4,f5⟩:=hf it (by simp);have hl:=rv.length;exact wpAny_pyNext_list_end (I.ok.hd hc) st p.isList (by simp;omega) fun h' eb=>⟨rfl,I.turned (t':=s.toks) (fun b o hb e=>eb b o hb e) f0 f1 f3 f4 f5⟩
 self:=fun _ _ _ _ _ st h=>wpAny_pyIter_listiter st h
theorem Kn {P:Program}{w:World}{K:FZ9}{tg:Expr}(a it:Addr):Turn P w K tg (Itt K a) [it] it (fun i h=>h.IsTupleIter it a i) where
 mem:=by simp
 obj:=fun i h st b hb=>by
  have e:b=it:=by simpa using hb
  subst e;obtain ⟨o,e,c,d⟩:=st;exact ⟨o,e,fun v z=>by rw [d] at z;cases z⟩
 keep:=fun i h h' st k=>st.at fun o e=>k it (by simp) o e
 item:=by
  intro X hP hw hK hc i pins s σ H E I hf st hg;subst hP hw hK;obtain ⟨xs,x,hq,hx⟩:=hg;obtain ⟨its,rv,p,hz⟩:=I.tuple hq;obtain ⟨u,hu,ru⟩:=rv.get hx;obtain ⟨f0,f1,f2,f3,f4,f5⟩:=hf it (by simp);refine wpAny_pyNext_tuple_item st (show s.heap.IsTuple a its.toArray from p) (x:=u) (by simpa using hu) fun h' st' sb=>?_;have I1:Inv X pins σ H { s with heap:=h' }:=I.turned (t':=s.toks) (fun b o hb e=>(sb.2 b hb).trans e) f0 f1 f3 f4 f5;obtain ⟨o,e,c,d⟩:=id st';exact ⟨u,rfl,Jb (s:={ s with heap:=h' }) e c d (by decide) ⟨x,H,I1,ru,⟨rfl,fun ys hy=>by rw [I.tuple_inj hy hq];exact hx⟩,st',fun b hb=>(hf b hb).1⟩⟩
 done:=by
  intro X hP hw hK hc i pins s σ H E I hf st hg;subst hP hw hK;obtain ⟨xs,hq,hx⟩:=hg;obtain ⟨its,rv,p,hz⟩:=I.tuple hq;obtain ⟨f0,f1,f2,f3,f4,f5⟩:=hf it (by simp);have hl:=rv.length;exact wpAny_pyNext_tuple_end (I.ok.hd hc) st (show s.heap.IsTuple a its.toArray from p) (by simp;omega) fun h' eb=>⟨rfl,I.turned (t':=s.toks) (fun b o hb e=>eb b o hb e) f0 f1 f3 f4 f5⟩
 self:=fun _ _ _ _ _ st h=>wpAny_pyIter_tupleiter st h
theorem KW {P:Program}{w:World}{K:FZ9}{tg:Expr}(it:Addr)(lo:Int)(n:Nat):Turn P w K tg (Itr lo n) [it] it (fun i h=>IsRangeIter h it (lo+(i:Nat) * 1) ((n:Int) - (i:Nat)) 1) where
 mem:=by simp
 obj:=fun i h st b hb=>by
  have e:b=it:=by simpa using hb
  subst e
  exact ⟨_,st,fun v z=>by
   have z':Data.fields _=Data.cell v:=z
   cases z'⟩
 keep:=fun i h h' st k=>k it (by simp) _ st
 item:=by
  intro X hP hw hK hc i pins s σ H E I hf st hg;subst hP hw hK;obtain ⟨f0,f1,f2,f3,f4,f5⟩:=hf it (by simp);have W:=Walks.range (prog:=X.prog) (w:=X.w) (I.ok.hd hc) it lo 1 n;refine W.item i s _ _ hg st fun v h' tk hv st' kk=>?_;obtain ⟨t,rfl⟩:=hv;have I1:Inv X pins σ H { s with heap:=h',toks:=tk }:=I.turned (fun b o hb e=>kk b o (by simpa using hb) e) f0 f1 f3 f4 f5;refine ⟨_,rfl,Jb (s:={ s with heap:=h',toks:=tk }) (n := "range_iterator") st' rfl rfl (by decide) ⟨.int (lo+i),H,I1,⟨t,?_⟩,⟨rfl,rfl⟩,st',fun b hb=>(hf b hb).1⟩⟩;rw [Int.mul_one]
 done:=by
  intro X hP hw hK hc i pins s σ H E I hf st hg;subst hP hw hK;obtain ⟨f0,f1,f2,f3,f4,f5⟩:=hf it (by simp);exact wpAny_pyNext_range_end (I.ok.hd hc) st (by have:n<=i:=hg;omega) fun h' eb=>⟨rfl,I.turned (t':=s.toks) (fun b o hb e=>eb b o hb e) f0 f1 f3 f4 f5⟩
 self:=fun _ _ _ _ _ st h=>wpAny_pyIter_rangeiter st h
section
variable {X:Cx}{tg:Expr}
theorem Jl {pins:List (Addr × Obj)}{σ:St}{H:Hp}{s:Shared}{R:It->Hp->Prop}{E:Value->Shared->Prop}{lo hi:Int}{t u v:Tok}{tk:Nat}(I:Inv X pins σ H s)(h1:-(2 ^ 62)<=lo)(h2:lo<2 ^ 62)(h3:-(2 ^ 62)<=hi)(h4:hi<2 ^ 62)
  (q:R (Itr lo (hi - lo).toNat) H):wpAny (model X.prog X.w) X.A (pyIter (.ref s.heap.objs.size)) (PIE X pins σ tg R) E { s with heap:=s.heap.push { cls:=.type "range",data:=.fields #[.int lo t,.int hi u,.int 1 v] },toks:=tk }:=by
 refine wpAny_pyIter_range (IsRange.new ..) (small_one h1 h2 h3 h4) ?_;have I1:Inv X pins σ H { s with heap:=s.heap.push { cls:=.type "range",data:=.fields #[.int lo t,.int hi u,.int 1 v] },toks:=tk }:=I.kept fun b o e=>qcB _ e
 refine ⟨(s.heap.push { cls:=.type "range",data:=.fields #[.int lo t,.int hi u,.int 1 v] }).objs.size,[(s.heap.push { cls:=.type "range",data:=.fields #[.int lo t,.int hi u,.int 1 v] }).objs.size],_,_,H,rfl,
  I1.kept (t':=tk) fun b o e=>qcB _ e,KW _ lo (hi - lo).toNat,?_,fun b hb=>?_,q⟩
 ·have e1:lo+((0:Nat):Int) * 1=lo:=by simp
  have e2:(((hi - lo).toNat:Nat):Int) - ((0:Nat):Int)=Builtin.Range.rangeSize lo hi 1:=by rw [rangeSize_one];split<;>omega
  show IsRangeIter _ _ (lo+((0:Nat):Int) * 1) ((((hi - lo).toNat:Nat):Int) - ((0:Nat):Int)) 1;rw [e1,e2];exact qdB _ rfl
 ·have e:b=(s.heap.push { cls:=.type "range",data:=.fields #[.int lo t,.int hi u,.int 1 v] }).objs.size:=by simpa using hb
  subst e;exact I1.fpOk (qxA _) (I1.hok.fresh (qxA _))
def iRng1 (ta:TA):TI:=fun σ H R=>ta σ H fun vs H1=>∃ j:Int,vs=[.int j]/\-(2 ^ 62)<=j/\j<2 ^ 62/\R (Itr 0 j.toNat) H1
def iRng2 (ta:TA):TI:=fun σ H R=>ta σ H fun vs H1=>∃ i j:Int,vs=[.int i,.int j]/\(-(2 ^ 62)<=i/\i<2 ^ 62/\-(2 ^ 62)<=j/\j<2 ^ 62)/\R (Itr i (j - i).toNat) H1
theorem CB {a:Expr}{ta:TA}{p pos:Pos}(hg:Gl X "range")(hm:X.mg "range" = none)(ha:PA X [a] ta)(hs:starEach [a] X.env=[(false,eval a X.env)]:=by rfl):PI X tg (.Call (.Name "range" p) [a] [] pos) (iRng1 ta):=by
 intro pins s σ H R I h;refine Call_ (EZ I hg hm boot_range (PyProof.Rows.callWith_type1 (thn (ha pos pins s σ H _ I h) fun us s1 ⟨vs,H1,I1,r1,q1⟩=>?_) hs rfl));obtain ⟨j,e,q1,q2,q⟩:=q1;subst e
 cases r1 with
 | cons r rr =>
  cases rr;obtain ⟨t,rfl⟩:=r;exact call_range_1 (Jl I1 (by omega) (by omega) q1 q2 (by simpa using q))
theorem M3 {a b:Expr}{ta:TA}{p pos:Pos}(hg:Gl X "range")(hm:X.mg "range" = none)(ha:PA X [a,b] ta)(hs:starEach [a,b] X.env=[(false,eval a X.env),(false,eval b X.env)]:=by rfl)(hs2:starEach [b] X.env=[(false,eval b X.env)]:=by rfl) :
  PI X tg (.Call (.Name "range" p) [a,b] [] pos) (iRng2 ta):=by
 intro pins s σ H R I h;refine Call_ (EZ I hg hm boot_range (PyProof.Rows.callWith_type1 (thn (ha pos pins s σ H _ I h) fun us s1 ⟨vs,H1,I1,r1,q1⟩=>?_) (by rw [hs,hs2]) (by rw [hs2];rfl)));obtain ⟨i,j,e,⟨q1,q2,q3,q4⟩,q⟩:=q1;subst e
 cases r1 with
 | cons r rr =>
  cases rr with
  | cons r' rr =>
   cases rr;obtain ⟨t,rfl⟩:=r;obtain ⟨t',rfl⟩:=r';exact call_range_2 (Jl I1 q1 q2 q3 q4 q)
def tFor (wi:TI)(g:TG)(tb:TS):TS:=fun D σ H=>wi σ H fun J H1=>∃ W:Nat->Nat->St->Hp->Prop,(∃ m,W 0 m σ H1)/\∀ i m σ H,W i m σ H ->
 (J.stop i H/\D.nx σ H)\/(J.go i H/\∃ N:St->Hp->Prop,(∀ σ' H',N σ' H'->∃ m',m'<m/\W (i+1) m' σ' H')/\∀ x H',J.yld i H x H'->g x σ H' fun σ2 H2=>tb { D with nx:=N,ct:=N,bk:=D.nx } σ2 H2)
def Hg (fp:List Addr)(h:Heap):List (Addr × Obj):=fp.filterMap fun b=>(h.get? b).map fun o=>(b,o)
theorem Du {fp:List Addr}{h:Heap}{b:Addr}{o:Obj}(hb:b∈fp)(e:h.get? b=some o):(b,o)∈Hg fp h:=List.mem_filterMap.mpr ⟨b,hb,by rw [e];rfl⟩
theorem Li {fp:List Addr}{h:Heap}{p:Addr × Obj}(hp:p∈Hg fp h):p.1∈fp/\h.get? p.1=some p.2:=by
 obtain ⟨b,hb,e⟩:=List.mem_filterMap.mp hp
 cases q:h.get? b with
 | none=>rw [q] at e;cases e
 | some o =>
  rw [q] at e;have e':(b,o)=p:=qaB e;subst e';exact ⟨hb,q⟩
theorem Inv.pinned {pins:List (Addr × Obj)}{σ:St}{H:Hp}{s:Shared}{fp:List Addr}(I:Inv X pins σ H s)(hf:∀ b∈fp,HX X pins H b)(ho:∀ b∈fp,∃ o,s.heap.get? b=some o/\∀ v,o.data ≠ .cell v):Inv X (pins++Hg fp s.heap) σ H s :=
 I.pins_of fun p hp=>(qkA.mp hp).elim (fun z=>I.pin p (qrB _ z)) fun z=>by
  obtain ⟨hb,e⟩:=Li z;obtain ⟨f0,f1,f2,_⟩:=hf p.1 hb;obtain ⟨o,e',d⟩:=ho p.1 hb;rw [e] at e';cases e';exact ⟨e,f0,f1,f2,d⟩
theorem Inv.unpinned {pins pl:List (Addr × Obj)}{σ:St}{H:Hp}{s:Shared}(I:Inv X (pins++pl) σ H s):Inv X pins σ H s:=I.pins_of fun p hp=>I.pin p (qrB _ (List.mem_append_left _ hp))
theorem Ed {iter:Expr}{body:List Stmt}{wi:TI}{g:TG}{tb:TS}{pos:Pos}(hp:PassesOwn (model X.prog X.w) X.A X.env X.xe)(hc:X.calm=true)(hi:PI X tg iter wi)(hg:PG X tg g)(hb:PSs X body tb)
  (hs:∀ x,foldedSetIterable iter X.env x=pure x:=by intro _;rfl):PS X (.For tg iter body [] pos) (tFor wi g tb):=by
 intro pins s σ H D I h;refine wpAny_For (thn (hi pins s σ H _ I h) fun v s1 h1=>thn h1 fun itv s2 h2=>?_) hs;obtain ⟨it,fp,tn,J,H2,e,I2,T,st2,f2,W,⟨m0,w0⟩,turn⟩:=h2;subst e;have stat:∀ {H':Hp},(∀ b∈fp,H' b=none)->∀ b∈fp,HX X pins H' b:=fun hn b hb=>⟨hn b hb,(f2 b hb).2⟩;refine codeAny_forLoop_any (fun n s'=>∃ i σ' H',Inv X pins σ' H' s'/\tn i s'.heap/\(∀ b∈fp,H' b=none)/\W i n σ' H') ?_ m0 ⟨0,σ,H2,I2,st2,fun b hb=>(f2 b hb).1,w0⟩;rintro n s3 ⟨i,σ3,H3,I3,st3,fr3,w3⟩;rcases turn i n σ3 H3 w3 with ⟨stop,qn⟩ | ⟨go,N,hN,step⟩
 ·refine wpAny_passesOwn hp (thn (T.done X rfl rfl rfl hc i pins s3 σ3 H3 X.xe I3 (stat fr3) st3 stop) fun r s4 ⟨hr,I4⟩=>?_);subst hr;exact wpAny_execs_nil ⟨σ3,H3,I4,qn⟩
 ·refine wpAny_passesOwn hp (thn (T.item X rfl rfl rfl hc i pins s3 σ3 H3 X.xe I3 (stat fr3) st3 go) fun r s4 ⟨u,hr,h4⟩=>?_);subst hr;refine wpAny_passesOwn hp (thn h4 fun _ s5 ⟨x,H5,I5,r5,y5,st5,fr5⟩=>?_);have I5':=I5.pinned (stat fr5) (T.obj _ _ st5);refine wpAny_passesOwn hp (thn (hg _ s5 σ3 H5 x u _ I5' r5 (step x H5 y5)) fun _ s6 ⟨σ6,H6,I6,q6⟩=>?_);refine wpAny_passesOwn hp (thn (hb _ s6 σ6 H6 _ I6 q6) fun f s7 q7=>?_)
  have again:∀ {σ7:St}{H7:Hp},Inv X (pins++Hg fp s5.heap) σ7 H7 s7->N σ7 H7->∃ m,m<n/\∃ i σ' H',Inv X pins σ' H' s7/\tn i s7.heap/\(∀ b∈fp,H' b=none)/\W i m σ' H':=fun {σ7 H7} I7 n7=>by
   obtain ⟨m',hm,w7⟩:=hN σ7 H7 n7;refine ⟨m',hm,i+1,σ7,H7,I7.unpinned,T.keep _ _ _ st5 fun b hb o e=>(I7.pin (b,o) (qrB _ (qrB _ (Du hb e)))).1,fun b hb=>?_,w7⟩;obtain ⟨o,e,d⟩:=T.obj _ _ st5 b hb;exact (I7.pin (b,o) (qrB _ (qrB _ (Du hb e)))).2.1
  cases f with
  | next=>obtain ⟨σ7,H7,I7,n7⟩:=q7;exact again I7 n7
  | cont=>obtain ⟨σ7,H7,I7,n7⟩:=q7;exact again I7 n7
  | brk=>obtain ⟨σ7,H7,I7,q7⟩:=q7;exact ⟨σ7,H7,I7.unpinned,q7⟩
  | ret v=>obtain ⟨x7,σ7,H7,I7,r7,q7⟩:=q7;exact ⟨x7,σ7,H7,I7.unpinned,r7,q7⟩
end
abbrev R2:=V->V->Hp->VK->Prop
def OpR (X:Cx)(f:Value->Value->Sem Value)(r:R2):Prop :=
 ∀ (pins:List (Addr × Obj)) (s:Shared) (σ:St) (H:Hp) (x y:V) (v u:Value) (Q:VK),Inv X pins σ H s->RelV x v->RelV y u->r x y H Q ->
  wpAny (model X.prog X.w) X.A (f v u) (EP X pins σ Q) X.xe s
def UnR (X:Cx)(f:Value->Sem Value)(r:V->Hp->VK->Prop):Prop :=
 ∀ (pins:List (Addr × Obj)) (s:Shared) (σ:St) (H:Hp) (x:V) (v:Value) (Q:VK),Inv X pins σ H s->RelV x v->r x H Q ->
  wpAny (model X.prog X.w) X.A (f v) (EP X pins σ Q) X.xe s
def CC (X:Cx)(f:Value)(r:List V->Hp->VK->Prop):Prop :=
 ∀ (pins:List (Addr × Obj)) (s:Shared) (σ:St) (H:Hp) (xs:List V) (us:List Value) (Q:VK),Inv X pins σ H s->Vals xs us->r xs H Q ->
  wpAny (model X.prog X.w) X.A (call f us) (EP X pins σ Q) X.xe s
def TruR (X:Cx)(r:V->Hp->(Bool->Hp->Prop)->Prop):Prop :=
 ∀ (pins:List (Addr × Obj)) (s:Shared) (σ:St) (H:Hp) (x:V) (v:Value) (Q:Bool->Hp->Prop),Inv X pins σ H s->RelV x v->r x H Q ->
  wpAny (model X.prog X.w) X.A (truthy v) (TP X pins σ Q) X.xe s
abbrev tOp (r:R2)(ta tb:TE):TE:=fun σ H Q=>ta σ H fun x H1=>tb σ H1 fun y H2=>r x y H2 Q
abbrev tUn (r:V->Hp->VK->Prop)(ta:TE):TE:=fun σ H Q=>ta σ H fun x H1=>r x H1 Q
def rI (C:Int->Int->Prop)(g:Int->Int->V):R2:=fun x y H Q=>∃ i j,x = .int i/\y = .int j/\C i j/\Q (g i j) H
def rI0 (g:Int->Int->V):R2:=fun x y H Q=>∃ i j,x = .int i/\y = .int j/\Q (g i j) H
def rU (g:Int->V):V->Hp->VK->Prop:=fun x H Q=>∃ i,x = .int i/\Q (g i) H
section
variable {X:Cx}{a b c:Expr}{ta tb tc:TE}{pos:Pos}
theorem binT (ha:PE X a ta)(hb:PE X b tb){pins:List (Addr × Obj)}{s:Shared}{σ:St}{H:Hp}{R:V->V->Hp->Prop}(I:Inv X pins σ H s)
  (h:ta σ H fun x H1=>tb σ H1 fun y H2=>R x y H2) {Q:Value->Shared->Prop}{f:Value->Value->Sem Value}
  (hf:∀ v u s2 x y H2,Inv X pins σ H2 s2->RelV x v->RelV y u->R x y H2->wpAny (model X.prog X.w) X.A (f v u) Q X.xe s2) :
  wpAny (model X.prog X.w) X.A (eval a X.env) (fun v s₁=>wpAny (model X.prog X.w) X.A (eval b X.env) (fun u s₂=>wpAny (model X.prog X.w) X.A (f v u) Q X.xe s₂) X.xe s₁) X.xe s:=by
 refine thn (ha pins s σ H _ I h) fun v s1 ⟨x,H1,I1,r1,q1⟩=>?_;refine thn (hb pins s1 σ H1 _ I1 q1) fun u s2 ⟨y,H2,I2,r2,q2⟩=>?_;exact hf v u s2 x y H2 I2 r1 r2 q2
theorem Ai {op:Operator}{r:R2}(ho:OpR X (binaryOp op) r)(ha:PE X a ta)(hb:PE X b tb):PE X (.BinOp a op b pos) (tOp r ta tb):=by
 intro pins s σ H Q I h;exact wpAny_BinOp (binT ha hb I h fun v u s2 x y H2 I2 rx ry q=>ho pins s2 σ H2 x y v u Q I2 rx ry q)
theorem pe_un {op:UnaryOp}{r:V->Hp->VK->Prop}(ho:UnR X (unaryOp op) r)(ha:PE X a ta):PE X (.UnaryOp op a pos) (tUn r ta):=by
 intro pins s σ H Q I h;exact UnaryOp_ (thn (ha pins s σ H _ I h) fun v s1 ⟨x,H1,I1,r1,q1⟩=>ho pins s1 σ H1 x v Q I1 r1 q1)
theorem opI {f:Value->Value->Sem Value}{C:Int->Int->Prop}{g:Int->Int->Int}
  (rule:∀ (i j:Int) (t u:Tok) (s:Shared) (Q:Value->Shared->Prop) (E:Value->Shared->Prop),C i j->Q (.int (g i j) s.toks) { s with toks:=s.toks+1 }->wpAny (model X.prog X.w) X.A (f (.int i t) (.int j u)) Q E s) :
  OpR X f (rI C fun i j=>.int (g i j)):=by
 intro pins s σ H x y v u Q I rx ry h;obtain ⟨i,j,rfl,rfl,hc,q⟩:=h;obtain ⟨t,rfl⟩:=rx;obtain ⟨t',rfl⟩:=ry;exact rule i j t t' s _ _ hc ⟨.int (g i j),H,I.tok _,⟨_,rfl⟩,q⟩
theorem opI0 {f:Value->Value->Sem Value}{g:Int->Int->Int}
  (rule:∀ (i j:Int) (t u:Tok) (s:Shared) (Q:Value->Shared->Prop) (E:Value->Shared->Prop),Q (.int (g i j) s.toks) { s with toks:=s.toks+1 }->wpAny (model X.prog X.w) X.A (f (.int i t) (.int j u)) Q E s) :
  OpR X f (rI0 fun i j=>.int (g i j)):=by
 intro pins s σ H x y v u Q I rx ry h;obtain ⟨i,j,rfl,rfl,q⟩:=h;obtain ⟨t,rfl⟩:=rx;obtain ⟨t',rfl⟩:=ry;exact rule i j t t' s _ _ ⟨.int (g i j),H,I.tok _,⟨_,rfl⟩,q⟩
theorem opB0 {f:Value->Value->Sem Value}{g:Int->Int->Bool}
  (rule:∀ (i j:Int) (t u:Tok) (s:Shared) (Q:Value->Shared->Prop) (E:Value->Shared->Prop),Q (.bool (g i j)) s->wpAny (model X.prog X.w) X.A (f (.int i t) (.int j u)) Q E s) :
  OpR X f (rI0 fun i j=>.bl (g i j)):=by
 intro pins s σ H x y v u Q I rx ry h;obtain ⟨i,j,rfl,rfl,q⟩:=h;obtain ⟨t,rfl⟩:=rx;obtain ⟨t',rfl⟩:=ry;exact rule i j t t' s _ _ ⟨.bl (g i j),H,I,rfl,q⟩
def KO (i j:Int):Prop:=0<j/\j<1073741824
def CMul (i j:Int):Prop:=(-(2 ^ 64)<i/\i<2 ^ 64)\/(-(2 ^ 64)<j/\j<2 ^ 64)
theorem CMul.ok {i j:Int}(h:CMul i j):IntMulOk i j:=by
 rcases h with ⟨h1,h2⟩ | ⟨h1,h2⟩
 ·exact .of_left (intBits_le_64 h1 h2)
 ·exact .of_right (intBits_le_64 h1 h2)
theorem op_add:OpR X (binaryOp .Add) (rI0 fun i j=>.int (i+j)):=opI0 fun _ _ _ _ _ _ _ q=>add_int q
theorem JL:OpR X (binaryOp .Sub) (rI0 fun i j=>.int (i - j)):=opI0 fun _ _ _ _ _ _ _ q=>sub_int q
theorem op_mul:OpR X (binaryOp .Mult) (rI CMul fun i j=>.int (i * j)):=opI fun _ _ _ _ _ _ _ hc q=>mul_int q hc.ok
theorem CT:OpR X (binaryOp .FloorDiv) (rI KO fun i j=>.int (i / j)):=opI fun i j _ _ _ _ _ hc q=>by
 have h1:(0:Int)<j:=hc.1;have h2:j<1073741824:=hc.2;exact floordiv_int (by omega) (by rw [Int.fdiv_eq_ediv_of_nonneg i (by omega)];exact q) (.inl (PyProof.noPylong_small (by omega)))
theorem B5:OpR X (binaryOp .Mod) (rI (fun _ j=>0<j) fun i j=>.int (i % j)):=opI fun i j _ _ _ _ _ hc q=>by
 have h1:(0:Int)<j:=hc;exact mod_int' (by omega) (by rw [Int.fmod_eq_emod_of_nonneg i (by omega)];exact q)
theorem unI {f:Value->Sem Value}{g:Int->Int}
  (rule:∀ (i:Int) (t:Tok) (s:Shared) (Q:Value->Shared->Prop) (E:Value->Shared->Prop),Q (.int (g i) s.toks) { s with toks:=s.toks+1 }->wpAny (model X.prog X.w) X.A (f (.int i t)) Q E s) :
  UnR X f (rU fun i=>.int (g i)):=by
 intro pins s σ H x v Q I rx h;obtain ⟨i,rfl,q⟩:=h;obtain ⟨t,rfl⟩:=rx;exact rule i t s _ _ ⟨.int (g i),H,I.tok _,⟨_,rfl⟩,q⟩
theorem un_neg:UnR X (unaryOp .USub) (rU fun i=>.int (-i)):=unI fun _ _ _ _ _ q=>neg_int q
end
def scal:V->V->Bool
 | .non,.non=>true | .non,.int _=>true | .int _,.non=>true | .non,.bl _=>true | .bl _,.non=>true | .non,.str _=>true | .str _,.non=>true
 | .int _,.int _=>true | .bl _,.bl _=>true | .str _,.str _=>true | .byt _,.byt _=>true
 | .int _,.str _=>true | .str _,.int _=>true | .bl _,.str _=>true | .str _,.bl _=>true
 | _,_=>false
def rEq:R2:=fun x y H Q=>scal x y=true/\Q (.bl (decide (x=y))) H
def rNe:R2:=fun x y H Q=>scal x y=true/\Q (.bl (!decide (x=y))) H
theorem L4 {i j:Int}:decide (V.int i=V.int j)=(i == j):=by
 rw [Bool.eq_iff_iff];simp
theorem dec_bl {i j:Bool}:decide (V.bl i=V.bl j)=(i == j):=by
 rw [Bool.eq_iff_iff];simp
theorem Kv {i j:Str}:decide (V.str i=V.str j)=(i == j):=by
 rw [Bool.eq_iff_iff];simp
theorem LK {i j:Array UInt8}:decide (V.byt i=V.byt j)=(i.toList == j.toList):=by
 rw [Bool.eq_iff_iff];cases i;cases j;simp
section
variable {X:Cx}{a b c:Expr}{ta tb tc:TE}{pos:Pos}
theorem Ax {pins:List (Addr × Obj)}{σ:St}{H:Hp}{s:Shared}{Q:VK}{k k':Bool}(I:Inv X pins σ H s)(q:Q (.bl k) H)(e:k=k'):EP X pins σ Q (.bool k') s:=by
 subst e;exact ⟨.bl k,H,I,rfl,q⟩
theorem EY:OpR X (compareOp .Eq) rEq:=by
 intro pins s σ H x y v u Q I rx ry h;obtain ⟨hs,q⟩:=h
 cases x with
 | non =>
  cases rx
  cases y with
  | non=>cases ry;exact PySem.EqNone.eq_none_none (Ax I q (by simp))
  | bl j=>cases ry;exact PySem.EqNone.eq_none_bool (Ax I q (by simp))
  | int j=>obtain ⟨t',rfl⟩:=ry;exact PySem.EqNone.eq_none_int (Ax I q (by simp))
  | str j=>obtain ⟨t',rfl⟩:=ry;exact PySem.EqNone.eq_none_str (Ax I q (by simp))
  | _=>exact absurd (show false=true from hs) qjB
 | bl i =>
  cases rx
  cases y with
  | non=>cases ry;exact PySem.EqNone.eq_bool_none (Ax I q (by simp))
  | bl j=>cases ry;exact eq_bool (Ax I q dec_bl)
  | str j=>obtain ⟨t',rfl⟩:=ry;exact PySem.EqMixed.eq_bool_str (Ax I q (by simp))
  | _=>exact absurd (show false=true from hs) qjB
 | int i =>
  obtain ⟨t,rfl⟩:=rx
  cases y with
  | non=>cases ry;exact PySem.EqNone.eq_int_none (Ax I q (by simp))
  | int j=>obtain ⟨t',rfl⟩:=ry;exact eq_int (Ax I q L4)
  | str j=>obtain ⟨t',rfl⟩:=ry;exact PySem.EqMixed.eq_int_str (Ax I q (by simp))
  | _=>exact absurd (show false=true from hs) qjB
 | str i =>
  obtain ⟨t,rfl⟩:=rx
  cases y with
  | non=>cases ry;exact PySem.EqNone.eq_str_none (Ax I q (by simp))
  | bl j=>cases ry;exact PySem.EqMixed.eq_str_bool (Ax I q (by simp))
  | int j=>obtain ⟨t',rfl⟩:=ry;exact PySem.EqMixed.eq_str_int (Ax I q (by simp))
  | str j=>obtain ⟨t',rfl⟩:=ry;exact eq_str (Ax I q Kv)
  | _=>exact absurd (show false=true from hs) qjB
 | byt i =>
  obtain ⟨t,rfl⟩:=rx
  cases y with
  | byt j=>obtain ⟨t',rfl⟩:=ry;exact PySem.W.eq_bytes (Ax I q LK)
  | _=>exact absurd (show false=true from hs) qjB
 | _=>cases y<;>exact absurd (show false=true from hs) qjB
theorem IG:OpR X (compareOp .NotEq) rNe:=by
 intro pins s σ H x y v u Q I rx ry h;obtain ⟨hs,q⟩:=h
 cases x with
 | non =>
  cases rx
  cases y with
  | non=>cases ry;exact PySem.EqNone.ne_none_none (Ax I q (by simp))
  | bl j=>cases ry;exact PySem.EqNone.ne_none_bool (Ax I q (by simp))
  | int j=>obtain ⟨t',rfl⟩:=ry;exact PySem.EqNone.ne_none_int (Ax I q (by simp))
  | str j=>obtain ⟨t',rfl⟩:=ry;exact PySem.EqNone.ne_none_str (Ax I q (by simp))
  | _=>exact absurd (show false=true from hs) qjB
 | bl i =>
  cases rx
  cases y with
  | non=>cases ry;exact PySem.EqNone.ne_bool_none (Ax I q (by simp))
  | bl j=>cases ry;exact ne_bool (Ax I q (congrArg not dec_bl))
  | str j=>obtain ⟨t',rfl⟩:=ry;exact PySem.EqMixed.ne_bool_str (Ax I q (by simp))
  | _=>exact absurd (show false=true from hs) qjB
 | int i =>
  obtain ⟨t,rfl⟩:=rx
  cases y with
  | non=>cases ry;exact PySem.EqNone.ne_int_none (Ax I q (by simp))
  | int j=>obtain ⟨t',rfl⟩:=ry;exact ne_int (Ax I q (congrArg not L4))
  | str j=>obtain ⟨t',rfl⟩:=ry;exact PySem.EqMixed.ne_int_str (Ax I q (by simp))
  | _=>exact absurd (show false=true from hs) qjB
 | str i =>
  obtain ⟨t,rfl⟩:=rx
  cases y with
  | non=>cases ry;exact PySem.EqNone.ne_str_none (Ax I q (by simp))
  | bl j=>cases ry;exact PySem.EqMixed.ne_str_bool (Ax I q (by simp))
  | int j=>obtain ⟨t',rfl⟩:=ry;exact PySem.EqMixed.ne_str_int (Ax I q (by simp))
  | str j=>obtain ⟨t',rfl⟩:=ry;exact ne_str (Ax I q (congrArg not Kv))
  | _=>exact absurd (show false=true from hs) qjB
 | byt i =>
  obtain ⟨t,rfl⟩:=rx
  cases y with
  | byt j=>obtain ⟨t',rfl⟩:=ry;exact PySem.W.ne_bytes (Ax I q (congrArg not LK))
  | _=>exact absurd (show false=true from hs) qjB
 | _=>cases y<;>exact absurd (show false=true from hs) qjB
theorem op_lt:OpR X (compareOp .Lt) (rI0 fun i j=>.bl (decide (i<j))):=opB0 fun _ _ _ _ _ _ _ q=>lt_int q
theorem op_le:OpR X (compareOp .LtE) (rI0 fun i j=>.bl (decide (i<=j))):=opB0 fun _ _ _ _ _ _ _ q=>le_int q
theorem op_gt:OpR X (compareOp .Gt) (rI0 fun i j=>.bl (decide (j<i))):=opB0 fun _ _ _ _ _ _ _ q=>gt_int q
theorem Ao (b:Expr){op:CmpOp}(h:op ≠ .In:=by decide)(h2:op ≠ .NotIn:=by decide):behindInMarks op b=false:=by
 have e1:(op == CmpOp.In)=false:=by cases op<;>first|rfl|exact absurd rfl h
 have e2:(op == CmpOp.NotIn)=false:=by cases op<;>first|rfl|exact absurd rfl h2
 cases b<;>simp [behindInMarks,e1,e2]
theorem Ff {op:CmpOp}{r:R2}(ho:OpR X (compareOp op) r)(ha:PE X a ta)(hb:PE X b tb)(hm:behindInMarks op b=false):PE X (.Compare a [op] [b] pos) (tOp r ta tb):=by
 intro pins s σ H Q I h;exact wpAny_Compare1 (binT ha hb I h fun v u s2 x y H2 I2 rx ry q=>ho pins s2 σ H2 x y v u Q I2 rx ry q) hm
abbrev tTest (t:TE):TT:=fun σ H Q=>t σ H fun x H'=>∃ k,x = .bl k/\Q k H'
theorem Aa {op:CmpOp}{r:R2}(ho:OpR X (compareOp op) r)(ha:PE X a ta)(hb:PE X b tb)(hm:behindInMarks op b=false):PT X (.Compare a [op] [b] pos) (tTest (tOp r ta tb)):=by
 intro pins s σ H Q I h
 refine wpAny_isTrue_Compare1 (thn (ha pins s σ H _ I h) fun v s1 ⟨x,H1,I1,r1,q1⟩=>thn (hb pins s1 σ H1 _ I1 q1) fun u s2 ⟨y,H2,I2,r2,q2⟩ =>
  thn (ho pins s2 σ H2 x y v u _ I2 r1 r2 q2) fun c s3 ⟨z,H3,I3,r3,k,e,q3⟩=>?_) hm
 subst e;cases r3;exact wpAny_truthy_bool ⟨H3,I3,q3⟩
def tChain (r r':R2)(ta tb tc:TE):TE:=fun σ H Q=>ta σ H fun x H1=>tb σ H1 fun y H2=>r x y H2 fun z H3=>∃ k,z = .bl k /\
 (if k=true then tc σ H3 fun w' H4=>r' y w' H4 Q else Q (.bl false) H3)
theorem pe_chain {op op':CmpOp}{r r':R2}(ho:OpR X (compareOp op) r)(ho':OpR X (compareOp op') r')(ha:PE X a ta)(hb:PE X b tb)(hc:PE X c tc)
  (hm:lastMarks [op,op'] [b,c]=false:=by with_unfolding_all rfl):PE X (.Compare a [op,op'] [b,c] pos) (tChain r r' ta tb tc):=by
 intro pins s σ H Q I h
 refine Compare_chain (thn (ha pins s σ H _ I h) fun v s1 ⟨x,H1,I1,r1,q1⟩=>chain_link (thn (hb pins s1 σ H1 _ I1 q1) fun u s2 ⟨y,H2,I2,r2,q2⟩ =>
  thn (ho pins s2 σ H2 x y v u _ I2 r1 r2 q2) fun d s3 ⟨z,H3,I3,r3,k,e,q3⟩=>?_)) hm
 subst e;cases r3;refine wpAny_truthy_bool ?_
 cases k with
 | false=>exact ite_ff ⟨.bl false,H3,I3,rfl,q3⟩
 | true=>exact ite_tt (chain_last (thn (hc pins s3 σ H3 _ I3 q3) fun w' s4 ⟨z',H4,I4,r4,q4⟩=>ho' pins s4 σ H4 y z' u w' Q I4 r2 r4 q4))
def TruV (K:FZ9)(x:V)(H:Hp)(k:Bool):Prop :=
 match x with
 | .non=>k=false
 | .bl b=>k=b
 | .int i=>k=(i != 0)
 | .str y=>y.length<=sizeLine/\k=((y.length:Int) != 0)
 | .byt y=>y.size<=sizeLine/\k=((y.size:Int) != 0)
 | .ref p=>(∃ xs,SqL K H p xs/\k = !xs.isEmpty)\/(∃ xs,SqT K H p xs/\k = !xs.isEmpty)\/∃ kvs,H p=some (.dK kvs)/\k = !kvs.isEmpty
 | _=>False
theorem Kb {κ:Type}{kvs:List (κ × V)}{vs:List (κ × Value)}(r:KV kvs vs):(!vs.isEmpty) = !kvs.isEmpty:=by
 cases r<;>rfl
theorem HS {xs:List V}{its:List Value}(r:Vals xs its):(!its.toArray.isEmpty) = !xs.isEmpty:=by
 cases r<;>simp
theorem FL:(sizeLine:Nat)<2 ^ 63:=by rw [qeB];decide
theorem tru_ok:TruR X (fun x H Q=>∃ k,TruV X.K x H k/\Q k H):=by
 intro pins s σ H x v Q I rx h;obtain ⟨k,e,q⟩:=h;have hl:=FL;have hs:sizeLine=16777216:=qeB
 cases x with
 | non =>
  cases rx;have e':k=false:=e;subst e';exact truthy_none ⟨H,I,q⟩
 | bl b =>
  cases rx;have e':k=b:=e;subst e';exact wpAny_truthy_bool ⟨H,I,q⟩
 | int i =>
  obtain ⟨t,rfl⟩:=rx;have e':k=(i != 0):=e;subst e';exact PySem.P.truthy_int ⟨H,I,q⟩
 | str y =>
  obtain ⟨t,rfl⟩:=rx;obtain ⟨hy,e'⟩:y.length<=sizeLine/\k=((y.length:Int) != 0):=e;subst e';exact PySem.P.truthy_str (by omega) ⟨H,I.tok _,q⟩
 | byt y =>
  obtain ⟨t,rfl⟩:=rx;obtain ⟨hy,e'⟩:y.size<=sizeLine/\k=((y.size:Int) != 0):=e;subst e';exact PySem.W.truthy_bytes (by omega) ⟨H,I.tok _,q⟩
 | ref p =>
  cases rx;have e':(∃ xs,SqL X.K H p xs/\k = !xs.isEmpty)\/(∃ xs,SqT X.K H p xs/\k = !xs.isEmpty)\/∃ kvs,H p=some (.dK kvs)/\k = !kvs.isEmpty:=e;rcases e' with ⟨xs,hx,e'⟩ | ⟨xs,hx,e'⟩ | ⟨kvs,hx,e'⟩
  ·subst e';obtain ⟨its,r,pl,hz⟩:=I.list hx;have hlen:=r.length;exact wpAny_truthy_list pl.isList (by simp only [qkB];omega) ⟨H,I.tok _,by rw [HS r];exact q⟩
  ·subst e';obtain ⟨its,r,pl,hz⟩:=I.tuple hx;have hlen:=r.length;exact truthy_tuple pl (by simp only [qkB];omega) ⟨H,I.tok _,by rw [HS r];exact q⟩
  ·subst e';obtain ⟨hz,hS,vs,r,m⟩:kvs.length<=sizeLine/\(p == sysModules)=false/\∃ vs,KV kvs vs/\s.heap.DictOf (C6 X.prog X.w) p vs:=I.hok p _ hx;have hlen:kvs.length=vs.length:=Paired.length r;exact wpAny_truthy_dict hS m (by omega) ⟨H,I.tok _,by rw [Kb r];exact q⟩
 | _=>exact (show False from e).elim
theorem pt_truth (ha:PE X a ta)(he:∀ whole,isTrue a X.env whole=(do let v <- whole;standAt a.pos;holding [v] (truthy v))) :
  PT X a (fun σ H Q=>ta σ H fun x H'=>∃ k,TruV X.K x H' k/\Q k H'):=by
 intro pins s σ H Q I h;exact isTrue_plain (thn (ha pins s σ H _ I h) fun v s1 ⟨x,H1,I1,r1,q1⟩=>tru_ok pins s1 σ H1 x v Q I1 r1 q1) (he _)
theorem Kj:OpR X (binaryOp .Add) (fun x y H Q=>∃ i j,x = .str i/\y = .str j/\i.length+j.length<=sizeLine/\Q (.str (i++j)) H):=by
 intro pins s σ H x y v u Q I rx ry h;obtain ⟨i,j,rfl,rfl,hz,q⟩:=h;obtain ⟨t,rfl⟩:=rx;obtain ⟨t',rfl⟩:=ry;exact add_str (fun t' tk=>⟨.str (i++j),H,I.tok _,⟨_,rfl⟩,q⟩) hz
theorem DI {x:V}{us:List Value}(r:Vals [x] us):∃ u,us=[u]/\RelV x u:=by
 cases r with
 | cons r1 r2=>cases r2;exact ⟨_,rfl,r1⟩
theorem Jh {x y:V}{us:List Value}(r:Vals [x,y] us):∃ u w',us=[u,w']/\RelV x u/\RelV y w':=by
 cases r with
 | cons r1 r2 =>
  cases r2 with
  | cons r3 r4=>cases r4;exact ⟨_,_,rfl,r1,r3⟩
theorem M9 (hc:X.calm=true):CC X (.builtin "min") (fun xs H Q=>∃ i j,xs=[.int i,.int j]/\Q (.int (if j<i then j else i)) H):=by
 intro pins s σ H xs us Q I r h;obtain ⟨i,j,rfl,q⟩:=h;obtain ⟨u,w',rfl,⟨t,rfl⟩,⟨t',rfl⟩⟩:=Jh r;refine min_two_ints (I.ok.hd hc) fun h' tk k=>⟨_,H,I.kept k,?_,q⟩;by_cases hj:j<i
 ·rw [if_pos hj,if_pos hj];exact ⟨_,rfl⟩
 ·rw [if_neg hj,if_neg hj];exact ⟨_,rfl⟩
end
structure Room (k:Nat)(A:Around):Prop where
 hd:A.handled=none
 dp:A.depth+3 * k+5<recursionLimit
 un:A.units+16 * k+200<cLine
theorem Room.mono {j k:Nat}{A:Around}(r:Room k A)(h:j<=k):Room j A:=⟨r.hd,by have:=r.dp;omega,by have:=r.un;omega⟩
theorem Room.deeper {k:Nat}{A:Around}(r:Room (k+1) A)(env:Env):Room k (A.deeper env) :=
 ⟨r.hd,by have:=r.dp;show A.depth+1+3 * k+5<_;omega,by have:=r.un;show A.units+3+16 * k+200<_;omega⟩
theorem Room.depth {k:Nat}{A:Around}(r:Room k A):A.depth<recursionLimit:=by have:=r.dp;omega
theorem Room.units {k:Nat}{A:Around}(r:Room k A):A.units+64<cLine:=by have:=r.un;omega
abbrev BS:TA:=fun _ H Q=>Q [] H
abbrev AS (ta:TE)(tr:TA):TA:=fun σ H Q=>ta σ H fun x H1=>tr σ H1 fun xs H2=>Q (x::xs) H2
section
variable {X:Cx}{e:Expr}{es:List Expr}{te:TE}{t:TA}{pos:Pos}
theorem A8:PA X [] BS:=fun _ _ _ _ H Q I h=>Calls.spliced_nil ⟨[],H,I,.nil,h⟩
theorem A4 (ha:PE X e te)(hr:PA X es t)(hs:starEach (e::es) X.env=(false,eval e X.env)::starEach es X.env:=by rfl):PA X (e::es) (AS te t):=by
 intro pos pins s σ H Q I h;rw [hs];show wpAny _ _ (spliced ((false,eval e X.env)::backTo pos (starEach es X.env))) _ _ s;refine Calls.spliced_cons (thn (ha pins s σ H _ I h) fun u s1 ⟨x,H1,I1,r1,q1⟩=>?_);exact thn (hr pos pins s1 σ H1 _ I1 q1) fun us s2 ⟨xs,H2,I2,r2,q2⟩=>⟨x::xs,H2,I2,.cons r1 r2,q2⟩
abbrev tTup (t:TA):TE:=fun σ H Q=>t σ H fun xs H1=>xs.length<=sizeLine/\∀ p,H1 p=none->Q (.ref p) (upd H1 p (.tup xs))
abbrev tLst (t:TA):TE:=fun σ H Q=>t σ H fun xs H1=>xs.length<=sizeLine/\∀ p,H1 p=none->Q (.ref p) (upd H1 p (.lst xs))
theorem Cn {x1}(h:PA X es t):PE X (.Tuple es x1 pos) (tTup t):=by
 intro pins s σ H Q I hq;refine wpAny_Tuple_spliced (thn (h pos pins s σ H _ I hq) fun us s1 ⟨xs,H1,I1,r,z,q⟩=>⟨by rw [<- r.length];exact z,?_⟩);have hf:H1 s1.heap.objs.size=none:=I1.hok.fresh (qxA _);refine ⟨.ref s1.heap.objs.size,upd H1 s1.heap.objs.size (.tup xs),I1.laid (t':=s1.toks) (fun b u e=>qcB _ e) (qxA _) ?_,rfl,q _ hf⟩;exact ⟨z,us,r,⟨_,qdB _ rfl,rfl,_,rfl⟩⟩
theorem Bm (h:PA X es t):PE X (.List es pos) (tLst t):=by
 intro pins s σ H Q I hq;refine wpAny_List_spliced (thn (h pos pins s σ H _ I hq) fun us s1 ⟨xs,H1,I1,r,z,q⟩=>⟨by rw [<- r.length];exact z,?_⟩);have hf:H1 s1.heap.objs.size=none:=I1.hok.fresh (qxA _);refine ⟨.ref s1.heap.objs.size,upd H1 s1.heap.objs.size (.lst xs),I1.laid (t':=s1.toks) (fun b u e=>qcB _ e) (qxA _) ?_,rfl,q _ hf⟩;exact ⟨z,us,0,r,qdB _ rfl⟩
end
abbrev Sp:=List V->Hp->VK->XK->Prop
abbrev CXT:=List Env->Hp->Shared->XK->Value->Shared->Prop
structure Env0 (P:Program)(w:World)(K:FZ9)(mg:Str->Option Value)(base:Heap)(A:Around)(outer:List Env)(s:Shared)(H:Hp):Prop where
 frames:A.frames=some outer
 mod:Mod K mg base
 bs:∀ b o,base.get? b=some o->s.heap.get? b=some o/\H b=none
 bsz:base.objs.size<=s.heap.objs.size
 funs:s.heap.FunFrames base outer
 frf:∀ b∈frs outer,H b=none
 hok:HOk P w H s.heap
 bare:AllBare s.gens
def CE (outer:List Env)(P:Program)(w:World)(H:Hp)(s:Shared)(Q:VK)(u:Value)(s':Shared):Prop :=
 ∃ v H',s'.os=s.os/\AllBare s'.gens/\Un (frs outer) [] H H' s.heap s'.heap/\HOk P w H' s'.heap/\RelV v u/\Q v H'
def CR (CX:CXT)(outer:List Env)(P:Program)(w:World)(H:Hp)(s:Shared)(Q:VK)(E:XK)(r:Result)(s':Shared):Prop :=
 match r with
 | .ok (.ret u)=>CE outer P w H s Q u s'
 | .ok _=>False
 | .error e=>CX outer H s E e s'
structure FnOk (P:Program)(w:World)(K:FZ9)(mg:Str->Option Value)(base:Heap)(CX:CXT)(k:Nat)(f:Addr)(fd:FuncData)(ps:List Str)(sp:Sp):Prop where
 len:∀ vs H Q E,sp vs H Q E->vs.length=ps.length
 run:∀ (A:Around) (outer:List Env) (s:Shared) (H:Hp) (args:Args) (us:List Value) (vs:List V) (Q:VK) (E:XK),Room k A->Env0 P w K mg base A outer s H->BindsTo s fd args (ps.zip us)->Vals vs us->sp vs H Q E ->
  codeAny (model P w) A (.call (.ref f) args) (CR CX outer P w H s Q E) s
theorem FnOk.imp {P:Program}{w:World}{K:FZ9}{mg:Str->Option Value}{base:Heap}{CX:CXT}{k:Nat}{f:Addr}{fd:FuncData}{ps:List Str}{sp sp':Sp}(F:FnOk P w K mg base CX k f fd ps sp)
  (h:∀ vs H Q E,sp' vs H Q E->sp vs H Q E):FnOk P w K mg base CX k f fd ps sp' :=
 ⟨fun vs H Q E q=>F.len vs H Q E (h _ _ _ _ q),fun A outer s H args us vs Q E hr he hb hv hs=>F.run A outer s H args us vs Q E hr he hb hv (h _ _ _ _ hs)⟩
section
variable {X:Cx}{pins:List (Addr × Obj)}{σ:St}{H:Hp}{s s':Shared}
theorem Inv.env0 (I:Inv X pins σ H s):Env0 X.prog X.w X.K X.mg X.base X.A X.stack s H :=
 ⟨I.ok.frames,I.ok.mod,I.bs,qyA I.ok.bsz I.sz,I.stack,I.stkFree,I.hok,I.bare⟩
theorem Inv.after {Q:VK}{u:Value}(I:Inv X pins σ H s)(h:CE X.stack X.prog X.w H s Q u s'):EP X pins σ Q u s':=by
 obtain ⟨v,H',os,bare,un,hok,r,q⟩:=h;obtain ⟨hh,g,d,t,os'⟩:=s';obtain rfl:os'=s.os:=os;exact ⟨v,H',I.call (h':=hh) (g':=g) (d':=d) (t':=t) (ch:=[]) un hok bare (fun b z=>absurd z (by simp)),r,q⟩
end
abbrev Fg (sp:Sp)(dvs:List V)(E:XK)(t:TA):TE:=fun σ H Q=>t σ H fun vs H1=>sp (vs++dvs) H1 Q E
def Binds (K:FZ9)(fd:FuncData)(ps:List Str)(ds:List Value):Prop :=
 ∀ (s:Shared) (us:List Value),K.In s.heap->(us++ds).length=ps.length->BindsTo s fd ⟨us,[]⟩ (ps.zip (us++ds))
theorem Binds.all {K:FZ9}{fd:FuncData}{ps:List Str}(h:∀ us:List Value,us.length=ps.length->bindArgs fd ⟨us,[]⟩=pure (ps.zip us)):Binds K fd ps []:=fun s us _ hl=>by
 rw [List.append_nil] at hl ⊢;exact .of_eq (h us hl)
def KP (CX:CXT)(X:Cx)(E:XK):Prop:=∀ (pins:List (Addr × Obj)) (σ:St) (H:Hp) (s:Shared) (e:Value) (s':Shared),Inv X pins σ H s->CX X.stack H s E e s'->X.xe e s'
section
variable {X:Cx}{CX:CXT}{k:Nat}{f C:Addr}{fd:FuncData}{ps:List Str}{sp:Sp}{dvs:List V}{ds:List Value}{E:XK}{x m:Str}{p pos apos:Pos}{e o:Expr}{es:List Expr}{ta:TE}{t:TA}
theorem run_fn {pins:List (Addr × Obj)}{σ:St}{H:Hp}{s:Shared}{Q:VK}{us:List Value}{vs:List V}(F:FnOk X.prog X.w X.K X.mg X.base CX k f fd ps sp)(hr:Room k X.A)(hb:Binds X.K fd ps ds)(hd:Vals dvs ds)(hx:KP CX X E)
  (I:Inv X pins σ H s) (r:Vals vs us) (h:sp (vs++dvs) H Q E):wpAny (model X.prog X.w) X.A (call (.ref f) us) (EP X pins σ Q) X.xe s:=by
 have r2:Vals (vs++dvs) (us++ds):=r.append hd;have hl:(us++ds).length=ps.length:=by rw [<- r2.length];exact F.len _ _ _ _ h
 refine wpAny_call (codeAny_mono (F.run X.A X.stack s H ⟨us,[]⟩ (us++ds) (vs++dvs) Q E hr I.env0 (hb s us I.kIn hl) r2 h) fun r s' hq=>?_)
 cases r with
 | error e=>exact hx pins σ H s e s' I hq
 | ok fl =>
  cases fl with
  | ret u=>exact I.after hq
  | next=>exact False.elim hq
  | brk=>exact False.elim hq
  | cont=>exact False.elim hq
theorem pe_call (F:FnOk X.prog X.w X.K X.mg X.base CX k f fd ps sp)(hr:Room k X.A)(hg:Gl X x)(hm:X.mg x=some (.ref f))(hk:PySem.W.keepIn X.K (.ref f)=true)(hb:Binds X.K fd ps ds)(hd:Vals dvs ds)(hx:KP CX X E)
  (ha:PA X (e::es) t) (hdb:(x == ("__debug__" : Str))=false:=by decide) (he:starEach (e::es) X.env=(false,eval e X.env)::starEach es X.env:=by rfl) (hpl:(backTo pos (starEach es X.env)).any (·.1)=false:=by rfl) :
  PE X (.Call (.Name x p) (e::es) [] pos) (Fg sp dvs E t):=by
 intro pins s σ H Q I h;refine wpAny_Call_Name_kw (LH I hg hm ?_ hdb);refine PySem.W.callWith_K (h₀:=X.base) I.ok.mod.kin hk (thn (ha pos pins s σ H _ I h) fun us s1 ⟨vs,H1,I1,r,q⟩=>⟨I1.kIn,?_⟩) he hpl;exact run_fn F hr hb hd hx I1 r q
end
structure FnScope (N P:List Str)(sc:Scope):Prop where
 kind:sc.kind = .function
 co:sc.isCoroutine=false
 gen:sc.isGenerator=false
 nd:N.Nodup
 pre:N.take P.length=P
 par:∀ x∈P,sc.names.lookup x=some .local \/ sc.names.lookup x=some .cell
 nofree:∀ y∈sc.names,y.2 ≠ .free
theorem IP {kindOf:Str->Option NameKind}{x:Str}:∀ {binds:List (Str × Value)}{m:Str->Option Value},(∀ v,(x,v) ∉ binds)->bindL kindOf binds m x=m x
 | [],_,_=>rfl
 | (n,v)::r,m,h=>by
  unfold bindL;rw [IP fun w hw=>h w (qqA _ hw)];split
  ·have:x≠n:=by rintro rfl;exact h v qpA
   simp [this]
  ·rfl
theorem II {kindOf:Str->Option NameKind}{x:Str}:∀ {binds:List (Str × Value)}{m:Str->Option Value},(∀ v,(x,v) ∉ binds)->bindC kindOf binds m x=m x
 | [],_,_=>rfl
 | (n,v)::r,m,h=>by
  unfold bindC;rw [II fun w hw=>h w (qqA _ hw)];split
  ·rfl
  ·have:x≠n:=by rintro rfl;exact h v qpA
   simp [this]
theorem I0 {kindOf:Str->Option NameKind}{x:Str}{v:Value}:∀ {P:List Str}{vs:List Value}{i:Nat}{m:Str->Option Value},P.Nodup->P[i]? = some x->vs[i]? = some v->kindOf x=some .local ->
  bindL kindOf (P.zip vs) m x=some v
 | [],_,_,_,_,h,_,_=>by simp at h
 | _::_,[],_,_,_,_,h,_=>by simp at h
 | p::P,w::vs,0,m,nd,h1,h2,hk=>by
  simp at h1 h2;subst h1;subst h2;show bindL kindOf ((p,w)::P.zip vs) m p=_;unfold bindL;rw [IP fun v hv=>(List.nodup_cons.mp nd).1 (List.of_mem_zip hv).1,if_pos hk];simp
 | p::P,w::vs,i+1,m,nd,h1,h2,hk=>by
  show bindL kindOf ((p,w)::P.zip vs) m x=_;unfold bindL;exact I0 (i:=i) (List.nodup_cons.mp nd).2 (by simpa using h1) (by simpa using h2) hk
theorem IH {kindOf:Str->Option NameKind}{x:Str}{v:Value}:∀ {P:List Str}{vs:List Value}{i:Nat}{m:Str->Option Value},P.Nodup->P[i]? = some x->vs[i]? = some v->kindOf x≠some .local ->
  bindC kindOf (P.zip vs) m x=some v
 | [],_,_,_,_,h,_,_=>by simp at h
 | _::_,[],_,_,_,_,h,_=>by simp at h
 | p::P,w::vs,0,m,nd,h1,h2,hk=>by
  simp at h1 h2;subst h1;subst h2;show bindC kindOf ((p,w)::P.zip vs) m p=_;unfold bindC;rw [II fun v hv=>(List.nodup_cons.mp nd).1 (List.of_mem_zip hv).1,if_neg hk];simp
 | p::P,w::vs,i+1,m,nd,h1,h2,hk=>by
  show bindC kindOf ((p,w)::P.zip vs) m x=_;unfold bindC;exact IH (i:=i) (List.nodup_cons.mp nd).2 (by simpa using h1) (by simpa using h2) hk
def start (N:List Str)(vs:List V):St:=vs.map some++List.replicate (N.length - vs.length) none
def Hi (CX:CXT)(P:Program)(w:World)(K:FZ9)(mg:Str->Option Value)(base:Heap)(N:List Str)(qual:Str)(scope:Scope)(f:Addr)(cd:Value)(A:Around)(outer:List Env)(s:Shared)(H:Hp)(E:XK):Cx where
 prog:=P
 w:=w
 K:=K
 mg:=mg
 base:=base
 A:=A.deeper (envOfC qual scope s.heap.objs.size f cd)
 N:=N
 s₀:=s
 H₀:=H
 env:=envOfC qual scope s.heap.objs.size f cd
 outer:=outer
 stack:=envOfC qual scope s.heap.objs.size f cd::outer
 ex:=[]
 calm:=true
 fn:=fun _=>true
 pn:=[]
 xe:=fun e s'=>wpAny (model P w) (A.deeper (envOfC qual scope s.heap.objs.size f cd)) (leaving (envOfC qual scope s.heap.objs.size f cd) e) (fun _ s''=>CX outer H s E e s'') (fun e' s''=>CX outer H s E e' s'') s'
theorem JV {sc:Scope}{n:Nat}{x:Str}(h:sc.names.lookup x=some .cell):∃ c,(cellsFrom n sc.names []).lookup x=some c:=by
 have q:=PySem.W.cellsFrom_some sc.names n [] (.inl h);exact Option.isSome_iff_exists.mp q
theorem M0 {CX:CXT}{P:Program}{w:World}{K:FZ9}{mg:Str->Option Value}{base:Heap}{N ps:List Str}{qual:Str}{scope:Scope}{f:Addr}{cd:Value}{A:Around}{outer:List Env}{s s1:Shared}{H:Hp}{E:XK}{us:List Value}{vs:List V}
  (S:FnScope N ps scope) (hd:A.handled=none) (e0:Env0 P w K mg base A outer s H) (hl:vs.length=ps.length) (r:Vals vs us)
  (x:InCallC s s.heap.objs.size (bindL (envOfC qual scope s.heap.objs.size f cd).kindOf (ps.zip us) fun _=>none) (cellsFrom (s.heap.objs.size+1) scope.names []) (bindC (envOfC qual scope s.heap.objs.size f cd).kindOf (ps.zip us) fun _=>none) s1) :
  Inv (Hi CX P w K mg base N qual scope f cd A outer s H E) [] (start N vs) H s1:=by
 have hpl:ps.length<=N.length:=by have:=congrArg List.length S.pre;rw [qjA] at this;omega
 obtain ⟨h1,tk,rfl,hk⟩:=x.done;have noA:∀ b:Addr,b ∉ (Hi CX P w K mg base N qual scope f cd A outer s H E).ex:=fun b z=>absurd (show b∈([]:List Addr) from z) (by simp)
 refine ⟨⟨e0.mod,S.kind,rfl,rfl,qxA _,fun y z c h1 h2=>?_,fun y hy=>?_,fun y c _ h=>?_,fun _=>hd,Around.frames_deeper e0.frames,.inr ⟨rfl,rfl⟩,fun b z=>absurd z (noA b),e0.bs,e0.bsz,fun b _ _=>noA b,fun b z=>absurd z (noA b),e0.funs,e0.frf⟩,
  rfl,e0.bare,Un.kept hk,⟨_,x.toInCall.ns,fun i y v h1 h2 h3=>?_⟩,fun y c h=>⟨_,x.cell y c h⟩,e0.hok.fresh (qxA _),fun y c h=>?_,fun p hp=>absurd (show p∈([]:List (Addr × Obj)) from hp) (by simp),e0.hok.kept hk,?_⟩
 ·exact name_of_addr x.apart (PySem.mem_of_lookup h1) (PySem.mem_of_lookup h2)
 ·have hy:scope.names.lookup y=some .cell\/scope.names.lookup y=some .free:=hy;rcases hy with hy|hy
  ·exact JV hy
  ·exact absurd rfl (S.nofree _ (PySem.mem_of_lookup hy))
 ·exact Nat.le_of_lt (x.above y c (PySem.mem_of_lookup h))
 ·have hi:i<vs.length:=by
   unfold start at h2;by_cases hi:i<vs.length
   ·exact hi
   ·rw [List.getElem?_append_right (by simpa using hi)] at h2;rw [List.getElem?_replicate] at h2;split at h2<;>cases h2
  have ha:vs[i]? = some v:=by
   unfold start at h2;rw [List.getElem?_append_left (by simpa using hi),List.getElem?_map] at h2
   cases e:vs[i]? with
   | none=>rw [e] at h2;cases h2
   | some a=>rw [e] at h2;cases h2;rfl
  obtain ⟨u,hu,rv⟩:=r.get ha
  have hp:ps[i]? = some y:=by
   rw [<- S.pre,List.getElem?_take_of_lt (by omega)];exact h1
  have ndP:ps.Nodup:=by rw [<- S.pre];exact S.nd.sublist (List.take_sublist _ _)
  refine ⟨u,rv,?_⟩;rcases S.par y (qsA hp) with k|k
  ·exact .inl ⟨k,I0 ndP hp hu k⟩
  ·obtain ⟨c,e⟩:=JV (n:=s.heap.objs.size+1) k;refine .inr ⟨.inl k,c,e,?_⟩;have q:=x.cell y c e;rw [IH ndP hp hu (by show scope.names.lookup y≠_;rw [k];decide)] at q;exact q
 ·exact e0.hok.fresh (Nat.le_of_lt (x.above y c (PySem.mem_of_lookup h)))
 ·unfold start;show _=N.length;rw [qfA,qeA,List.length_replicate];omega
theorem fn_of {CX:CXT}{P:Program}{w:World}{K:FZ9}{mg:Str->Option Value}{base:Heap}{k:Nat}{f:Addr}{name qual:Str}{params:Arguments}{body:List Stmt}{scope:Scope}{dV kV doc pm cdv ct oc:Value}{an od:Option Addr}
  {osl:Array (Option Value)}{N ps:List Str}{sp:Sp}(lk:K.lookup f=some ⟨oc,od,.func (qmB name qual params body scope dV kV doc pm an cdv ct),osl⟩) (hcd:PySem.W.codeIn K cdv qual=true) (S:FnScope N ps scope)
  (len:∀ vs H Q E,sp vs H Q E->vs.length=ps.length)
  (hbody:∀ (A:Around) (outer:List Env) (s:Shared) (H:Hp) (vs:List V) (Q:VK) (E:XK),Room k (A.deeper (envOfC qual scope s.heap.objs.size f cdv))->sp vs H Q E ->
   ∃ t,PSs (Hi CX P w K mg base N qual scope f cdv A outer s H E) body t/\t { nx:=fun _ H'=>Q .non H',rt:=Q } (start N vs) H) :
  FnOk P w K mg base CX (k+1) f (qmB name qual params body scope dV kV doc pm an cdv ct) ps sp:=by
 refine ⟨len,fun A outer s H args us vs Q E hr e0 hb r hsp=>?_⟩;have hl:=len _ _ _ _ hsp;have KX:K.In s.heap:=e0.mod.kin.keeps fun b o e=>(e0.bs b o e).1;have lim:s.heap.NoLimit:=e0.mod.nolimit.keeps fun b o e=>(e0.bs b o e).1
 have hkind:∀ y∈ps.zip us,scope.names.lookup y.1=some .local \/ (scope.names.lookup y.1=some .cell/\((cellsFrom (s.heap.objs.size+1) scope.names []).lookup y.1).isSome=true):=fun ⟨n,v⟩ hy=>by
  rcases S.par n (List.of_mem_zip hy).1 with q|q
  ·exact .inl q
  ·exact .inr ⟨q,PySem.W.cellsFrom_some _ _ _ (.inl q)⟩
 refine codeAny_call_function hr.depth (KX _ _ lk) rfl S.co S.gen rfl (PySem.W.codeRec_of KX hcd) (hb _ _ _ _ ?_);refine wpAny_newFunctionEnv_cells S.kind hkind fun env he s1 x=>?_;subst he;refine ⟨lim.keeps x.toInCall.keep,codeAny_func ?_⟩;obtain ⟨t,ht,hq⟩:=hbody A outer s H vs Q E (hr.deeper _) hsp;have I:Inv (Hi CX P w K mg base N qual scope f cdv A outer s H E) [] (start N vs) H s1:=M0 S hr.hd e0 hl r x;refine wpAny_mono (ht [] s1 (start N vs) H _ I hq) (fun fl s' hs=>?_) fun e s' hs=>hs
 have fin:∀ {σ':St}{H':Hp}{v:V}{u:Value},Inv (Hi CX P w K mg base N qual scope f cdv A outer s H E) [] σ' H' s'->RelV v u->Q v H'->CE outer P w H s Q u s' :=
  fun {σ' H' v u} J rv q=>⟨v,H',J.os,J.bare,J.base,J.hok,rv,q⟩
 cases fl with
 | ret u =>
  obtain ⟨v,σ',H',J,rv,q⟩:=hs;exact fin J rv q
 | next =>
  obtain ⟨σ',H',J,q⟩:=hs;exact fin (v:=V.non) (u:=Value.none) J rfl q
 | brk =>
  obtain ⟨_,_,_,q⟩:=hs;exact False.elim q
 | cont =>
  obtain ⟨_,_,_,q⟩:=hs;exact False.elim q
section
variable {X:Cx}{x:Str}{p pos:Pos}{e:Expr}{es:List Expr}{t:TA}{id T:String}{r:List V->Hp->VK->Prop}
abbrev tCB (r:List V->Hp->VK->Prop)(t:TA):TE:=fun σ H Q=>t σ H fun vs H1=>r vs H1 Q
theorem AW (hc:CC X (.builtin id) r)(hg:Gl X x)(hm:X.mg x=none)(hv:bootBuiltins x=some (.builtin id))(ha:PA X (e::es) t)(hn:x ≠ "__name__" := by decide)(hdb:(x == ("__debug__" : Str))=false:=by decide)
  (he:starEach (e::es) X.env=(false,eval e X.env)::starEach es X.env:=by rfl) (hpl:(backTo pos (starEach es X.env)).any (·.1)=false:=by rfl):PE X (.Call (.Name x p) (e::es) [] pos) (tCB r t):=by
 intro pins s σ H Q I h;refine wpAny_Call_Name_kw (EZ I hg hm hv ?_ hn hdb);exact PyProof.Rows.callWith_builtin1 (thn (ha pos pins s σ H _ I h) fun us s1 ⟨vs,H1,I1,r1,q1⟩=>hc pins s1 σ H1 vs us Q I1 r1 q1) he hpl
theorem Bi (hc:CC X (.type T) r)(hg:Gl X x)(hm:X.mg x=none)(hv:bootBuiltins x=some (.type T))(ha:PA X (e::es) t)(hn:x ≠ "__name__" := by decide)(hdb:(x == ("__debug__" : Str))=false:=by decide)
  (he:starEach (e::es) X.env=(false,eval e X.env)::starEach es X.env:=by rfl) (hpl:(backTo pos (starEach es X.env)).any (·.1)=false:=by rfl):PE X (.Call (.Name x p) (e::es) [] pos) (tCB r t):=by
 intro pins s σ H Q I h;refine wpAny_Call_Name_kw (EZ I hg hm hv ?_ hn hdb);exact PyProof.Rows.callWith_type1 (thn (ha pos pins s σ H _ I h) fun us s1 ⟨vs,H1,I1,r1,q1⟩=>hc pins s1 σ H1 vs us Q I1 r1 q1) he hpl
end
end L2
namespace HT
open PySem PyProof.Rows
section
open PySem.SeqAt
open PySem.AutoSeq1 (wpAny_loadPart')
open PySem.MeetsSeq PySem.MeetsSeq2 PySem.MeetsSeq3
end
section
variable {prog:Program}{w:World}{A:Around}{E:Value->Shared->Prop}{s:Shared}
def sIx (n d:Nat):Option Int->Nat
 | none=>d
 | some v=>if v<0 then (v+(n:Int)).toNat else min v.toNat n
theorem sIx_nat (n d k:Nat):sIx n d (some (k:Int))=min k n:=by
 show (if (k:Int)<0 then ((k:Int)+(n:Int)).toNat else min (k:Int).toNat n)=min k n;rw [if_neg (by omega),Int.toNat_natCast]
end
end HT
namespace L2
open PySem PySem.Spec PyProof.Rows
abbrev TO:=St->Hp->(Option Int->Hp->Prop)->Prop
def PO (X:Cx)(e:Option Expr)(t:TO):Prop :=
 ∀ (pins:List (Addr × Obj)) (s:Shared) (σ:St) (H:Hp) (Q:Option Int->Hp->Prop),Inv X pins σ H s->t σ H Q ->
  wpAny (model X.prog X.w) X.A (evalPart e X.env) (fun u s'=>∃ o H',Inv X pins σ H' s'/\IsPart u o/\Q o H') X.xe s
abbrev LM:TO:=fun _ H Q=>Q none H
abbrev tPart (t:TE):TO:=fun σ H Q=>t σ H fun x H1=>∃ i,x = .int i/\Q (some i) H1
theorem KS {ns:List Int}:∀ {us:List Value},Vals (ns.map V.int) us->IntsAre us ns:=by
 induction ns with
 | nil=>intro us r;rw [List.map_nil] at r;cases r;exact .nil
 | cons n ns ih =>
  intro us r;rw [qwA] at r
  cases r with
  | cons r1 r2 =>
   obtain ⟨t,e⟩:=r1;subst e;exact .cons n t (ih r2)
section
variable {X:Cx}{e:Expr}{te:TE}{lo hi:Option Expr}{tl th:TO}{pos p2:Pos}
theorem Fc:PO X none LM:=by
 intro pins s σ H Q I h;rw [evalPart_none];exact qcA ⟨none,H,I,.none,h⟩
theorem Dw (h:PE X e te):PO X (some e) (tPart te):=by
 intro pins s σ H Q I hw;rw [evalPart_some];refine thn (h pins s σ H _ I hw) fun u s1 ⟨x,H1,I1,r1,q1⟩=>?_;obtain ⟨i,rfl,q⟩:=q1;obtain ⟨t,rfl⟩:=r1;exact ⟨some i,H1,I1,.int i t,q⟩
def SlR (X:Cx)(r:V->Option Int->Option Int->Hp->VK->Prop):Prop :=
 ∀ (pins:List (Addr × Obj)) (s:Shared) (σ:St) (H:Hp) (x:V) (v vl vu:Value) (lo hi:Option Int) (sl:Addr) (Q:VK),Inv X pins σ H s->RelV x v->s.heap.IsSliceOf sl vl vu .none->IsPart vl lo->IsPart vu hi->r x lo hi H Q ->
  ∃ T id,typeLookup (.type T) "__getitem__" = pure (some (.builtin id))/\s.TypeIs v T/\wpAny (model X.prog X.w) X.A (getItem v (.ref sl)) (EP X pins σ Q) X.xe s
abbrev tSl (r:V->Option Int->Option Int->Hp->VK->Prop)(te:TE)(tl th:TO):TE:=fun σ H Q=>te σ H fun x H1=>tl σ H1 fun l H2=>th σ H2 fun u H3=>r x l u H3 Q
theorem Di {r:V->Option Int->Option Int->Hp->VK->Prop}(hr:SlR X r)(he:PE X e te)(hl:PO X lo tl)(hu:PO X hi th):PE X (.Subscript e (.Slice lo hi none p2) pos) (tSl r te tl th):=by
 intro pins s σ H Q I h;refine Subscript_ (thn (he pins s σ H _ I h) fun v s1 ⟨x,H1,I1,r1,q1⟩=>?_);refine wpAny_Slice (thn (hl pins s1 σ H1 _ I1 q1) fun vl s2 ⟨l,H2,I2,pl,q2⟩=>thn (hu pins s2 σ H2 _ I2 q2) fun vu s3 ⟨u,H3,I3,pu,q3⟩=>?_);rw [evalPart_none];refine qcA ?_;have I4:Inv X pins σ H3 { s3 with heap:=s3.heap.push { cls:=.type "slice",data:=.fields #[vl,vu,.none] } }:=I3.kept (t':=s3.toks) fun b ob q=>qcB _ q;obtain ⟨T,id,hT,ht,hg⟩:=hr pins { s3 with heap:=s3.heap.push { cls:=.type "slice",data:=.fields #[vl,vu,.none] } } σ H3 x v vl vu l u s3.heap.objs.size Q I4 r1 (Heap.IsSliceOf.new ..) pl pu q3;show wpAny (model X.prog X.w) X.A (subscriptTail e (.Slice lo hi none p2) v (.ref s3.heap.objs.size)) (EP X pins σ Q) X.xe { s3 with heap:=s3.heap.push { cls:=.type "slice",data:=.fields #[vl,vu,.none] } };exact tail_any (ops:=[.ref s3.heap.objs.size,v]) ht hT hg (by with_unfolding_all rfl)
def KZ (xs:List V)(lo hi:Option Int):List V:=(xs.drop (HT.sIx xs.length 0 lo)).take (HT.sIx xs.length xs.length hi - HT.sIx xs.length 0 lo)
theorem GN (xs:List V)(lo hi:Option Int):(KZ xs lo hi).length<=xs.length:=by
 unfold KZ;rw [qjA,List.length_drop];omega
end
def ixN (n:Nat)(i:Int):Option Nat:=if 0<=i then (if i<n then some i.toNat else none) else if -(n:Int)<=i then some (i+n).toNat else none
def atI {α:Type}(xs:List α)(i:Int):Option α:=(ixN xs.length i).bind fun j=>xs[j]?
theorem L0 {n:Nat}{i:Int}{j:Nat}(h:ixN n i=some j):seqIndex? i n=some j/\j<n/\-(n:Int)<=i/\i<n:=by
 unfold ixN at h;by_cases h0:0<=i
 ·rw [if_pos h0] at h;by_cases h1:i<n
  ·rw [if_pos h1] at h;have e:i.toNat=j:=qaB h;exact ⟨by rw [seqIndex_of h0 h1,e],by omega,by omega,h1⟩
  ·rw [if_neg h1] at h;cases h
 ·rw [if_neg h0] at h;by_cases h1:-(n:Int)<=i
  ·rw [if_pos h1] at h;have e:(i+n).toNat=j:=qaB h;exact ⟨by rw [seqIndex_neg (by omega) h1,e],by omega,h1,by omega⟩
  ·rw [if_neg h1] at h;cases h
theorem Fp {α:Type}{xs:List α}{i:Int}{v:α}(h:atI xs i=some v):∃ j,seqIndex? i xs.length=some j/\xs[j]? = some v/\j<xs.length/\-(xs.length:Int)<=i/\i<xs.length:=by
 unfold atI at h
 cases e:ixN xs.length i with
 | none=>rw [e] at h;cases h
 | some j =>
  rw [e] at h;obtain ⟨h1,h2,h3,h4⟩:=L0 e;exact ⟨j,h1,h,h2,h3,h4⟩
theorem Ip {α:Type}{xs:List α}{j:Nat}{v:α}(h:xs[j]? = some v):atI xs (j:Int)=some v:=by
 have hj:j<xs.length:=(qtA.mp h).1
 have e:ixN xs.length (j:Int)=some j:=by
  unfold ixN;rw [if_pos (by omega),if_pos (by omega)];simp
 unfold atI;rw [e];exact h
theorem atI_last {α:Type}(xs:List α)(v:α):atI (xs++[v]) (-1)=some v:=by
 have hl:(xs++[v]).length=xs.length+1:=by simp
 have e:ixN (xs++[v]).length (-1)=some xs.length:=by
  unfold ixN;rw [hl,if_neg (by decide),if_pos (by omega)]
  congr 1
  omega
 unfold atI;rw [e];show (xs++[v])[xs.length]? = some v;simp
def L1 (b:Expr):Prop:=∀ o i,subscripted b false o i=operate [o,i] (getItem o i)
def IxR (X:Cx)(r:R2):Prop :=
 ∀ (value slice:Expr) (pins:List (Addr × Obj)) (s:Shared) (σ:St) (H:Hp) (x y:V) (v u:Value) (Q:VK),Inv X pins σ H s->RelV x v->RelV y u->r x y H Q ->
  subscripted slice false v u=operate [v,u] (getItem v u)->wpAny (model X.prog X.w) X.A (subscriptTail value slice v u) (EP X pins σ Q) X.xe s
def MtR (X:Cx)(id:String)(r:V->List V->Hp->VK->Prop):Prop :=
 ∀ (pins:List (Addr × Obj)) (s:Shared) (σ:St) (H:Hp) (x:V) (xs:List V) (v:Value) (us:List Value) (Q:VK),Inv X pins σ H s->RelV x v->Vals xs us->r x xs H Q ->
  wpAny (model X.prog X.w) X.A (call (.builtin id) (v::us)) (EP X pins σ Q) X.xe s
section
variable {X:Cx}{a b:Expr}{ta tb:TE}{pos:Pos}
theorem pe_ix {r:R2}(hr:IxR X r)(ha:PE X a ta)(hb:PE X b tb)(hs:L1 b):PE X (.Subscript a b pos) (tOp r ta tb):=by
 intro pins s σ H Q I h;exact Subscript_ (binT ha hb I h fun v u s2 x y H2 I2 rx ry q=>hr a b pins s2 σ H2 x y v u Q I2 rx ry q (hs _ _))
def rIxL (K:FZ9):R2:=fun x y H Q=>∃ p xs i v,x = .ref p/\y = .int i/\SqL K H p xs/\atI xs i=some v/\Q v H
def rIxT (K:FZ9):R2:=fun x y H Q=>∃ p xs i v,x = .ref p/\y = .int i/\SqT K H p xs/\atI xs i=some v/\Q v H
def rIxS:R2:=fun x y H Q=>∃ z i c,x = .str z/\y = .int i/\z.length<=sizeLine/\atI z.cps.toList i=some c/\Q (.str ⟨#[c]⟩) H
theorem ix_list:IxR X (rIxL X.K):=by
 intro value slice pins s σ H x y v u Q I rx ry h hs;obtain ⟨p,xs,i,z,rfl,rfl,hq,he,q⟩:=h;cases rx;obtain ⟨t,rfl⟩:=ry;obtain ⟨its,r,pl,hz⟩:=I.list hq;obtain ⟨j,h1,h2,h3,h4,h5⟩:=Fp he;obtain ⟨w,ew,rw'⟩:=r.get h2;have hl:=r.length;have hn:=FL;have fin:EP X pins σ Q w s:=⟨z,H,I,rw',q⟩;by_cases h0:0<=i
 ·have hj:i.toNat=j:=by
   rw [seqIndex_of h0 h5] at h1;exact qaB h1
  exact item_listR pl.isList h0 (by omega) (by rw [hj];simpa using ew) fin hs
 ·have hj:(i+(its.toArray.size:Int)).toNat=j:=by
   rw [seqIndex_neg (by omega) h4] at h1;rw [qkB,<- hl];exact qaB h1
  exact subscriptTail_builtinR (x:=w) pl.isList.typeIs slot_list_getitem.lookup
   (wpAny_getItem_list_neg (Q:=fun r s'=>r=w/\EP X pins σ Q r s') pl.isList (by omega) (by rw [qkB]<;>omega) (by omega) (by rw [hj];simpa using ew) ⟨rfl,fin⟩) hs
theorem ix_tup:IxR X (rIxT X.K):=by
 intro value slice pins s σ H x y v u Q I rx ry h hs;obtain ⟨p,xs,i,z,rfl,rfl,hq,he,q⟩:=h;cases rx;obtain ⟨t,rfl⟩:=ry;obtain ⟨its,r,pl,hz⟩:=I.tuple hq;obtain ⟨j,h1,h2,h3,h4,h5⟩:=Fp he;obtain ⟨w,ew,rw'⟩:=r.get h2;have hl:=r.length;have hn:=FL;have fin:EP X pins σ Q w s:=⟨z,H,I,rw',q⟩
 exact subscriptTail_builtinR (x:=w) pl.typeIs slot_tuple_getitem.lookup
  (getItem_tuple (j:=j) (Q:=fun r s'=>r=w/\EP X pins σ Q r s') pl (by omega) (by omega) (by rw [qkB,<- hl];exact h1) (by simpa using ew) ⟨rfl,fin⟩) hs
theorem ix_str:IxR X rIxS:=by
 intro value slice pins s σ H x y v u Q I rx ry h hs;obtain ⟨z,i,c,rfl,rfl,hz,he,q⟩:=h;obtain ⟨t,rfl⟩:=rx;obtain ⟨t',rfl⟩:=ry;obtain ⟨j,h1,h2,h3,h4,h5⟩:=Fp he;have hl:z.cps.toList.length=z.length:=by simp [Str.length]
 rw [hl] at h1 h4 h5;have hn:=FL
 exact tail_any (typeIs_str s z t) slot_str_getitem.lookup (getItem_str (c:=c) (by
  have e1:decide (i < -(2 ^ 63:Int))=false:=decide_eq_false (by omega);have e2:decide (i>=2 ^ 63)=false:=decide_eq_false (by omega)
  rw [e1,e2,Bool.or_false]) (by rw [h1];simpa using h2) ⟨.str ⟨#[c]⟩,H,I.tok _,⟨_,rfl⟩,q⟩) hs
theorem Kg (its:List Value)(n j:Nat)(u:Value):Obj.mapSeq (·.setIfInBounds j u) { cls:=.type "list",data:=.seq its.toArray n } = { cls:=.type "list",data:=.seq (its.set j u).toArray n }:=by
 simp [Obj.mapSeq]
theorem Inv.lst {pins:List (Addr × Obj)}{σ:St}{H:Hp}{s:Shared}{p:Addr}{xs:List V}(I:Inv X pins σ H s)(h:H p=some (.lst xs)) :
  ∃ (its:List Value) (n:Nat),Vals xs its/\s.heap.get? p=some { cls:=.type "list",data:=.seq its.toArray n }/\xs.length<=sizeLine:=by
 obtain ⟨z,its,n,r,e⟩:=I.hok p _ h;exact ⟨its,n,r,e,z⟩
theorem Inv.lstUpd {pins:List (Addr × Obj)}{σ:St}{H:Hp}{s:Shared}{p:Addr}{xs ys:List V}{its its':List Value}{n n':Nat}{f:Obj->Obj}(I:Inv X pins σ H s)(h:H p=some (.lst xs))
  (ho:s.heap.get? p=some { cls:=.type "list",data:=.seq its.toArray n }) (hf:f { cls:=.type "list",data:=.seq its.toArray n } = { cls:=.type "list",data:=.seq its'.toArray n' }) (r:Vals ys its') (hz:ys.length<=sizeLine) (t:Nat) :
  Inv X pins σ (upd H p (.lst ys)) { s with heap:=s.heap.update p f,toks:=t }:=by
 have e:(s.heap.update p f).get? p=some { cls:=.type "list",data:=.seq its'.toArray n' }:=by
  rw [Heap.get?_update_self f ho (by rw [hf]<;>rfl),hf]
 refine I.write (x:=p) (e:=p) (by rw [h];trivial) (.inl rfl) (fun b u hb q=>(Heap.get?_update_other _ _ (Ne.symm hb)).trans q) ⟨_,e⟩ ?_;exact ⟨hz,its',n',r,e⟩
def rSetL:V->V->V->Hp->(Hp->Prop)->Prop:=fun o i v H Q=>∃ p xs k j,o = .ref p/\i = .int k/\H p=some (.lst xs)/\ixN xs.length k=some j/\Q (upd H p (.lst (xs.set j v)))
theorem set_list:PSet X rSetL:=by
 intro pins s σ H o i v ov iv u Q I ro ri rv h;obtain ⟨p,xs,k,j,rfl,rfl,hp,hj,q⟩:=h;cases ro;obtain ⟨t,rfl⟩:=ri;obtain ⟨its,n,r,ho,hz⟩:=I.lst hp;obtain ⟨h1,h2,h3,h4⟩:=L0 hj;have hl:=r.length;have hn:=FL
 have I':Inv X pins σ (upd H p (.lst (xs.set j v))) { s with heap:=s.heap.update p (Obj.mapSeq (·.setIfInBounds j u)) } :=
  I.lstUpd hp ho (Kg its n j u) (r.set rv j) (by rw [List.length_set];exact hz) s.toks
 by_cases h0:0<=k
 ·have hk:k.toNat=j:=by
   rw [seqIndex_of h0 h4] at h1;exact qaB h1
  exact PySem.W.ki_setAt ho h0 (by omega) (by rw [qkB,<- hl];exact h4) (by rw [hk];exact ⟨_,I',q⟩)
 ·have hk:(k+(its.toArray.size:Int)).toNat=j:=by
   rw [seqIndex_neg (by omega) h3] at h1;rw [qkB,<- hl];exact qaB h1
  exact PySem.W.ki_setBack ho (by omega) (by rw [qkB,<- hl];exact h3) (by omega) (by rw [hk];exact ⟨_,I',q⟩)
theorem Iq (lo hi:Option Int)(n:Nat):(sliceBounds lo hi none n).1=((HT.sIx n 0 lo:Nat):Int)/\(sliceBounds lo hi none n).2.1=((HT.sIx n n hi:Nat):Int)/\(sliceBounds lo hi none n).2.2=1:=by
 refine ⟨?_,?_,rfl⟩
 ·cases lo with
  | none=>simp [sliceBounds,HT.sIx]
  | some i =>
   simp only [sliceBounds,HT.sIx,Option.getD_none,show (1:Int) > 0 by decide,if_true];by_cases h:i<0
   ·simp only [h,if_true]<;>omega
   ·simp only [h,if_false]<;>omega
 ·cases hi with
  | none=>simp [sliceBounds,HT.sIx]
  | some i =>
   simp only [sliceBounds,HT.sIx,Option.getD_none,show (1:Int) > 0 by decide,if_true];by_cases h:i<0
   ·simp only [h,if_true]<;>omega
   ·simp only [h,if_false]<;>omega
theorem Hq (its:List Value)(lo hi:Option Int):slicePick its.toArray lo hi none=((its.drop (HT.sIx its.length 0 lo)).take (HT.sIx its.length its.length hi - HT.sIx its.length 0 lo)).toArray:=by
 obtain ⟨h1,h2,h3⟩:=Iq lo hi its.toArray.size;unfold slicePick;rw [h1,h2,h3];simp only [sliceRange_one,pick_run,qkB]<;>rfl
def rSlL (K:FZ9):V->Option Int->Option Int->Hp->VK->Prop:=fun x lo hi H Q=>∃ a xs,x = .ref a/\SqL K H a xs/\∀ p,H p=none->Q (.ref p) (upd H p (.lst (KZ xs lo hi)))
theorem sl_list:SlR X (rSlL X.K):=by
 intro pins s σ H x v vl vu lo hi sl Q I rx hs pl pu h;obtain ⟨a,xs,rfl,hx,q⟩:=h;cases rx;obtain ⟨its,r,ht,hz⟩:=I.list hx;have hlen:=r.length;refine ⟨"list",_,slot_list_getitem.lookup,ht.isList.typeIs,?_⟩;refine wpAny_getItem_list_slice ht.isList hs pl pu .none (by simp) ?_ (by rw [qkB]<;>omega);rw [Hq,<- hlen];refine ⟨.ref s.heap.objs.size,_,I.laid (t':=s.toks) (o:=.lst (KZ xs lo hi)) (fun b ob q=>qcB _ q) (qxA _) ?_,rfl,q _ (I.hok.fresh (qxA _))⟩;exact ⟨qyA (GN xs lo hi) hz,_,0,(r.drop (HT.sIx xs.length 0 lo)).take (HT.sIx xs.length xs.length hi - HT.sIx xs.length 0 lo),qdB _ rfl⟩
def Eo:V->Bool
 | .non=>true
 | .bl _=>true
 | .int _=>true
 | .str _=>true
 | _=>false
def eqV:V->V->Bool
 | .non,.non=>true
 | .bl a,.bl b=>a == b
 | .bl a,.int b=>(if a then 1 else 0) == b
 | .int a,.bl b=>a == (if b then 1 else 0)
 | .int a,.int b=>a == b
 | .str a,.str b=>a == b
 | _,_=>false
theorem eqAt_V {A:Around}{s:Shared}{y x:V}{u v:Value}(ry:RelV y u)(rx:RelV x v)(fy:Eo y=true)(fx:Eo x=true):SeqAt.EqAt A s u v (eqV y x):=by
 cases y with
 | non =>
  cases ry
  cases x with
  | non=>cases rx;exact SeqAt.EqAt.same _
  | bl b=>cases rx;exact SeqAt.EqAt.none_bool b
  | int b=>obtain ⟨t,rfl⟩:=rx;exact SeqAt.EqAt.none_int b t
  | str b=>obtain ⟨t,rfl⟩:=rx;exact SeqAt.EqAt.none_str b t
  | _=>exact absurd (show false=true from fx) qjB
 | bl a =>
  cases ry
  cases x with
  | non=>cases rx;exact SeqAt.EqAt.bool_none a
  | bl b=>cases rx;exact SeqAt.EqAt.bool_bool a b
  | int b=>obtain ⟨t,rfl⟩:=rx;exact SeqAt.EqAt.bool_int a b t
  | str b=>obtain ⟨t,rfl⟩:=rx;exact SeqAt.EqAt.bool_str a b t
  | _=>exact absurd (show false=true from fx) qjB
 | int a =>
  obtain ⟨t',rfl⟩:=ry
  cases x with
  | non=>cases rx;exact SeqAt.EqAt.int_none a t'
  | bl b=>cases rx;exact SeqAt.EqAt.int_bool a t' b
  | int b=>obtain ⟨t,rfl⟩:=rx;exact SeqAt.EqAt.int_int a t' b t
  | str b=>obtain ⟨t,rfl⟩:=rx;exact SeqAt.EqAt.int_str a t' b t
  | _=>exact absurd (show false=true from fx) qjB
 | str a =>
  obtain ⟨t',rfl⟩:=ry
  cases x with
  | non=>cases rx;exact SeqAt.EqAt.str_none a t'
  | bl b=>cases rx;exact SeqAt.EqAt.str_bool a t' b
  | int b=>obtain ⟨t,rfl⟩:=rx;exact SeqAt.EqAt.str_int a t' b t
  | str b=>obtain ⟨t,rfl⟩:=rx;exact SeqAt.EqAt.str_str a t' b t
  | _=>exact absurd (show false=true from fx) qjB
 | _=>exact absurd (show false=true from fy) qjB
def eqU (x:V)(u:Value):Bool:=match u with
 | .none=>eqV .non x
 | .bool b=>eqV (.bl b) x
 | .int i _=>eqV (.int i) x
 | .str z _=>eqV (.str z) x
 | _=>false
theorem Kc {x y:V}{u:Value}(r:RelV y u)(f:Eo y=true):eqU x u=eqV y x:=by
 cases y with
 | non=>cases r;rfl
 | bl b=>cases r;rfl
 | int i=>obtain ⟨t,rfl⟩:=r;rfl
 | str z=>obtain ⟨t,rfl⟩:=r;rfl
 | _=>exact absurd (show false=true from f) qjB
theorem Iy {x:V}:∀ {xs:List V}{us:List Value},Vals xs us->xs.all Eo=true->us.any (eqU x)=xs.any fun y=>eqV y x
 | _,_,.nil,_=>rfl
 | y::xs,u::us,.cons r t,f=>by
  rw [List.all_cons,Bool.and_eq_true] at f;rw [List.any_cons,List.any_cons,Kc r f.1,Iy t f.2]
theorem Fm {A:Around}{s:Shared}{x:V}{v:Value}(rx:RelV x v)(fx:Eo x=true):∀ {xs:List V}{us:List Value},Vals xs us->xs.all Eo=true->∀ u∈us,SeqAt.EqAt A s u v (eqU x u)
 | _,_,.nil,_=>fun u hu=>by cases hu
 | y::xs,u::us,.cons r t,f=>fun u' hu=>by
  rw [List.all_cons,Bool.and_eq_true] at f;rcases qmA.mp hu with rfl|hu
  ·rw [Kc r f.1];exact eqAt_V r rx f.1 fx
  ·exact Fm rx fx t f.2 u' hu
def inV (x:V)(xs:List V):Bool:=xs.any fun y=>eqV y x
def rIn (K:FZ9)(neg:Bool):R2:=fun x y H Q=>∃ p xs,y = .ref p/\(SqL K H p xs\/SqT K H p xs)/\Eo x=true/\xs.all Eo=true/\Q (.bl (if neg then !inV x xs else inV x xs)) H
theorem J8:OpR X (compareOp .NotIn) (rIn X.K true):=by
 intro pins s σ H x y v u Q I rx ry h;obtain ⟨p,xs,rfl,hq,fx,fs,q⟩:=h;cases ry;rcases hq with hq|hq
 ·obtain ⟨its,r,pl,hz⟩:=I.list hq;refine SeqAt.notIn_listAt (eqU x) pl.isList (fun w hw=>Fm rx fx r fs w (by simpa using hw)) ⟨.bl _,H,I,rfl,?_⟩;rw [show its.toArray.any (eqU x)=its.any (eqU x) by simp,Iy r fs];exact q
 ·obtain ⟨its,r,pl,hz⟩:=I.tuple hq;refine SeqAt.notIn_tupleAt (eqU x) pl (fun w hw=>Fm rx fx r fs w (by simpa using hw)) ⟨.bl _,H,I,rfl,?_⟩;rw [show its.toArray.any (eqU x)=its.any (eqU x) by simp,Iy r fs];exact q
theorem Ic:CC X (.builtin "len") (fun xs H Q=>∃ p ys,xs=[.ref p]/\(SqL X.K H p ys\/SqT X.K H p ys)/\Q (.int ys.length) H):=by
 intro pins s σ H xs us Q I r h;obtain ⟨p,ys,rfl,hq,q⟩:=h;obtain ⟨u,rfl,rx⟩:=DI r;cases rx;have hn:=FL;rcases hq with hq|hq
 ·obtain ⟨its,r',pl,hz⟩:=I.list hq;have hlen:=r'.length;exact Calls.call_len_list pl.isList (by simp only [qkB]<;>omega) ⟨.int ys.length,H,I.tok _,⟨s.toks+1,by rw [qkB,hlen]⟩,q⟩
 ·obtain ⟨its,r',pl,hz⟩:=I.tuple hq;have hlen:=r'.length;exact len_tuple pl (by simp only [qkB]<;>omega) ⟨.int ys.length,H,I.tok _,⟨s.toks+1,by rw [qkB,hlen]⟩,q⟩
theorem Im:CC X (.builtin "len") (fun xs H Q=>∃ z,xs=[.str z]/\z.length<=sizeLine/\Q (.int z.length) H):=by
 intro pins s σ H xs us Q I r h;obtain ⟨z,rfl,hz,q⟩:=h;obtain ⟨u,rfl,t,rfl⟩:=DI r;have hn:=FL;exact len_str (by omega) ⟨.int z.length,H,I.tok _,⟨_,rfl⟩,q⟩
theorem JK:CC X (.type "list") (fun xs H Q=>∃ p ys,xs=[.ref p]/\(SqL X.K H p ys\/SqT X.K H p ys)/\∀ l,H l=none->Q (.ref l) (upd H l (.lst ys))):=by
 intro pins s σ H xs us Q I r h;obtain ⟨p,ys,rfl,hq,q⟩:=h;obtain ⟨u,rfl,rx⟩:=DI r;cases rx
 have fin:∀ (its:List Value),Vals ys its->ys.length<=sizeLine->∀ (h':Heap) (c':Nat),(∀ b o',s.heap.get? b=some o'->h'.get? b=some o') ->
   h'.get? s.heap.objs.size=some { cls:=.type "list",dict:=none,data:=.seq its.toArray c',slots:=#[] }->EP X pins σ Q (.ref s.heap.objs.size) { s with heap:=h' }:=fun its r' hz h' c' kp e =>
  ⟨.ref s.heap.objs.size,_,I.laid (t':=s.toks) kp (qxA _) (show ObjOk X.prog X.w _ h' _ (.lst ys) from ⟨hz,its,c',r',e⟩),rfl,q _ (I.hok.fresh (qxA _))⟩
 rcases hq with hq|hq
 ·obtain ⟨its,r',pl,hz⟩:=I.list hq;have hlen:=r'.length;obtain ⟨o,ho,hc,n,hd⟩:=pl.isList;exact call_list_seq p (.inl rfl) ho hc hd (fun h' c' kp e=>fin its r' hz h' c' kp e) (by simp only [qkB]<;>omega)
 ·obtain ⟨its,r',pl,hz⟩:=I.tuple hq;have hlen:=r'.length;obtain ⟨o,ho,hc,n,hd⟩:=pl;exact call_list_seq p (.inr rfl) ho hc hd (fun h' c' kp e=>fin its r' hz h' c' kp e) (by simp only [qkB]<;>omega)
def tyV (K:FZ9)(T:String)(x:V)(H:Hp):Prop:=match x with
 | .str _=>T = "str"
 | .int _=>T = "int"
 | .ref p=>(T = "list" /\ ∃ xs,SqL K H p xs)\/(T = "tuple" /\ ∃ o,K.lookup p=some o/\o.cls = .type "tuple" /\ o.dict=none) \/
   (T = "dict" /\ ((∃ kvs,H p=some (.dK kvs))\/∃ kvs,H p=some (.dT kvs)))\/(T = "set" /\ ∃ S n,H p=some (.set S n))
 | _=>False
theorem tyV_is {pins:List (Addr × Obj)}{σ:St}{H:Hp}{s:Shared}{T:String}{x:V}{v:Value}(I:Inv X pins σ H s)(r:RelV x v)(ty:tyV X.K T x H) :
  s.TypeIs v T/\∀ a,v = .ref a->∃ ob,s.heap.get? a=some ob/\ob.dict=none:=by
 cases x with
 | str z =>
  obtain ⟨t,rfl⟩:=r;cases (show T = "str" from ty);exact ⟨typeIs_str s z t,fun _ e=>nomatch e⟩
 | int i =>
  obtain ⟨t,rfl⟩:=r;cases (show T = "int" from ty);exact ⟨typeIs_int s i t,fun _ e=>nomatch e⟩
 | ref p =>
  cases r;rcases ty with ⟨rfl,xs,hq⟩ | ⟨rfl,o,hk,hc,hd⟩ | ⟨rfl,hk⟩ | ⟨rfl,S,n,hk⟩
  ·obtain ⟨its,_,pl,_⟩:=I.list hq;refine ⟨pl.isList.typeIs,fun a e=>?_⟩;cases e;obtain ⟨o,n,e,c,hd,_⟩:=pl;exact ⟨o,e,hd⟩
  ·refine ⟨⟨o,I.kIn p o hk,hc⟩,fun a e=>?_⟩;cases e;exact ⟨o,I.kIn _ o hk,hd⟩
  ·have z:∃ o,s.heap.get? p=some o/\o.ExactDict:=by
    rcases hk with ⟨kvs,hk⟩ | ⟨kvs,hk⟩
    ·obtain ⟨_,_,_,_,o,_,_,e,ex,_⟩:=I.hok p _ hk;exact ⟨o,e,ex⟩
    ·obtain ⟨_,_,_,_,o,_,_,e,ex,_⟩:=I.hok p _ hk;exact ⟨o,e,ex⟩
   obtain ⟨o,e,ex⟩:=z;refine ⟨⟨o,e,ex.1⟩,fun a e2=>?_⟩;cases e2;exact ⟨o,e,ex.2.1⟩
  ·obtain ⟨o,_,_,_,e,ex,_⟩:=I.hok p _ hk;refine ⟨⟨o,e,ex.1⟩,fun a e2=>?_⟩;cases e2;exact ⟨o,e,ex.2.1⟩
 | _=>exact False.elim ty
abbrev tBM0 (K:FZ9)(T:String)(r:V->List V->Hp->VK->Prop)(to:TE):TE:=fun σ H Q=>to σ H fun x H1=>tyV K T x H1/\r x [] H1 Q
abbrev tBM (K:FZ9)(T:String)(r:V->List V->Hp->VK->Prop)(to:TE)(t:TA):TE:=fun σ H Q=>to σ H fun x H1=>tyV K T x H1/\t σ H1 fun xs H2=>r x xs H2 Q
variable {o e:Expr}{es:List Expr}{to:TE}{t:TA}{name:Str}{apos cpos:Pos}{T id:String}{r:V->List V->Hp->VK->Prop}
theorem pe_bm0 (pa:PlainAttrs T)(slot:Slot T name id)(hty:typeOf (.builtin id)=pure (.type "method_descriptor"))(hm:MtR X id r)(ho:PE X o to)
  (hbase:attributeBase o name X.env (eval o X.env)=eval o X.env:=by rfl) (hline:(apos.endLine == cpos.line)=true:=by rfl):PE X (.Call (.Attribute o name apos) [] [] cpos) (tBM0 X.K T r to):=by
 intro pins s σ H Q I h;refine wpAny_Call_method0_late hbase hline (thn (ho pins s σ H _ I h) fun v s1 ⟨x,H1,I1,r1,ty,q1⟩=>?_);obtain ⟨h1,h2⟩:=tyV_is I1 r1 ty;exact ⟨T,id,pa,slot,hty,h1,h2,Calls.callWith_builtin rfl (PySem.evalArgs_none (hm pins s1 σ H1 x [] v [] Q I1 r1 .nil q1))⟩
theorem pe_bm (pa:PlainAttrs T)(slot:Slot T name id)(hty:typeOf (.builtin id)=pure (.type "method_descriptor"))(hm:MtR X id r)(ho:PE X o to)(ha:PA X (e::es) t)
  (hbase:attributeBase o name X.env (eval o X.env)=eval o X.env:=by rfl)
  (hfew:((backTo cpos (starEach (e::es) X.env)).all (fun x=>!x.1) && (backToKw cpos (keywordEach [] X.env)).all (fun x=>x.1.isSome)
   && decide ((e::es).length+([]:List Keyword).length+(if ([]:List Keyword).isEmpty then 0 else 1)<30))=true:=by rfl)
  (hline:(apos.endLine == cpos.line)=true:=by rfl) (hs:starEach (e::es) X.env=(false,eval e X.env)::starEach es X.env:=by rfl) (hplain:(backTo cpos (starEach es X.env)).any (·.1)=false:=by rfl) :
  PE X (.Call (.Attribute o name apos) (e::es) [] cpos) (tBM X.K T r to t):=by
 intro pins s σ H Q I h;refine wpAny_Call_method_late hbase hfew hline rfl (thn (ho pins s σ H _ I h) fun v s1 ⟨x,H1,I1,r1,ty,q1⟩=>?_);obtain ⟨h1,h2⟩:=tyV_is I1 r1 ty;refine ⟨T,id,pa,slot,hty,h1,h2,?_⟩;have hA:=ha cpos pins s1 σ H1 _ I1 q1;rw [hs] at hA ⊢;refine Calls.callWith_builtin (by show (false || (backTo cpos (starEach es X.env)).any (·.1))=false;rw [hplain]<;>rfl) (Calls.evalArgs_plain ?_);exact thn hA fun us s2 ⟨vs,H2,I2,r2,q2⟩=>hm pins s2 σ H2 x vs v us Q I2 r1 r2 q2
end
def MtM (X:Cx)(id:String)(r:V->List V->Hp->VK->Prop):Prop :=
 ∀ (pins:List (Addr × Obj)) (s:Shared) (σ:St) (H:Hp) (x:V) (xs:List V) (v:Value) (us:List Value) (Q:VK),Inv X pins σ H s->RelV x v->Vals xs us->r x xs H Q ->
  wpAny (model X.prog X.w) X.A (call (.builtin id) (v::us)) (EP X pins σ Q) X.xe s
theorem Vals.one:∀ {x:V}{us:List Value},Vals [x] us->∃ u,us=[u]/\RelV x u
 | _,_,.cons r .nil=>⟨_,rfl,r⟩
theorem Vals.zero:∀ {us:List Value},Vals [] us->us=[]
 | _,.nil=>rfl
theorem Vals.rep {xs:List V}{us:List Value}(h:Vals xs us):∀ k:Nat,Vals (List.replicate k xs).flatten (List.replicate k us).flatten
 | 0=>.nil
 | k+1=>by
  rw [List.replicate_succ,List.replicate_succ,List.flatten_cons,List.flatten_cons];exact Vals.append h (Vals.rep h k)
theorem IE (its:List Value):∀ (k:Nat) (acc:List Value),
  List.foldl (fun x1 x2=>x1++x2) acc.toArray (List.replicate k its.toArray)=(acc++(List.replicate k its).flatten).toArray
 | 0,acc=>by simp
 | k+1,acc=>by
  have e:acc.toArray++its.toArray=(acc++its).toArray:=by simp
  have e2:(acc++its)++(List.replicate k its).flatten=acc++(List.replicate (k+1) its).flatten:=by
   rw [List.replicate_succ,List.flatten_cons,List.append_assoc]
  rw [<- e2,<- IE its k (acc++its),<- e,List.replicate_succ,List.foldl_cons]
section
variable {X:Cx}{pins:List (Addr × Obj)}{σ:St}{H:Hp}{s:Shared}{l b:Addr}{xs ys zs:List V}
theorem Inv.lset {its its':List Value}{n:Nat}{f:Array Value->Array Value}{t':Nat}(I:Inv X pins σ H s)(hH:H l=some (.lst xs))
  (e:s.heap.get? l=some { cls:=.type "list",data:=.seq its.toArray n }) (hf:f its.toArray=its'.toArray) (hv:Vals ys its') (hz:ys.length<=sizeLine) :
  Inv X pins σ (upd H l (.lst ys)) { s with heap:=s.heap.update l (Obj.mapSeq f),toks:=t' }:=by
 have q:=PySem.IsL.update e f;rw [hf] at q;refine I.write (x:=l) (e:=l) (by rw [hH];exact trivial) (.inl rfl) (fun b' u hb hu=>(Heap.get?_update_other s.heap (Obj.mapSeq f) (Ne.symm hb)).trans hu) ⟨_,q⟩ ?_;exact ⟨hz,its',_,hv,q⟩
theorem Inv.lnew {its:List Value}{t':Nat}(I:Inv X pins σ H s)(hv:Vals ys its)(hz:ys.length<=sizeLine) :
  Inv X pins σ (upd H s.heap.objs.size (.lst ys)) { s with heap:=s.heap.push { cls:=.type "list",data:=.seq its.toArray },toks:=t' } :=
 I.laid (fun _ _ q=>qcB _ q) (qxA _) ⟨hz,its,0,hv,qdB _ rfl⟩
theorem Inv.fresh (I:Inv X pins σ H s):H s.heap.objs.size=none:=I.hok.fresh (qxA _)
theorem Inv.lstM (I:Inv X pins σ H s)(hH:H l=some (.lst xs)):xs.length<=sizeLine/\∃ (its:List Value) (n:Nat),Vals xs its/\xs.length=its.length/\s.heap.get? l=some { cls:=.type "list",data:=.seq its.toArray n }:=by
 obtain ⟨z,its,n,r,e⟩:=I.hok l _ hH;exact ⟨z,its,n,r,r.length,e⟩
theorem notLongL {n:Nat}(h:n<=sizeLine):Builtin.List.listTooLong n=false:=by
 unfold Builtin.List.listTooLong;exact decide_eq_false (by omega)
end
section
variable {X:Cx}
def Gd:V->List V->Hp->VK->Prop:=fun x vs H Q=>∃ l xs y,x = .ref l/\vs=[y]/\H l=some (.lst xs)/\xs.length<sizeLine/\Q .non (upd H l (.lst (xs++[y])))
theorem ID:MtM X "list.append" Gd:=by
 intro pins s σ H x vs v us Q I rx rv h;obtain ⟨l,xs,y,rfl,rfl,hH,hz,q⟩:=h;cases rx;obtain ⟨u,rfl,ru⟩:=rv.one;obtain ⟨z,its,n,r,hl,e⟩:=I.lstM hH;refine call_meets F.slot_list_append ⟨_,e,rfl⟩ F.entry_list_append (F.args_list_append_2 _ _) (PySem.list_append l its.toArray n u (by rw [qkB];omega)) ⟨e,?_⟩;refine ⟨.non,_,I.lset (its':=its++[u]) hH e (by simp) (r.append (.cons ru .nil)) ?_,rfl,q⟩;rw [qfA,qhA];omega
def rClear:V->List V->Hp->VK->Prop:=fun x vs H Q=>∃ l xs,x = .ref l/\vs=[]/\H l=some (.lst xs)/\Q .non (upd H l (.lst []))
theorem mt_clear:MtM X "list.clear" rClear:=by
 intro pins s σ H x vs v us Q I rx rv h;obtain ⟨l,xs,rfl,rfl,hH,q⟩:=h;cases rx;have hus:=rv.zero;subst hus;obtain ⟨z,its,n,r,hl,e⟩:=I.lstM hH;refine call_meets F.slot_list_clear ⟨_,e,rfl⟩ F.entry_list_clear (F.args_list_clear_1 _) (AutoSeq1.list_clear_list_0 l its.toArray n (by rw [qkB];omega)) ⟨e,?_⟩;exact ⟨.non,_,I.lset (its':=[]) (ys:=[]) hH e rfl .nil (qsB _),rfl,q⟩
def rRep:R2:=fun x y H Q=>∃ l k xs,x = .ref l/\y = .int k/\H l=some (.lst xs)/\-(2 ^ 63)<=k/\k<2 ^ 63/\xs.length * k.toNat<=sizeLine /\
 ∀ p,H p=none->Q (.ref p) (upd H p (.lst (List.replicate k.toNat xs).flatten))
theorem len_rep {α:Type}(xs:List α)(k:Nat):(List.replicate k xs).flatten.length=k * xs.length:=by
 induction k with
 | zero=>simp
 | succ k ih=>rw [List.replicate_succ,List.flatten_cons,qfA,ih,Nat.succ_mul,Nat.add_comm]
theorem op_rep:OpR X (binaryOp .Mult) rRep:=by
 intro pins s σ H x y v u Q I rx ry h;obtain ⟨l,k,xs,rfl,rfl,hH,h1,h2,hz,q⟩:=h;cases rx;obtain ⟨t,rfl⟩:=ry;obtain ⟨z,its,n,r,hl,e⟩:=I.lstM hH;have hlen:its.toArray.size * k.toNat<=sizeLine:=by rw [qkB,<- hl];exact hz
 have hcap:¬ its.toArray.size * k.toNat > (2 ^ 63 - 1) / 8:=by
  have:(sizeLine:Nat)<=(2 ^ 63 - 1) / 8:=by decide
  omega
 have hfit:¬ (!Builtin.List.listFitsIndex k)=true:=by
  rw [fitsIndex_both h1 h2];exact qjB
 have hlong:¬ Builtin.List.listTooLong (its.toArray.size * k.toNat)=true:=by
  rw [notLongL hlen];exact qjB
 have hnew:List.foldl (fun x1 x2=>x1++x2) #[] (List.replicate (if its.toArray.isEmpty=true then 0 else k.toNat) its.toArray)=(List.replicate k.toNat its).flatten.toArray:=by
  have f0:∀ m:Nat,List.foldl (fun x1 x2=>x1++x2) #[] (List.replicate m its.toArray)=(List.replicate m its).flatten.toArray:=fun m=>by
   have:=IE its m [];rw [List.nil_append] at this;exact this
  rw [f0]
  cases its with
  | nil=>simp
  | cons a r'=>rw [if_neg (by simp)]
 refine wpAny_binaryOp_repeat_ref (T := "list") (U := "int") (by decide) ⟨_,e,rfl⟩ (fun s'=>typeIs_int s' k t) noFill_list_mul F.fills_int_mul F.slot_int_rmul repeat_list F.slot_int_index.lookup
  (call_meets F.slot_int_rmul (typeIs_int s k t) F.entry_int_rmul (F.args_int_rmul_2 _ _) (int___rmul___int_list k t l its.toArray n)
   ⟨e,rfl,⟨_,e,rfl⟩,call_meets F.slot_list_mul ⟨_,e,rfl⟩ F.entry_list_mul (F.args_list_mul_2 _ _) (AutoListH.list___mul___list_int_3 l its.toArray n k t hfit hcap hlong) ⟨e,?_⟩⟩)
 rw [hnew];exact ⟨.ref _,_,I.lnew (t':=s.toks) (r.rep k.toNat) (by rw [len_rep,Nat.mul_comm];exact hz),rfl,q _ I.fresh⟩
end
end L2
namespace Att
open PySem PySem.W PySem.Calls PyProof.Rows
theorem Gb {P:Params}{h:Heap}:∀ (ns:List Int) (vs:List Value),WellAll P h vs (ns.map WData.int)->IntsAre vs ns:=by
 intro ns
 induction ns with
 | nil =>
  intro vs w;rw [List.map_nil] at w;cases w;exact .nil
 | cons n ns ih =>
  intro vs w;rw [qwA] at w
  cases w with
  | cons a b =>
   cases a;exact .cons _ _ (ih _ b)
theorem Lr {l:OpenLaw}{n:Nat}(hn:l.most=some n){P:Params}{h:Heap}{args:List WData}{vals:List Value}
  (hpre:l.row.toRowW.claim.pre args=true) (hwl:WellAll P h vals args) :
  ∃ a vs ns,vals=[Value.ref a]/\args=[WData.list (ns.map WData.int)]/\h.get? a=some { cls:=.type "list",data:=.seq vs.toArray }/\IntsAre vs ns/\ns.length<=n:=by
 have hsh:WShape.hasAll [] args [.list .int]=true:=(pre_splitW hpre).1;have hc:l.pre.holds [] { args:=args }=true:=(pre_splitW hpre).2;obtain ⟨d,r,rfl,h1,h2⟩:=hasAllW_cons hsh;obtain rfl:=hasAllW_nil h2;obtain ⟨xs,rfl,h3⟩:=hasW_list h1;obtain ⟨ns,rfl⟩:=items_int h3
 have hlen:ns.length<=n:=by
  unfold OpenLaw.pre at hc
  have h4:(WTm.not (.lt (.lit (.int (n:Int))) (.len (.arg 0)))).holds [] { args:=[.list (ns.map .int)] }=true:=by
   have h4:=(holds_andW hc).1;rw [hn] at h4;exact h4
  have h5:=condW_of h4 (w_not (w_lt w_lit (w_len_list (w_arg rfl))));rw [qeA] at h5;refine Nat.le_of_not_lt fun q=>?_;have q':(n:Int)<((ns.length:Nat):Int):=by omega
  first
   | (rw [decide_eq_true q'] at h5;exact absurd h5 (by decide))
   | (simp at h5;omega)
 cases hwl with
 | cons w1 w2 =>
  cases w2
  cases w1 with
  | list ho hall=>exact ⟨_,_,ns,rfl,rfl,ho,Gb ns _ hall,hlen⟩
theorem M7 (l:OpenLaw)(args:List WData):l.row.toRowW.claim.post args (.bool true) args=true :=
 postW_of (r:=l.row.toRowW) (X:=(true == true))
  (show WShape.has [] (.bool true) .bool=true by first|rfl|decide|simp [WShape.has,WShape.arms,WShape.armsAll])
  (show (WTm.eq .res (.lit (.bool true))).value [] { args:=args,res:=some (.bool true),after:=args }=some (.bool (true == true)) from w_eq_bool (w_res rfl) w_lit) rfl
theorem attach_call {l:OpenLaw}{n:Nat}{q:Program}{loose:List Str}{XP:(Str->Option Value)->Heap->Prop}{YP:World->Heap->Prop}{d:DefRec}
  (hn:l.most=some n) (hdf:d.params.defaults=[])
  (call:∀ (w:World) (s₀ s₁:Shared) (mg mb:Str->Option Value) (fa:Addr) (o:Obj) (pm cd doc:Value) (a:Addr) (vs:List Value) (ns:List Int),
   Ground q loose [] XP w s₀ mg mb s₁.heap->YP w s₁.heap ->
   s₁.heap.get? fa=some o->o.data = .func (docDef d.name d.params d.body d.scope pm cd doc)->s₁.heap.CodeRec cd d.name->mg d.name=some (.ref fa) ->
   s₁.heap.get? a=some { cls:=.type "list",data:=.seq vs.toArray }->IntsAre vs ns->ns.length<=n->s₁.gens = #[] ->
   codeAny (model l.prog w) callerA (.call (.ref fa) ⟨[.ref a],[]⟩) (fun r s'=>r = .ok (.ret (.bool true))/\OldK s₁.heap s'.heap/\s'.os=s₁.os/\AllBare s'.gens) s₁) :
  WalkO q loose XP YP l.row.toRowW d [] (fun f vs=>PySem.call f vs):=by
 intro w s₀ s₁ mg mb G Y fa o pm cd doc dV kV ho hd hcd hD hmg hg args vals as hpre hlay hrd hwl hlo;obtain rfl:dV = .none:=Dflts.none hD hdf;obtain rfl:kV = .none:=Dflts.noKw hD;obtain ⟨a,vs,ns,rfl,rfl,hobj,hints,hlen⟩:=Lr hn hpre hwl;refine enter_call (codeAny_mono (call w s₀ s₁ mg mb fa o pm cd doc a vs ns G Y ho (fd_plain hd) hcd hmg hobj hints hlen hg) fun r s' hq=>?_);obtain ⟨rfl,h2,h3,h4⟩:=hq;exact ⟨.inl ⟨.bool true,.bool true,[],rfl,fun _=>rfl,.bool true,M7 l _,fun _=>⟨List.Pairwise.nil,fun _ hm=>(nomatch hm)⟩⟩,h2,h3,h4⟩
end Att
namespace L2
open PySem PySem.Spec PyProof.Rows
theorem GB:∀ {vs:List Value}{ns:List Int},IntsAre vs ns->Vals (ns.map V.int) vs
 | _,_,.nil=>.nil
 | _,_,.cons n t h=>.cons ⟨t,rfl⟩ (GB h)
def Only (H:Hp):Prop:=∀ b,H b=none\/∃ o xs,H b=some (.frz o (.lst xs))
theorem law_call {P:Program}{w:World}{K:FZ9}{mg mb:Str->Option Value}{CX:CXT}{k:Nat}{fa a:Addr}{fd:FuncData}{x:Str}{sp:Sp}{s₁:Shared}{vs:List Value}{ns:List Int}
  (KX:K.In s₁.heap) (hns:s₁.heap.Ns mainGlobals mg) (hb:s₁.heap.Ns builtinsNs mb) (hbb:∀ x:Str,x ≠ "__name__" -> mb x=bootBuiltins x) (hlim:s₁.heap.NoLimit) (hg:s₁.gens = #[])
  (ha:s₁.heap.get? a=some { cls:=.type "list",data:=.seq vs.toArray }) (hi:IntsAre vs ns) (hl:ns.length<=sizeLine) (hr:Room k callerA)
  (F:∀ base:Heap,K.In base->base.Ns mainGlobals mg->FnOk P w K mg base CX k fa fd [x] sp) (hbind:∀ (s:Shared) (u:Value),BindsTo s fd ⟨[u],[]⟩ [(x,u)])
  (hsp:∀ H:Hp,Only H->SqL K H a (ns.map V.int)->sp [.ref a] H (fun v _=>v = .bl true) fun _ _ _=>False)
  (hCX:∀ H e s',CX [] H s₁ (fun _ _ _=>False) e s'->False) :
  codeAny (model P w) callerA (.call (.ref fa) ⟨[.ref a],[]⟩) (fun r s'=>r = .ok (.ret (.bool true))/\OldK s₁.heap s'.heap/\s'.os=s₁.os/\AllBare s'.gens) s₁:=by
 have rv:=GB hi;have lenV:=hi.length
 have core:∀ H:Hp,Only H->SqL K H a (ns.map V.int)->HOk P w H s₁.heap->(∀ b,H b≠none->b=a)->(H a≠none->K.lookup a=none) ->
   codeAny (model P w) callerA (.call (.ref fa) ⟨[.ref a],[]⟩) (fun r s'=>r = .ok (.ret (.bool true))/\OldK s₁.heap s'.heap/\s'.os=s₁.os/\AllBare s'.gens) s₁:=by
  intro H hO hS hok hA hK;have base_of:∀ {b:Addr}{o:Obj},s₁.heap.get? b=some o->H b=none->(JD s₁.heap H).get? b=some o:=fun e n=>hidT_get e n
  have noA:∀ {b:Addr}{o:Obj}{es:Array DictEntry}{ep:Nat},s₁.heap.get? b=some o->o.data = .dict es ep->H b=none:=fun {b o es ep} e d=>by
   cases q:H b with
   | none=>rfl
   | some u =>
    have e':b=a:=hA b (by rw [q];simp);subst e';rw [ha] at e;cases e;have d':Data.seq vs.toArray _=Data.dict es ep:=d;cases d'
  have nsK:∀ {b:Addr}{m:Str->Option Value},s₁.heap.Ns b m->(JD s₁.heap H).Ns b m:=fun {b m} ⟨o,es,ep,e,d,r⟩=>⟨o,es,ep,base_of e (noA e d),d,r⟩
  have hKb:K.In (JD s₁.heap H):=fun b o e=>base_of (KX b o e) (by
   cases q:H b with
   | none=>rfl
   | some u =>
    have e':b=a:=hA b (by rw [q];simp);subst e'
    rw [hK (by rw [q];simp)] at e;cases e)
  have hM:Mod K mg (JD s₁.heap H):=⟨hKb,nsK hns,⟨mb,nsK hb,hbb⟩,let ⟨mc,h1,h2⟩:=hlim;⟨mc,nsK h1,h2⟩⟩;have e0:Env0 P w K mg (JD s₁.heap H) callerA [] s₁ H:=⟨rfl,hM,fun b o e=>of_hidT e,Nat.le_of_eq (MK _ _),trivial,fun b hb=>absurd (show b∈([]:List Addr) from hb) (by simp),hok,.of_eq hg⟩;refine codeAny_mono ((F _ hKb (nsK hns)).run callerA [] s₁ H ⟨[.ref a],[]⟩ [.ref a] [.ref a] _ _ hr e0 (hbind s₁ (.ref a)) (.cons rfl .nil) (hsp H hO hS)) fun r s' h=>?_
  cases r with
  | error e=>exact (hCX H e s' h).elim
  | ok fl =>
   cases fl with
   | next=>exact False.elim h
   | brk=>exact False.elim h
   | cont=>exact False.elim h
   | ret u =>
    obtain ⟨v,H',os,bare,un,hok',r',q⟩:=h;have q':v = .bl true:=q;subst q';obtain rfl:u=Value.bool true:=r';refine ⟨rfl,OldK.of_keep fun b o e=>?_,os,bare⟩
    cases q:H b with
    | none=>exact un.keep b o e q (by intro z;exact absurd (show b∈([]:List Addr) from z) (by simp)) (by simp)
    | some u =>
     rcases hO b with z | ⟨ob,xs,z⟩
     ·rw [q] at z;cases z
     ·have z2:=un.frzs b ob _ z;obtain ⟨e1,_⟩:=hok b _ z;obtain ⟨e2,_⟩:=hok' b _ z2;rw [e] at e1;cases e1;exact e2
 cases hk:K.lookup a with
 | some o =>
  have e:=KX a o hk;rw [ha] at e;cases e;refine core (fun _=>none) (fun _=>.inl rfl) (.inr ⟨_,vs.toArray,_,hk,rfl,rfl,rfl,by rw [qkB,lenV];exact hl,by simpa using rv⟩) (fun b u z=>by have z':(none:Option HO)=some u:=z;cases z') (fun b z=>absurd rfl z) fun z=>absurd rfl z
 | none =>
  refine core (fun b=>if b=a then some (.frz { cls:=.type "list",data:=.seq vs.toArray } (.lst (ns.map V.int))) else none) (fun b=>?_) (.inl (.inr ⟨{ cls:=.type "list",data:=.seq vs.toArray },if_pos rfl⟩)) (fun b u z=>?_) (fun b z=>?_) fun _=>hk
  ·by_cases hb:b=a
   ·exact .inr ⟨_,_,if_pos hb⟩
   ·exact .inl (if_neg hb)
  ·by_cases hb:b=a
   ·have z':=(if_pos hb).symm.trans z;cases z';subst hb;exact ⟨ha,by rw [qeA];exact hl,vs,_,rv,ha⟩
   ·have z':=(if_neg hb).symm.trans z;cases z'
  ·by_cases hb:b=a
   ·exact hb
   ·exact absurd (if_neg hb) z
theorem walk_of {l:PySem.W.OpenLaw}{n k:Nat}{q:Program}{loose:List Str}{XP:(Str->Option Value)->Heap->Prop}{YP:World->Heap->Prop}{d:DefRec}{K:Params->FZ9}{CX:World->CXT}{sp:World->Sp}{x:Str}
  (hn:l.most=some n) (hn2:n<=sizeLine) (hdf:d.params.defaults=[]) (hr:Room k callerA)
  (hY:∀ (w:World) (h:Heap),YP w h->(K w.params).In h)
  (F:∀ (w:World) (mg:Str->Option Value) (fa:Addr) (h:Heap),(K w.params).In h->h.Ns mainGlobals mg->mg d.name=some (.ref fa) ->
   ∃ fd:FuncData,(∀ (s:Shared) (u:Value),BindsTo s fd ⟨[u],[]⟩ [(x,u)]) /\
    ∀ base:Heap,(K w.params).In base->base.Ns mainGlobals mg->FnOk l.prog w (K w.params) mg base (CX w) k fa fd [x] (sp w))
  (hsp:∀ (w:World) (H:Hp) (a:Addr) (ns:List Int),ns.length<=n->Only H->SqL (K w.params) H a (ns.map V.int)->sp w [.ref a] H (fun v _=>v = .bl true) fun _ _ _=>False)
  (hCX:∀ (w:World) (H:Hp) (s:Shared) (e:Value) (s':Shared),CX w [] H s (fun _ _ _=>False) e s'->False) :
  PySem.W.WalkO q loose XP YP l.row.toRowW d [] (fun f vs=>PySem.call f vs):=by
 refine Att.attach_call hn hdf fun w s₀ s₁ mg mb fa o pm cd doc a vs ns G Y ho hd hcd hmg hobj hints hlen hg=>?_;have KX:=hY w _ Y;obtain ⟨fd,hb,hF⟩:=F w mg fa _ KX G.T.g hmg;exact law_call KX G.T.g G.T.b G.T.builtins G.T.nolimit hg hobj hints (qyA hlen hn2) hr hF hb (fun H hO hS=>hsp w H a ns hlen hO hS) fun H e s'=>hCX w H s₁ e s'
def CY (s:Stmt):Arguments:=match s with
 | .FunctionDef _ a _ _ _ _ _ _ _ _=>a
 | _=>{ posonlyargs:=[],args:=[],vararg:=none,kwonlyargs:=[],kw_defaults:=[],kwarg:=none,defaults:=[] }
def BQ (s:Stmt):List Stmt:=match s with
 | .FunctionDef _ _ b _ _ _ _ _ _ _=>b
 | _=>[]
def AE (s:Stmt):Scope:=match s with
 | .FunctionDef _ _ _ _ _ _ sc _ _ _=>sc
 | _=>{ kind:=.function,names:=[],isGenerator:=false,isCoroutine:=false }
abbrev CX0:CXT:=fun _ _ _ _ _ _=>False
abbrev E0:XK:=fun _ _ _=>False
theorem pass0 {X:Cx}:KP CX0 X E0:=fun _ _ _ _ _ _ _ h=>h.elim
structure Fun (K:FZ9)(x qual:Str)(st:Stmt)(f:Addr)(fd:FuncData):Prop where
 ex:∃ (oc:Value) (od:Option Addr) (kV doc pm:Value) (an:Option Addr) (cdv ct:Value) (osl:Array (Option Value)),
  fd=qmB x qual (CY st) (BQ st) (AE st) .none kV doc pm an cdv ct/\K.lookup f=some ⟨oc,od,.func fd,osl⟩/\PySem.W.codeIn K cdv qual=true
 kp:PySem.W.keepIn K (.ref f)=true
section
variable {P:Program}{w:World}{K:FZ9}{mg:Str->Option Value}{base:Heap}
theorem Fun.ok {x qual:Str}{st:Stmt}{f:Addr}{fd:FuncData}{N ps:List Str}{k:Nat}{sp:Sp}(F:Fun K x qual st f fd)(S:FnScope N ps (AE st))(len:∀ vs H Q E,sp vs H Q E->vs.length=ps.length)
  (hbody:∀ (cdv:Value) (A:Around) (outer:List Env) (s:Shared) (H:Hp) (vs:List V) (Q:VK) (E:XK),Room k (A.deeper (envOfC qual (AE st) s.heap.objs.size f cdv))->sp vs H Q E ->
   ∃ t,PSs (Hi CX0 P w K mg base N qual (AE st) f cdv A outer s H E).nox (BQ st) t/\t { nx:=fun _ H'=>Q .non H',rt:=Q } (start N vs) H):FnOk P w K mg base CX0 (k+1) f fd ps sp:=by
 obtain ⟨oc,od,kV,doc,pm,an,cdv,ct,osl,rfl,lk,hcd⟩:=F.ex;refine fn_of lk hcd S len fun A outer s H vs Q E hr hsp=>?_;obtain ⟨t,h,q⟩:=hbody cdv A outer s H vs Q E hr hsp;exact ⟨t,h.nox,q⟩
theorem Fun.binds {x qual:Str}{st:Stmt}{f:Addr}{fd:FuncData}{ps:List Str}(F:Fun K x qual st f fd)
  (h:∀ (kV doc pm:Value) (an:Option Addr) (cdv ct:Value) (us:List Value),us.length=ps.length->bindArgs (qmB x qual (CY st) (BQ st) (AE st) .none kV doc pm an cdv ct) ⟨us,[]⟩=pure (ps.zip us)):Binds K fd ps []:=by
 obtain ⟨oc,od,kV,doc,pm,an,cdv,ct,osl,rfl,lk,hcd⟩:=F.ex;exact .all (h kV doc pm an cdv ct)
theorem fun_mk {x qual:Str}{st:Stmt}{f:Addr}{oc:Value}{od an:Option Addr}{osl:Array (Option Value)}{kV doc pm cdv ct:Value}(l:K.lookup f=some ⟨oc,od,.func (qmB x qual (CY st) (BQ st) (AE st) .none kV doc pm an cdv ct),osl⟩)
  (c:PySem.W.codeIn K cdv qual=true) (k:PySem.W.keepIn K (.ref f)=true):Fun K x qual st f (qmB x qual (CY st) (BQ st) (AE st) .none kV doc pm an cdv ct):=⟨⟨oc,od,kV,doc,pm,an,cdv,ct,osl,rfl,l,c⟩,k⟩
end
section
variable {X:Cx}
theorem pv (i:Nat){x:Str}{pos:Pos}(hN:X.N[i]? = some x:=by rfl)(hv:Vis X.env.scope x:=by first|exact Or.inl rfl|exact Or.inr (Or.inl rfl)|exact Or.inr (Or.inr rfl))(hd:(x == ("__debug__" : Str))=false:=by decide)
  (hcd:(x == ("__classdict__" : Str))=false:=by decide):PE X (.Name x pos) (Ii i):=pe_var hN hv hd hcd
end
theorem BX {A B:Prop}(h:B):if false=true then A else B:=by
 rw [if_neg qjB];exact h
theorem BW {A B:Prop}(h:A):if true=true then A else B:=by
 rw [if_pos rfl];exact h
def Same (H H':Hp):Prop:=∀ b o,H b=some o->H' b=some o
theorem Same.refl (H:Hp):Same H H:=fun _ _ h=>h
theorem Same.trans {H H1 H2:Hp}(a:Same H H1)(b:Same H1 H2):Same H H2:=fun c o h=>b c o (a c o h)
theorem Same.free {H H':Hp}(e:Same H H'){l:Addr}(h:H' l=Option.none):H l=Option.none:=by
 cases q:H l with
 | none=>rfl
 | some o =>
  rw [e l o q] at h;cases h
theorem Same.seq {K:FZ9}{H H':Hp}{a:Addr}{xs:List V}(e:Same H H')(h:SqL K H a xs):SqL K H' a xs:=by
 rcases h with (h | ⟨o,h⟩)|h
 ·exact .inl (.inl (e _ _ h))
 ·exact .inl (.inr ⟨o,e _ _ h⟩)
 ·exact .inr h
theorem len_app (x y:Str):(x++y).length=x.length+y.length:=by
 show (x.cps++y.cps).size=_;rw [Array.size_append]
 rfl
theorem LJ (a b:Nat):([a] < [b]) ↔ a<b:=by
 rw [List.cons_lt_cons_iff];simp
def Gp (scope:Scope)(env:Env):List (Str × Addr) :=
 (scope.names.filterMap fun p=>if p.2 == NameKind.free then (env.cells.lookup p.1).map fun c=>(p.1,c) else none).reverse
theorem Ds {env:Env}:∀ (names:List (Str × NameKind)) (acc:List (Str × Addr)),(∀ y∈names,y.2 = .free->∃ c,env.cells.lookup y.1=some c) ->
  (forIn names acc fun (x:Str × NameKind) (cs:List (Str × Addr))=>(match x with
   | (name,kind)=>if (kind == NameKind.free)=true then do
     let c <- cellOf env name
     pure (ForInStep.yield ((name,c)::cs))
    else pure (ForInStep.yield cs):Sem (ForInStep (List (Str × Addr))))) =
   pure ((names.filterMap fun p=>if p.2 == NameKind.free then (env.cells.lookup p.1).map fun c=>(p.1,c) else none).reverse++acc)
 | [],acc,_=>rfl
 | (n,k)::r,acc,h=>by
  rw [List.forIn_cons];by_cases hk:k = .free
  ·subst hk;obtain ⟨c,hc⟩:=h (n,.free) qpA rfl;have e1:cellOf env n=pure c:=by unfold cellOf;rw [hc]
   have ih:=Ds r ((n,c)::acc) fun y hy=>h y (qqA _ hy);simp only [beq_self_eq_true,if_true,e1,pure_bind,List.filterMap_cons,hc,Option.map_some,List.reverse_cons,List.append_assoc,List.singleton_append];exact ih
  ·have hb:(k == NameKind.free)=false:=by simpa using hk
   have ih:=Ds r acc fun y hy=>h y (qqA _ hy);simp only [hb,Bool.false_eq_true,if_false,pure_bind,List.filterMap_cons];exact ih
theorem Hl {scope:Scope}{env:Env}(h:∀ y∈scope.names,y.2 = .free->∃ c,env.cells.lookup y.1=some c):closureFor scope env=pure (Gp scope env):=by
 have e:=Ds (env:=env) scope.names [] h;unfold closureFor;rw [List.append_nil] at e;exact (congrArg (· >>= pure) e).trans (by rfl)
theorem clOf_mem {scope:Scope}{env:Env}{y:Str}{c:Addr}(h:(y,c)∈Gp scope env):(y,NameKind.free)∈scope.names/\env.cells.lookup y=some c:=by
 unfold Gp at h;obtain ⟨⟨n,k⟩,hp,e⟩:=List.mem_filterMap.mp (List.mem_reverse.mp h);by_cases hk:k = .free
 ·subst hk;simp only [beq_self_eq_true,if_true] at e
  cases hc:env.cells.lookup n with
  | none=>rw [hc] at e;cases e
  | some c' =>
   rw [hc] at e;have e':(n,c')=(y,c):=qaB e;cases e';exact ⟨hp,hc⟩
 ·have hb:(k == NameKind.free)=false:=by simpa using hk
  simp only [hb,Bool.false_eq_true,if_false] at e;cases e
theorem Df {scope:Scope}{env:Env}{y:Str}{c:Addr}(h:(Gp scope env).lookup y=some c):env.cells.lookup y=some c:=(clOf_mem (PySem.mem_of_lookup h)).2
theorem F9 {α:Type}{y:Str}:∀ {l:List (Str × α)}{c:α},(y,c)∈l->∃ c',l.lookup y=some c'
 | (n,a)::r,c,h=>by
  by_cases e:y=n
  ·subst e;exact ⟨a,by simp [List.lookup_cons]⟩
  ·have hb:(y == n)=false:=by simpa using e
   rcases qmA.mp h with h|h
   ·cases h;exact absurd rfl e
   ·obtain ⟨c',h'⟩:=F9 h;exact ⟨c',by simp [List.lookup_cons,hb,h']⟩
theorem K8 {scope:Scope}{env:Env}{y:Str}{c:Addr}(h1:(y,NameKind.free)∈scope.names)(h2:env.cells.lookup y=some c):(Gp scope env).lookup y=some c:=by
 have m:(y,c)∈Gp scope env:=by
  unfold Gp;exact List.mem_reverse.mpr (List.mem_filterMap.mpr ⟨(y,.free),h1,by simp [h2]⟩)
 obtain ⟨c',h'⟩:=F9 m;have:=Df h';rw [h2] at this;cases this;exact h'
theorem JI {scope:Scope}{env:Env}(hcell:∀ y∈scope.names,y.2 ≠ .cell){y:Str}(h:(relabel scope env).names.lookup y=some .cell\/(relabel scope env).names.lookup y=some .free):(y,NameKind.free)∈scope.names:=by
 have m:∃ k,(k = .cell\/k = .free)/\(y,k)∈(relabel scope env).names:=by
  rcases h with h|h
  ·exact ⟨_,.inl rfl,PySem.mem_of_lookup h⟩
  ·exact ⟨_,.inr rfl,PySem.mem_of_lookup h⟩
 obtain ⟨k,hk,hm⟩:=m;unfold relabel at hm;obtain ⟨⟨n,k'⟩,hp,e⟩:=qnA.mp hm;dsimp only at e;by_cases hf:k' = .free
 ·subst hf;split at e<;>(cases e;exact hp)
 ·have hb:(k' == NameKind.free)=false:=by simpa using hf
  rw [hb,Bool.false_and,Bool.false_and,if_neg (by decide)] at e;cases e;rcases hk with hk|hk
  ·exact absurd hk (hcell _ hp)
  ·exact absurd hk hf
def C0 (X:Cx)(N:List Str)(scope:Scope)(C:Addr)(s:Shared)(H:Hp)(fp:List Addr):Cx where
 prog:=X.prog
 w:=X.w
 K:=X.K
 mg:=X.mg
 base:=X.base
 A:=X.A
 N:=N
 s₀:=s
 H₀:=H
 env:=compEnvC scope (Gp scope X.env) C X.env
 outer:=X.stack
 stack:=X.stack
 ex:=fp
 fn:=fun _=>false
 calm:=true
 pn:=[]
 xe:=fun _ _=>False
def Caps (X:Cx)(scope:Scope):List Str->List Nat->Prop
 | [],[]=>True
 | x::xs,i::is=>(X.N[i]? = some x/\(X.env.scope.names.lookup x=some .cell\/X.env.scope.names.lookup x=some .free)/\scope.names.lookup x=some .free)/\Caps X scope xs is
 | _,_=>False
theorem Caps.len {X:Cx}{scope:Scope}:∀ {xs:List Str}{is:List Nat},Caps X scope xs is->is.length=xs.length
 | [],[],_=>rfl
 | _::_,_::_,h=>congrArg (· + 1) (Caps.len h.2)
 | [],_::_,h=>h.elim
 | _::_,[],h=>h.elim
theorem Caps.at {X:Cx}{scope:Scope}:∀ {xs:List Str}{is:List Nat}{j:Nat}{x:Str},Caps X scope xs is->xs[j]? = some x->∃ i,is[j]? = some i/\X.N[i]? = some x/\(X.env.scope.names.lookup x=some .cell\/X.env.scope.names.lookup x=some .free)/\scope.names.lookup x=some .free
 | [],[],_,_,_,e=>by simp at e
 | y::_,i::_,0,x,h,e=>by
  simp at e;subst e;exact ⟨i,rfl,h.1⟩
 | _::xs,_::is,j+1,x,h,e=>by
  obtain ⟨i,h1,h2⟩:=Caps.at (j:=j) h.2 (by simpa using e);exact ⟨i,by simpa using h1,h2⟩
 | [],_::_,_,_,h,_=>h.elim
 | _::_,[],_,_,h,_=>h.elim
def Cj (cap:List Nat)(σ:St):St:=none::cap.map fun i=>(σ[i]?).join
def PTs (X:Cx)(ifs:List Expr)(t:TT):Prop :=
 ∀ (pins:List (Addr × Obj)) (s:Shared) (σ:St) (H:Hp) (Q:Bool->Hp->Prop),Inv X pins σ H s->t σ H Q ->
  wpAny (model X.prog X.w) X.A (forIn ifs true fun c r=>if r=true then do let ok <- isTrue c X.env (eval c X.env);pure (ForInStep.yield ok) else pure (ForInStep.yield r)) (TP X pins σ Q) X.xe s
def tYes:TT:=fun _ H Q=>Q true H
theorem Ba {X:Cx}:PTs X [] tYes:=fun _ _ _ H _ I h=>wpAny_tests_nil ⟨H,I,h⟩
theorem pts_one {X:Cx}{c:Expr}{t:TT}(h:PT X c t):PTs X [c] t:=fun pins s σ H Q I q=>wpAny_tests_one (h pins s σ H Q I q)
theorem J0 {prog:Program}{w:World}{A:Around}{R:Result->Shared->Prop}{s:Shared}{elt target iter:Expr}{ifs:List Expr}{scope:Scope}{pos:Pos}{it acc:Value}{env:Env}(I:Nat->Shared->Prop)
  (turn:∀ n s,I n s->wpAny (model prog w) A (pyNext it) (fun r s₁=>match r with
   | none=>R (.ok .next) s₁
   | some v=>wpAny (model prog w) A (letOwnedTupleGo target it v) (fun _ s₁'=>wpAny (model prog w) A (assign target env v) (fun _ s₂ =>
     wpAny (model prog w) A (forIn ifs true fun c r=>if r=true then do let ok <- isTrue c env (eval c env);pure (ForInStep.yield ok) else pure (ForInStep.yield r)) (fun ok s₃ =>
      if ok=true then wpAny (model prog w) A (eval elt env) (fun x s₄ =>
       wpAny (model prog w) A (call (.builtin "list.append") [acc,x]) (fun _ s₅=>∃ m,m<n/\I m s₅) (fun _ _=>False) s₄) (fun _ _=>False) s₃
      else ∃ m,m<n/\I m s₃) (fun _ _=>False) s₂) (fun _ _=>False) s₁') (fun _ _=>False) s₁) (fun _ _=>False) s)
  (n:Nat) (h:I n s) :
  codeAny (model prog w) A (.compLoop (.ListComp elt [⟨target,iter,ifs,0⟩] scope pos) 0 it acc env) R s:=by
 refine codeAny_loop rfl I (fun n s hI=>?_) n h;show wpAny _ A ((compTurn (.ListComp elt [⟨target,iter,ifs,0⟩] scope pos) 0 it acc env).onRaise (fun x=>do noteFrame x env;theTreesLotGoes x)) _ _ s;refine wpAny_noted ?_;rw [compTurn_list];refine qbA (wpAny_standAt (qbA (wpAny_mono (turn n s hI) (fun r s₁ h₁=>?_) fun _ _ h'=>h'.elim)))
 cases r with
 | none=>exact qcA h₁
 | some v =>
  refine qbA (wpAny_mono h₁ (fun _ s₁' h₁'=>?_) fun _ _ h'=>h'.elim);refine qbA (wpAny_mono h₁' (fun _ s₂ h₂=>qbA (wpAny_mono h₂ (fun ok s₃ h₃=>?_) fun _ _ h'=>h'.elim)) fun _ _ h'=>h'.elim)
  cases ok with
  | false=>exact qcA ⟨rfl,h₃⟩
  | true =>
   exact qbA (qbA (wpAny_mono h₃ (fun x s₄ h₄=>qbA (wpAny_mono h₄ (fun _ s₅ h₅=>qcA (qcA ⟨rfl,h₅⟩)) fun _ _ h'=>h'.elim)) fun _ _ h'=>h'.elim))
def LB (cap:List Nat)(wi:TI)(tc:TT)(te:TE):TE:=fun σ H Q=>wi σ H fun J H1=>∀ p,H1 p=none ->
 ∃ W:Nat->Nat->List V->Hp->Prop,(∃ m,W 0 m [] (upd H1 p (.lst [])))/\∀ i m xs H2,W i m xs H2 ->
  (J.stop i H2/\Q (.ref p) H2)\/(J.go i H2/\∃ N:List V->Hp->Prop,(∀ xs' H',N xs' H'->∃ m',m'<m/\W (i+1) m' xs' H') /\
   ∀ x H3,J.yld i H2 x H3->tc ((Cj cap σ).set 0 (some x)) H3 fun b H5=>if b=true then te ((Cj cap σ).set 0 (some x)) H5 fun v H6=>H6 p=some (.lst xs)/\xs.length<sizeLine/\N (xs++[v]) (upd H6 p (.lst (xs++[v]))) else N xs H5)
section
variable {X:Cx}{pins:List (Addr × Obj)}{σ:St}
structure CompScope (X:Cx)(scope:Scope):Prop where
 cell:∀ y∈scope.names,y.2 ≠ .cell
 kind:scope.kind = .function
 names:∀ y∈scope.names,y.2 = .local -> scope.names.lookup y.1=some .local
 free:∀ y∈scope.names,y.2 = .free->X.env.scope.names.lookup y.1=some .cell\/X.env.scope.names.lookup y.1=some .free
theorem CompScope.clos {scope:Scope}{H:Hp}{s:Shared}(S:CompScope X scope)(I:Inv X pins σ H s):closureFor scope X.env=pure (Gp scope X.env) :=
 Hl fun y hy hf=>I.ok.has y.1 (S.free y hy hf)
theorem Kh {scope:Scope}{x:Str}{cn:List Str}{cap:List Nat}{s3:Shared}{H3:Hp}{fp:List Addr}{h₁:Heap}{tk:Nat}{H2:Hp}(S:CompScope X scope)(I:Inv X pins σ H3 s3)(hc:X.calm=true)(hcap:Caps X scope cn cap)
  (f2:∀ b∈fp,HX X pins H2 b) (lt:∀ b∈fp,b<s3.heap.objs.size) (keep:∀ b o,s3.heap.get? b=some o->h₁.get? b=some o) (hns:h₁.Ns s3.heap.objs.size fun _=>none) :
  Inv (C0 X (x::cn) scope s3.heap.objs.size s3 H3 fp) [] (Cj cap σ) H3 { s3 with heap:=h₁,toks:=tk }:=by
 have noS:∀ b o,X.base.get? b=some o->b<X.s₀.heap.objs.size:=fun b o e=>qqB (qbB e) I.ok.bsz
 refine ⟨⟨I.ok.mod,S.kind,I.ok.glob,I.ok.blt,qxA _,fun y z c h1 h2=>I.ok.inj y z c (Df h1) (Df h2),fun y hy=>?_,fun y c h=>?_,fun _=>I.ok.hd hc,I.ok.frames,.inl rfl,fun b hb=>⟨qoB (lt b hb),fun y c h=>(f2 b hb).2.2.2.2.1 y c (Df h)⟩,
  I.bs,qyA I.ok.bsz I.sz,fun b o e hb=>?_,fun b hb z=>?_,I.stack,I.stkFree⟩,rfl,I.bare,Un.kept keep,⟨_,hns,fun i y v e1 e2 e3=>?_⟩,fun y c e=>?_,I.hok.fresh (qxA _),fun y c e=>I.freeC y c (Df e),fun p hp=>absurd (show p∈([]:List (Addr × Obj)) from hp) (by simp),I.hok.kept keep,?_⟩
 ·have m:=JI S.cell hy;obtain ⟨c,hc'⟩:=I.ok.has y (S.free _ m rfl);exact ⟨c,K8 m hc'⟩
 ·cases h
 ·rcases (f2 b hb).2.2.2.1 with z|z
  ·exact I.ok.noex b o e z
  ·exact absurd (qqB (noS b o e) z) (qzA _)
 ·rcases qmA.mp (I.stkSub b z) with e|e
  ·exact (f2 b hb).2.1 e
  ·exact (f2 b hb).2.2.1 e
 ·cases i with
  | zero =>
   have e2:(some none:Option (Option V))=some (some v):=e2;cases e2
  | succ j =>
   have e1:cn[j]? = some y:=e1;obtain ⟨k,hk,hN,hkind,hfr⟩:=hcap.at e1;have e2:(cap.map fun i=>(σ[i]?).join)[j]? = some (some v):=e2;rw [List.getElem?_map,hk] at e2;have e2:(σ[k]?).join=some v:=qaB e2
   have e2:σ[k]? = some (some v):=by
    cases q:σ[k]? with
    | none=>rw [q] at e2;cases e2
    | some o=>rw [q] at e2;cases o with
     | none=>cases e2
     | some v'=>have e2:some v'=some v:=e2;rw [e2]
   obtain ⟨m,hn,hl⟩:=I.loc;obtain ⟨u,r,l⟩:=hl k y v hN e2 (.inr hkind);refine ⟨u,r,?_⟩;rcases l with ⟨kl,_⟩ | ⟨_,c,hc',o,ho,hd⟩
   ·have kl:X.env.scope.names.lookup y=some .local := kl;rw [kl] at hkind;rcases hkind with z|z<;>cases z
   ·refine .inr ⟨?_,c,K8 (PySem.mem_of_lookup hfr) hc',o,keep c o ho,hd⟩;rcases e3 with z|z
    ·
     exfalso;have z:(relabel scope X.env).names.lookup y=some .local := z;have hm:=PySem.mem_of_lookup z;unfold relabel at hm;obtain ⟨⟨n,k'⟩,hp,e⟩:=qnA.mp hm;dsimp only at e
     have hl2:(y,NameKind.local)∈scope.names:=by
      split at e
      ·cases e
      ·cases e;exact hp
     have:=S.names _ hl2 rfl;rw [hfr] at this;cases this
    ·exact z
 ·obtain ⟨v,o,ho,hd⟩:=I.cell y c (Df e);exact ⟨v,o,keep c o ho,hd⟩
 ·show (Cj cap σ).length=(x::cn).length;unfold Cj;rw [qgA,qeA,hcap.len,qgA]
theorem K0 {scope:Scope}{N:List Str}{C:Addr}{s3 s':Shared}{H2 H3 Hf:Hp}{fp:List Addr}{pins':List (Addr × Obj)}{σ':St}(I:Inv X pins σ H3 s3)(J:Inv (C0 X N scope C s3 H3 fp) pins' σ' Hf s')(f2:∀ b∈fp,HX X pins H2 b):Inv X pins σ Hf s' :=
 I.call' (ch:=fp) J.os J.base J.hok J.bare fun b hb=>⟨(f2 b hb).2.2.2.1,(f2 b hb).2.1,(f2 b hb).2.2.2.2.1,(f2 b hb).2.2.2.2.2⟩
theorem IM {scope:Scope}{x:Str}{px pos:Pos}{elt iter:Expr}{ifs:List Expr}{cn:List Str}{cap:List Nat}{s2:Shared}{H2:Hp}{it:Addr}{fp:List Addr}{tn:Nat->Heap->Prop}{J:It}{tc:TT}{te:TE}{Q:VK}{RR:Value->Addr->Result->Shared->Prop}{E:Value->Shared->Prop}
  (S:CompScope X scope) (I2:Inv X pins σ H2 s2) (hc:X.calm=true) (hcap:Caps X scope cn cap) (hx:scope.names.lookup x=some .local) (hnd:(x::cn).Nodup)
  (T:Turn X.prog X.w X.K (.Name x px) J fp it tn) (st2:tn 0 s2.heap) (f2:∀ b∈fp,HX X pins H2 b)
  (body:∀ (C:Addr) (s:Shared) (H:Hp) (fp:List Addr),PTs (C0 X (x::cn) scope C s H fp) ifs tc/\PE (C0 X (x::cn) scope C s H fp) elt te)
  (q:∀ p,H2 p=none->∃ W:Nat->Nat->List V->Hp->Prop,(∃ m,W 0 m [] (upd H2 p (.lst [])))/\∀ i m xs H3,W i m xs H3 ->
   (J.stop i H3/\Q (.ref p) H3)\/(J.go i H3/\∃ N:List V->Hp->Prop,(∀ xs' H',N xs' H'->∃ m',m'<m/\W (i+1) m' xs' H') /\
    ∀ v H4,J.yld i H3 v H4->tc ((Cj cap σ).set 0 (some v)) H4 fun b H5=>if b=true then te ((Cj cap σ).set 0 (some v)) H5 fun v H6=>H6 p=some (.lst xs)/\xs.length<sizeLine/\N (xs++[v]) (upd H6 p (.lst (xs++[v]))) else N xs H5))
  (hRR:∀ (p C:Addr) (s3 s':Shared) (H3 Hf:Hp) (σ':St),Inv X pins σ H3 s3->s3.heap.objs.size=C->Inv (C0 X (x::cn) scope C s3 H3 fp) [] σ' Hf s'->Q (.ref p) Hf->RR (.ref p) C (.ok .next) s') :
  wpAny (model X.prog X.w) X.A (newList []) (fun acc s₃=>wpAny (model X.prog X.w) X.A (newFunctionEnv scope X.env.globals (Gp scope X.env) [] X.env.qual none .none (some X.env)) (fun cenv s₄ =>
   codeAny (model X.prog X.w) X.A (.compStart (.ListComp elt [⟨.Name x px,iter,ifs,0⟩] scope pos) 0 (.ref it) acc { cenv with scope:=relabel scope X.env }) (RR acc cenv.locals) s₄) E s₃) E s2:=by
 refine wpAny_newObj_type (wpAny_newFunctionEnv S.cell (by intro y hy;simp at hy) (fun h₁ hns₁ hsb₁=>?_) S.kind);dsimp only at hns₁ hsb₁ ⊢;have hfr:H2 s2.heap.objs.size=none:=I2.hok.fresh (qxA _);obtain ⟨W,⟨m0,w0⟩,turn⟩:=q _ hfr
 have I3:Inv X pins σ (upd H2 s2.heap.objs.size (.lst [])) { s2 with heap:=s2.heap.push { cls:=.type "list",data:=.seq ([]:List Value).toArray } } :=
  I2.lnew (its:=[]) (t':=s2.toks) .nil (qsB _)
 generalize hs3:({ s2 with heap:=s2.heap.push { cls:=.type "list",data:=.seq ([]:List Value).toArray } }:Shared)=s3 at I3;have hs3h:s3.heap=s2.heap.push { cls:=.type "list",data:=.seq ([]:List Value).toArray }:=by rw [<- hs3]
 have hst3:tn 0 s3.heap:=T.keep _ _ _ st2 fun b hb o e=>by rw [hs3h];exact qcB _ e
 have ltf:∀ b∈fp,b<s3.heap.objs.size:=fun b hb=>by
  obtain ⟨o,e,_⟩:=T.obj _ _ hst3 b hb;exact qbB e
 have hC:(s2.heap.push { cls:=.type "list",dict:=none,data:=.seq ([]:List Value).toArray }).objs.size=s3.heap.objs.size:=by rw [hs3h]
 rw [hC] at hns₁ hsb₁ ⊢
 have keep:∀ b o,s3.heap.get? b=some o->h₁.get? b=some o:=fun b o e=>by
  refine hsb₁.extBut b o (qoB (qbB e)) (qcB _ ?_);rw [hs3h] at e;exact e
 have J4:Inv (C0 X (x::cn) scope s3.heap.objs.size s3 (upd H2 s2.heap.objs.size (.lst [])) fp) [] (Cj cap σ) (upd H2 s2.heap.objs.size (.lst [])) { s3 with heap:=h₁,toks:=s2.toks+([]:List (Str × Value)).length } :=
  Kh S I3 hc hcap f2 ltf keep hns₁
 have st4:tn 0 h₁:=T.keep _ _ _ hst3 fun b hb o e=>keep b o e
 have fr4:∀ b∈fp,(upd H2 s2.heap.objs.size (.lst [])) b=none:=fun b hb=>by
  obtain ⟨o,e,_⟩:=T.obj _ _ st2 b hb;rw [Ak (qoB (qbB e))];exact (f2 b hb).1
 have hst:({ s2 with heap:=h₁,toks:=s2.toks+([]:List (Str × Value)).length }:Shared) = { s3 with heap:=h₁,toks:=s2.toks+([]:List (Str × Value)).length }:=by rw [<- hs3]
 have loop:codeAny (model X.prog X.w) X.A (.compLoop (.ListComp elt [⟨.Name x px,iter,ifs,0⟩] scope pos) 0 (.ref it) (.ref s2.heap.objs.size) (compEnvC scope (Gp scope X.env) s3.heap.objs.size X.env))
   (RR (.ref s2.heap.objs.size) s3.heap.objs.size) { s2 with heap:=h₁,toks:=s2.toks+([]:List (Str × Value)).length }:=by
  rw [hst];generalize hX':C0 X (x::cn) scope s3.heap.objs.size s3 (upd H2 s2.heap.objs.size (.lst [])) fp=X' at J4
  have hfpk:∀ {Hc:Hp},(∀ b∈fp,Hc b=none)->∀ b∈fp,HX X' [] Hc b:=fun {Hc} hn b hb=>by
   subst hX';refine ⟨hn b hb,(J4.ok.exf b hb).1,J4.ok.exfs b hb,.inl hb,(J4.ok.exf b hb).2,fun p hp=>absurd (show p∈([]:List (Addr × Obj)) from hp) (by simp)⟩
  refine J0 (fun n s'=>∃ i xs Hc,Inv X' [] (Cj cap σ) Hc s'/\tn i s'.heap/\(∀ b∈fp,Hc b=none)/\W i n xs Hc) ?_ m0 ⟨0,[],_,J4,st4,fr4,w0⟩;rintro n s5 ⟨i,xs,Hc,I5,st5,fr5,w5⟩;have B:=body s3.heap.objs.size s3 (upd H2 s2.heap.objs.size (.lst [])) fp;rcases turn i n xs Hc w5 with ⟨stop,qn⟩ | ⟨go,N,hN,step⟩
  ·subst hX';refine thn (T.done (C0 X (x::cn) scope s3.heap.objs.size s3 (upd H2 s2.heap.objs.size (.lst [])) fp) rfl rfl rfl rfl i [] s5 (Cj cap σ) Hc (fun _ _=>False) I5 (hfpk fr5) st5 stop) fun r s6 ⟨hr,I6⟩=>?_;subst hr;exact hRR _ _ s3 s6 _ Hc _ I3 rfl I6 qn
  ·subst hX';refine thn (T.item (C0 X (x::cn) scope s3.heap.objs.size s3 (upd H2 s2.heap.objs.size (.lst [])) fp) rfl rfl rfl rfl i [] s5 (Cj cap σ) Hc (fun _ _=>False) I5 (hfpk fr5) st5 go) fun r s6 ⟨u,hr,h6⟩=>?_;subst hr;refine thn h6 fun _ s7 ⟨v,H7,I7,r7,y7,st7,fr7⟩=>?_;have I7':=I7.pinned (hfpk fr7) (T.obj _ _ st7);have hlook:(relabel scope X.env).names.lookup x=some .local := lookup_relabel_local hx;refine wpAny_assign_Name (Gm (X:=C0 X (x::cn) scope s3.heap.objs.size s3 (upd H2 s2.heap.objs.size (.lst [])) fp) I7' (i:=0) hnd rfl (.inl hlook) r7 (fun s8 I8=>?_) (.inr hlook))
   have again:∀ {s9:Shared}{H9:Hp}{ys:List V},Inv (C0 X (x::cn) scope s3.heap.objs.size s3 (upd H2 s2.heap.objs.size (.lst [])) fp) ([]++Hg fp s7.heap) ((Cj cap σ).set 0 (some v)) H9 s9->N ys H9 ->
     ∃ m,m<n/\∃ i xs Hc,Inv (C0 X (x::cn) scope s3.heap.objs.size s3 (upd H2 s2.heap.objs.size (.lst [])) fp) [] (Cj cap σ) Hc s9/\tn i s9.heap/\(∀ b∈fp,Hc b=none)/\W i m xs Hc:=fun {s9 H9 ys} I9 n9=>by
    obtain ⟨m',hm,w9⟩:=hN ys H9 n9;refine ⟨m',hm,i+1,ys,H9,(I9.unpinned (pins:=[])).weak (by simp [Cj]) (fun j w e=>?_),T.keep _ _ _ st7 fun b hb o e=>(I9.pin (b,o) (qrB _ (qrB _ (Du hb e)))).1,fun b hb=>?_,w9⟩
    ·cases j with
     | zero =>
      have e:(some none:Option (Option V))=some (some w):=e;cases e
     | succ j=>exact e
    ·obtain ⟨o,e,_⟩:=T.obj _ _ st7 b hb;exact (I9.pin (b,o) (qrB _ (qrB _ (Du hb e)))).2.1
   refine thn (B.1 _ s8 _ H7 _ I8 (step v H7 y7)) fun ok s9 ⟨H9,I9,q9⟩=>?_
   cases ok with
   | false =>
    rw [if_neg qjB] at q9 ⊢;exact again I9 q9
   | true =>
    rw [if_pos rfl] at q9 ⊢;refine thn (B.2 _ s9 _ H9 _ I9 q9) fun uy s10 ⟨y,H10,I10,r10,hp,hl,n10⟩=>?_;refine thn (ID _ s10 _ H10 (.ref s2.heap.objs.size) [y] (.ref s2.heap.objs.size) [uy] (fun _ H11=>N (xs++[y]) H11) I10 rfl (.cons r10 .nil) ⟨_,xs,y,rfl,rfl,hp,hl,n10⟩) fun _ s11 ⟨_,H11,I11,_,n11⟩=>?_;exact again I11 n11
 exact codeAny_compStart_list loop (T.self _ _ _ _ _ st4 loop)
theorem C5 {scope:Scope}{x:Str}{px pos:Pos}{elt iter:Expr}{ifs:List Expr}{cn:List Str}{cap:List Nat}{wi:TI}{tc:TT}{te:TE}
  (hc:X.calm=true) (S:CompScope X scope) (hx:scope.names.lookup x=some .local) (hnd:(x::cn).Nodup) (hcap:Caps X scope cn cap) (hi:PI X (.Name x px) iter wi)
  (body:∀ (C:Addr) (s:Shared) (H:Hp) (fp:List Addr),PTs (C0 X (x::cn) scope C s H fp) ifs tc/\PE (C0 X (x::cn) scope C s H fp) elt te)
  (hs:∀ x,foldedSetIterable iter X.env x=pure x:=by intro _;rfl):PE X (.ListComp elt [⟨.Name x px,iter,ifs,0⟩] scope pos) (LB cap wi tc te):=by
 intro pins s σ H Q I h;rw [eval_ListComp];refine wpAny_comprehension_free (use:=none) rfl hs (S.clos I) S.kind S.names (thn (hi pins s σ H _ I h) fun xv s1 h1=>thn h1 fun itv s2 h2=>?_);obtain ⟨it,fp,tn,J,H2,e,I2,T,st2,f2,q⟩:=h2;subst e;refine IM (RR:=fun acc C=>compPost (model X.prog X.w) X.A X.xe none (EP X pins σ Q) acc C) S I2 hc hcap hx hnd T st2 f2 body q ?_;intro p C s3 s' H3 Hf σ' I3 hC J' qf;subst hC;have I4:=K0 I3 J' f2;obtain ⟨m,hn,_⟩:=J'.loc;refine ⟨m,hn,fun h' hs'=>?_⟩;refine ⟨.ref p,Hf,?_,rfl,qf⟩;have f:=I3.fpOk (H':=Hf) (qxA _) J'.free;exact I4.turned (t':=s'.toks) (it:=s3.heap.objs.size) (fun b o hb e=>(hs'.2 b hb).trans e) f.1 f.2.1 f.2.2.2.1 f.2.2.2.2.1 f.2.2.2.2.2
theorem EL {scope:Scope}{x y:Str}{px py pos spos:Pos}{elt iter:Expr}{ifs:List Expr}{cn:List Str}{cap:List Nat}{wi:TI}{tc:TT}{te:TE}{i:Nat}
  (hN:X.N.Nodup) (hi:X.N[i]? = some y) (hy:Loc X.env.scope y) (hc:X.calm=true) (S:CompScope X scope) (hx:scope.names.lookup x=some .local) (hnd:(x::cn).Nodup) (hcap:Caps X scope cn cap) (hit:PI X (.Name x px) iter wi)
  (body:∀ (C:Addr) (s:Shared) (H:Hp) (fp:List Addr),PTs (C0 X (x::cn) scope C s H fp) ifs tc/\PE (C0 X (x::cn) scope C s H fp) elt te)
  (hsw:swapsWith (.ListComp elt [⟨.Name x px,iter,ifs,0⟩] scope pos) (some (.Name y py)) spos.line X.env=pure true:=by rfl)
  (hf:X.fn y=true\/X.env.scope.names.lookup y=some .local := by first|exact .inl rfl|exact .inr rfl|assumption)
  (hs:∀ x,foldedSetIterable iter X.env x=pure x:=by intro _;rfl):PS X (.Assign [.Name y py] (.ListComp elt [⟨.Name x px,iter,ifs,0⟩] scope pos) spos) (HG (LB cap wi tc te) (De i)):=by
 intro pins s σ H D I h;rw [exec_Assign_Name_used _ _ _ _ hsw];refine qbA (wpAny_standAt (qbA ?_));show wpAny _ X.A (do let _ <- comprehension (.ListComp elt [⟨.Name x px,iter,ifs,0⟩] scope pos) scope X.env _ (newList []) false (eval iter X.env) (some (assign (.Name y py) X.env))) _ _ s
 refine qbA (wpAny_mono (wpAny_comprehension_free (use:=some (assign (.Name y py) X.env)) (Q:=fun _ s'=>SP X pins D .next s') rfl hs (S.clos I) S.kind S.names
  (thn (hit pins s σ H _ I h) fun xv s1 h1=>thn h1 fun itv s2 h2=>?_)) (fun _ s' hq=>qcA (qcA hq)) fun _ _ e=>e)
 obtain ⟨it,fp,tn,J,H2,e,I2,T,st2,f2,q⟩:=h2;subst e;refine IM (Q:=fun v H1=>De i v σ H1 D.nx) (RR:=fun acc C=>compPost (model X.prog X.w) X.A X.xe (some (assign (.Name y py) X.env)) (fun _ s'=>SP X pins D .next s') acc C) S I2 hc hcap hx hnd T st2 f2 body q ?_;intro p C s3 s' H3 Hf σ' I3 hC J' qf;subst hC;have I4:=K0 I3 J' f2;obtain ⟨m,hn,_⟩:=J'.loc;have f:=I3.fpOk (H':=Hf) (qxA _) J'.free;show wpAny _ X.A (assign (.Name y py) X.env (.ref p)) _ _ _;refine wpAny_assign_Name (IA (v:=V.ref p) I4 hN hi hy rfl (fun s'' I5 ch=>?_) hf);obtain ⟨a,hsb,ha⟩:=ch
 have hCa:s3.heap.objs.size≠a:=by
  rcases ha with rfl|ha
  ·exact f.2.1
  ·exact fun z=>f.2.2.2.2.1 y a ha z.symm
 refine ⟨m,hn.sameBut hsb hCa,fun h' hs'=>?_⟩;exact ⟨_,Hf,I5.turned (t':=s''.toks) (it:=s3.heap.objs.size) (fun b o hb e=>(hs'.2 b hb).trans e) f.1 f.2.1 f.2.2.2.1 f.2.2.2.2.1 f.2.2.2.2.2,qf⟩
end
theorem Ka:bootBuiltins "len" = some (.builtin "len"):=by decide +kernel
theorem AO:bootBuiltins "isinstance" = some (.builtin "isinstance"):=by decide +kernel
theorem bt_min:bootBuiltins "min" = some (.builtin "min"):=by decide +kernel
theorem Fx:bootBuiltins "all" = some (.builtin "all"):=by decide +kernel
theorem IR:bootBuiltins "sorted" = some (.builtin "sorted"):=by decide +kernel
theorem Bw:bootBuiltins "list" = some (.type "list"):=by decide +kernel
theorem Dn:bootBuiltins "tuple" = some (.type "tuple"):=by decide +kernel
theorem bt_int:bootBuiltins "int" = some (.type "int"):=by decide +kernel
theorem Kq:bootBuiltins "str" = some (.type "str"):=by decide +kernel
theorem LF:bootBuiltins "bool" = some (.type "bool"):=by decide +kernel
theorem bt_set:bootBuiltins "set" = some (.type "set"):=by decide +kernel
theorem HY {X:Cx}{x:Str}{i:Int}{pos:Pos}(hg:Gl X x)(h:∃ t,X.mg x=some (.int i t))(hd:(x == ("__debug__" : Str))=false:=by decide):PE X (.Name x pos) (tC (.int i)):=by
 obtain ⟨t,h⟩:=h;exact pe_glob (u:=.int i t) hg h ⟨t,rfl⟩ hd
def MJ (T c:String):Option Bool:=if (T == c)=true then some true else if PySem.W.kitMeta c=true then (fastBuiltinMro T).map (·.contains (.type c)) else none
theorem kit_of {K:FZ9}{T c:String}{b:Bool}(h:MJ T c=some b):PySem.W.kitOne K (.type T) (.type c)=some b:=by
 unfold MJ at h;unfold PySem.W.kitOne;by_cases e:T=c
 ·subst e;rw [if_pos (by simp)] at h;rw [if_pos (by simp)];exact h
 ·rw [if_neg (by simpa using e)] at h;rw [if_neg (by intro z;exact e (by simpa using z))];exact h
structure DefOk (P:Program)(w:World)(K:FZ9)(mg:Str->Option Value)(base:Heap)(x:Str)(k:Nat)(ps:List Str)(sp:Sp):Prop where
 ex:∃ f fd,FnOk P w K mg base CX0 k f fd ps sp/\mg x=some (.ref f)/\PySem.W.keepIn K (.ref f)=true/\Binds K fd ps []
section
variable {X:Cx}{x:Str}{k j:Nat}{ps:List Str}{sp:Sp}{e:Expr}{es:List Expr}{t:TA}{p pos:Pos}
theorem AK (F:DefOk X.prog X.w X.K X.mg X.base x k ps sp)(hr:Room j X.A)(hj:k<=j)(hg:Gl X x)(ha:PA X (e::es) t)(hdb:(x == ("__debug__" : Str))=false:=by decide)
  (he:starEach (e::es) X.env=(false,eval e X.env)::starEach es X.env:=by rfl) (hpl:(backTo pos (starEach es X.env)).any (·.1)=false:=by rfl) :
  PE X (.Call (.Name x p) (e::es) [] pos) (Fg sp [] E0 t):=by
 obtain ⟨f,fd,G,m,kp,b⟩:=F.ex;exact pe_call G (hr.mono hj) hg m kp b .nil pass0 ha hdb he hpl
end
theorem KD {P:Program}{w:World}{K:FZ9}{mg:Str->Option Value}{base:Heap}{x:Str}{st:Stmt}{f:Addr}{fd:FuncData}{k:Nat}{ps:List Str}{sp:Sp}(F:Fun K x x st f fd)(m:mg x=some (.ref f))(b:Binds K fd ps [])(G:FnOk P w K mg base CX0 k f fd ps sp):DefOk P w K mg base x k ps sp :=
 ⟨f,fd,G,m,F.kp,b⟩
theorem BP {X:Cx}{scope:Scope}(h:(scope.names.all fun p=>p.2 != .free || X.env.scope.names.lookup p.1 == some .cell || X.env.scope.names.lookup p.1 == some .free)=true) :
  ∀ y∈scope.names,y.2 = .free->X.env.scope.names.lookup y.1=some .cell\/X.env.scope.names.lookup y.1=some .free:=fun y hy hf=>by
 have:=List.all_eq_true.mp h y hy;rw [hf] at this
 simpa using this
theorem Same.new {H:Hp}{p:Addr}{o:HO}(h:H p=none):Same H (upd H p o):=fun b u e=>by rw [Ak (Bb e h)];exact e
theorem Same.put {H H':Hp}{p:Addr}{o:HO}(s:Same H H')(h:H p=none):Same H (upd H' p o):=fun b u e=>by rw [Ak (Bb e h)];exact s b u e
def Its (x:Str):It:=⟨fun i _=>i<x.cps.size,fun i H v H'=>H'=H/\∃ c,x.cps[i]? = some c/\v = .str ⟨#[c]⟩,fun i _=>i=x.cps.size⟩
def StrIt (it:Addr)(x:Str)(t:Tok)(i:Nat)(h:Heap):Prop:=h.IsStrIter it "str_ascii_iterator" x t i\/h.IsStrIter it "str_iterator" x t i
theorem K3 {P:Program}{w:World}{K:FZ9}{tg:Expr}(x:Str)(t:Tok)(it:Addr):Turn P w K tg (Its x) [it] it (StrIt it x t) where
 mem:=by simp
 obj:=fun i h st b hb=>by
  have e:b=it:=by simpa using hb
  subst e;rcases st with ⟨o,e,c,d⟩ | ⟨o,e,c,d⟩<;>exact ⟨o,e,fun v z=>by rw [d] at z;cases z⟩
 keep:=fun i h h' st k=>by
  rcases st with ⟨o,e,r⟩ | ⟨o,e,r⟩
  ·exact .inl ⟨o,k it (by simp) o e,r⟩
  ·exact .inr ⟨o,k it (by simp) o e,r⟩
 item:=by
  intro X hP hw hK hc i pins s σ H E I hf st hg;subst hP hw hK;obtain ⟨f0,f1,f2,f3,f4,f5⟩:=hf it (by simp);rcases st with st|st
  ·refine (Walks.strAscii (prog:=X.prog) (w:=X.w) (I.ok.hd hc) it x t).item i s _ _ hg st fun v h' tk hv st' kk=>?_;obtain ⟨c,u,hcx,rfl⟩:=hv;have I1:=I.turned (h':=h') (t':=tk) (fun b o hb e=>kk b o (by simpa using hb) e) f0 f1 f3 f4 f5;obtain ⟨o,e,hc',d⟩:=id st';exact ⟨_,rfl,Jb (s:={ s with heap:=h',toks:=tk }) e hc' d (by decide) ⟨.str ⟨#[c]⟩,H,I1,⟨u,rfl⟩,⟨rfl,c,hcx,rfl⟩,.inl st',fun b hb=>(hf b hb).1⟩⟩
  ·refine (Walks.strWide (prog:=X.prog) (w:=X.w) (I.ok.hd hc) it x t).item i s _ _ hg st fun v h' tk hv st' kk=>?_;obtain ⟨c,u,hcx,rfl⟩:=hv;have I1:=I.turned (h':=h') (t':=tk) (fun b o hb e=>kk b o (by simpa using hb) e) f0 f1 f3 f4 f5;obtain ⟨o,e,hc',d⟩:=id st';exact ⟨_,rfl,Jb (s:={ s with heap:=h',toks:=tk }) e hc' d (by decide) ⟨.str ⟨#[c]⟩,H,I1,⟨u,rfl⟩,⟨rfl,c,hcx,rfl⟩,.inr st',fun b hb=>(hf b hb).1⟩⟩
 done:=by
  intro X hP hw hK hc i pins s σ H E I hf st hg;subst hP hw hK;obtain ⟨f0,f1,f2,f3,f4,f5⟩:=hf it (by simp);have hg:i=x.cps.size:=hg;subst hg;rcases st with st|st
  ·exact (Walks.strAscii (prog:=X.prog) (w:=X.w) (I.ok.hd hc) it x t).done s _ _ st fun h' tk kk=>⟨rfl,I.turned (fun b o hb e=>kk b o (by simpa using hb) e) f0 f1 f3 f4 f5⟩
  ·exact (Walks.strWide (prog:=X.prog) (w:=X.w) (I.ok.hd hc) it x t).done s _ _ st fun h' tk kk=>⟨rfl,I.turned (fun b o hb e=>kk b o (by simpa using hb) e) f0 f1 f3 f4 f5⟩
 self:=fun _ _ _ _ _ st h=>by
  rcases st with st|st
  ·exact wpAny_pyIter_striter_ascii st h
  ·exact wpAny_pyIter_striter_wide st h
section
variable {X:Cx}{tg:Expr}
def iAny (K:FZ9)(tl:TE):TI:=fun σ H R=>tl σ H fun v H1=>match v with
 | .str x=>R (Its x) H1
 | .ref a=>((∃ xs,SqL K H1 a xs)/\R (Itl K a) H1)\/((∃ xs,SqT K H1 a xs)/\R (Itt K a) H1)
 | _=>False
theorem pi_any {l:Expr}{tl:TE}(hl:PE X l tl):PI X tg l (iAny X.K tl):=by
 intro pins s σ H R I h;refine thn (hl pins s σ H _ I h) fun v s1 ⟨x,H1,I1,r1,q1⟩=>?_
 have one:∀ b∈[s1.heap.objs.size],HX X pins H1 b:=fun b hb=>by
  have e:b=s1.heap.objs.size:=by simpa using hb
  subst e;exact I1.fpOk (qxA _) (I1.hok.fresh (qxA _))
 cases x with
 | str z =>
  obtain ⟨t,rfl⟩:=r1;have q1:R (Its z) H1:=q1;cases ha:z.cps.all (· < 128)
  ·exact wpAny_pyIter_wide ha ⟨s1.heap.objs.size,[s1.heap.objs.size],_,_,H1,rfl,I1.kept (t':=s1.toks) fun b o e=>qcB _ e,K3 z t _,.inr ⟨_,qdB _ rfl,rfl,rfl⟩,one,q1⟩
  ·exact wpAny_pyIter_ascii ha ⟨s1.heap.objs.size,[s1.heap.objs.size],_,_,H1,rfl,I1.kept (t':=s1.toks) fun b o e=>qcB _ e,K3 z t _,.inl ⟨_,qdB _ rfl,rfl,rfl⟩,one,q1⟩
 | ref a =>
  cases r1;have q1:((∃ xs,SqL X.K H1 a xs)/\R (Itl X.K a) H1)\/((∃ xs,SqT X.K H1 a xs)/\R (Itt X.K a) H1):=q1;rcases q1 with ⟨⟨xs,hq⟩,q⟩ | ⟨⟨xs,hq⟩,q⟩
  ·obtain ⟨its,rv,p,hz⟩:=I1.list hq;exact wpAny_pyIter_list p.isList ⟨s1.heap.objs.size,[s1.heap.objs.size],_,_,H1,rfl,I1.kept (t':=s1.toks) fun b o e=>qcB _ e,Lk a _,⟨_,qdB _ rfl,rfl,rfl⟩,one,q⟩
  ·obtain ⟨its,rv,p,hz⟩:=I1.tuple hq;exact wpAny_pyIter_tuple (show s1.heap.IsTuple a its.toArray from p) ⟨s1.heap.objs.size,[s1.heap.objs.size],_,_,H1,rfl,I1.kept (t':=s1.toks) fun b o e=>qcB _ e,Kn a _,⟨_,qdB _ rfl,rfl,rfl⟩,one,q⟩
 | _=>exact (show False from q1).elim
end
structure Yields (J:It)(H:Hp)(xs:List V):Prop where
 go:∀ i H',Same H H'->i<xs.length->J.go i H'
 stop:∀ H',Same H H'->J.stop xs.length H'
 yld:∀ i H' x H'',Same H H'->i<xs.length->J.yld i H' x H''->H''=H'/\xs[i]? = some x
def DQ (x:Str):List V:=x.cps.toList.map fun c=>.str ⟨#[c]⟩
theorem Ki (x:Str)(H:Hp):Yields (Its x) H (DQ x) where
 go:=fun i H' _ hi=>by
  have:(DQ x).length=x.cps.size:=by simp [DQ]
  show i<x.cps.size;omega
 stop:=fun H' _=>by
  show (DQ x).length=x.cps.size;simp [DQ]
 yld:=fun i H' v H'' _ _ y=>by
  obtain ⟨rfl,c,hc,rfl⟩:=y;refine ⟨rfl,?_⟩;simp only [DQ,List.getElem?_map,Array.getElem?_toList,hc,Option.map_some]
theorem FU (lo:Int)(n:Nat)(H:Hp):Yields (Itr lo n) H ((List.range n).map fun (i:Nat)=>V.int (lo+(i:Int))) where
 go:=fun i H' _ hi=>by
  show i<n
  simpa using hi
 stop:=fun H' _=>by
  show n<=((List.range n).map fun (i:Nat)=>V.int (lo+(i:Int))).length;simp
 yld:=fun i H' v H'' _ hi y=>by
  obtain ⟨rfl,rfl⟩:=y;rw [qeA,qiA] at hi;refine ⟨rfl,?_⟩;simp [hi]
theorem Ju {K:FZ9}{a:Addr}{xs:List V}{H:Hp}(h:SqL K H a xs):Yields (Itl K a) H xs where
 go:=fun i H' s hi=>⟨xs,xs[i],s.seq h,by simp [hi]⟩
 stop:=fun H' s=>⟨xs,s.seq h,qxA _⟩
 yld:=fun i H' v H'' s _ y=>⟨y.1,y.2 xs (s.seq h)⟩
section
variable {X:Cx}
def IV (K:FZ9):R2:=fun x y H Q=>match x,y with
 | .int i,.int j=>Q (.int (i+j)) H
 | .str a,.str b=>a.length+b.length<=sizeLine/\Q (.str (a++b)) H
 | .ref a,.ref b=>∃ xs ys,Rd H a (.lst xs)/\Rd H b (.lst ys)/\xs.length+ys.length<=sizeLine/\∀ p,H p=none->Q (.ref p) (upd H p (.lst (xs++ys)))
 | _,_=>False
theorem op_catS:OpR X (binaryOp .Add) (fun x y H Q=>∃ a b xs ys,x = .ref a/\y = .ref b/\Rd H a (.lst xs)/\Rd H b (.lst ys)/\xs.length+ys.length<=sizeLine/\∀ p,H p=none->Q (.ref p) (upd H p (.lst (xs++ys)))):=by
 intro pins s σ H x y v u Q I rx ry h;obtain ⟨l,b,xs,zs,rfl,rfl,hH,hB,hz,q⟩:=h;cases rx;cases ry;obtain ⟨z,its,n,r,e⟩:=hH.ok I.hok;obtain ⟨z2,its2,n2,r2,e2⟩:=hB.ok I.hok;have hl:=r.length;have hl2:=r2.length;refine PySem.P.add_list e e2 ?_ (by rw [qkB,qkB];omega);have ea:its.toArray++its2.toArray=(its++its2).toArray:=by simp
 rw [ea];exact ⟨.ref _,_,I.lnew (t':=s.toks) (r.append r2) (by rw [qfA];omega),rfl,q _ I.fresh⟩
theorem op_plus:OpR X (binaryOp .Add) (IV X.K):=by
 intro pins s σ H x y v u Q I rx ry h
 cases x with
 | int i=>cases y with
  | int j=>exact op_add pins s σ H _ _ v u Q I rx ry ⟨i,j,rfl,rfl,h⟩
  | _=>exact (show False from h).elim
 | str a=>cases y with
  | str b=>exact Kj pins s σ H _ _ v u Q I rx ry ⟨a,b,rfl,rfl,h.1,h.2⟩
  | _=>exact (show False from h).elim
 | ref a=>cases y with
  | ref b =>
   obtain ⟨xs,ys,h1,h2,h3,h4⟩:=h;exact op_catS pins s σ H _ _ v u Q I rx ry ⟨a,b,xs,ys,rfl,rfl,h1,h2,h3,h4⟩
  | _=>exact (show False from h).elim
 | _=>exact (show False from h).elim
def K2 (fi:Int->Int->Bool)(fs:List Nat->List Nat->Bool):R2:=fun x y H Q=>match x,y with
 | .int i,.int j=>Q (.bl (fi i j)) H
 | .str a,.str b=>Q (.bl (fs a.cps.toList b.cps.toList)) H
 | _,_=>False
theorem Kp {f:Value->Value->Sem Value}{fi:Int->Int->Bool}{fs:List Nat->List Nat->Bool}(hi:OpR X f (rI0 fun i j=>.bl (fi i j)))
  (hs:∀ (s:Shared) (a b:Str) (t u:Tok) (Q:Value->Shared->Prop),Q (.bool (fs a.cps.toList b.cps.toList)) s->wpAny (model X.prog X.w) X.A (f (.str a t) (.str b u)) Q X.xe s):OpR X f (K2 fi fs):=by
 intro pins s σ H x y v u Q I rx ry h
 cases x with
 | int i=>cases y with
  | int j=>exact hi pins s σ H _ _ v u Q I rx ry ⟨i,j,rfl,rfl,h⟩
  | _=>exact (show False from h).elim
 | str a=>cases y with
  | str b =>
   obtain ⟨t,rfl⟩:=rx;obtain ⟨t',rfl⟩:=ry;exact hs s a b t t' _ ⟨.bl _,H,I,rfl,h⟩
  | _=>exact (show False from h).elim
 | _=>exact (show False from h).elim
theorem Io:OpR X (compareOp .Lt) (K2 (fun i j=>decide (i<j)) fun a b=>decide (a<b)):=Kp op_lt fun _ _ _ _ _ _ h=>lt_str h
theorem op_leU:OpR X (compareOp .LtE) (K2 (fun i j=>decide (i<=j)) fun a b=>!decide (b<a)):=Kp op_le fun _ _ _ _ _ _ h=>PySem.P.le_str h
theorem GD:OpR X (compareOp .Gt) (K2 (fun i j=>decide (j<i)) fun a b=>decide (b<a)):=Kp op_gt fun _ _ _ _ _ _ h=>PySem.P.gt_str h
def rMul (K:FZ9):R2:=fun x y H Q=>match x,y with
 | .int i,.int j=>CMul i j/\Q (.int (i * j)) H
 | .ref l,.int k=>∃ xs,H l=some (.lst xs)/\-(2 ^ 63)<=k/\k<2 ^ 63/\xs.length * k.toNat<=sizeLine/\∀ p,H p=none->Q (.ref p) (upd H p (.lst (List.replicate k.toNat xs).flatten))
 | _,_=>False
theorem op_mulU:OpR X (binaryOp .Mult) (rMul X.K):=by
 intro pins s σ H x y v u Q I rx ry h
 cases x with
 | int i=>cases y with
  | int j=>exact op_mul pins s σ H _ _ v u Q I rx ry ⟨i,j,rfl,rfl,h.1,h.2⟩
  | _=>exact (show False from h).elim
 | ref l=>cases y with
  | int k =>
   obtain ⟨xs,h1,h2,h3,h4,h5⟩:=h;exact op_rep pins s σ H _ _ v u Q I rx ry ⟨l,k,xs,rfl,rfl,h1,h2,h3,h4,h5⟩
  | _=>exact (show False from h).elim
 | _=>exact (show False from h).elim
def rSl (K:FZ9):V->Option Int->Option Int->Hp->VK->Prop:=fun x lo hi H Q=>match x with
 | .str z=>z.length<=sizeLine/\Q (.str (Txt.slice z lo hi)) H
 | .ref a=>(∃ xs,SqL K H a xs/\∀ p,H p=none->Q (.ref p) (upd H p (.lst (KZ xs lo hi))))
 | _=>False
theorem sl_str:SlR X (fun x lo hi H Q=>∃ z,x = .str z/\z.length<=sizeLine/\Q (.str (Txt.slice z lo hi)) H):=by
 intro pins s σ H x v vl vu lo hi sl Q I rx hs pl pu h;obtain ⟨z,rfl,hz,q⟩:=h;obtain ⟨t,rfl⟩:=rx;refine ⟨"str",_,F.slot_str_getitem.lookup,typeIs_str _ _ _,?_⟩;have fin:∀ (t':Tok) (k:Nat),EP X pins σ Q (.str (Txt.slice z lo hi) t') { s with toks:=k }:=fun t' k=>⟨.str _,H,I.tok k,⟨t',rfl⟩,q⟩
 cases pl with
 | none=>cases pu with
  | none=>exact wpAny_getItem_str_slice (l:=none) (u:=none) (st:=none) hs rfl (post_val_or_str ⟨qyA (Txt.slice_le z _ _) hz,fin⟩)
  | int j uj=>exact wpAny_getItem_str_slice (l:=none) (u:=some (j,uj)) (st:=none) hs rfl (post_val_or_str ⟨qyA (Txt.slice_le z _ _) hz,fin⟩)
 | int i ui=>cases pu with
  | none=>exact wpAny_getItem_str_slice (l:=some (i,ui)) (u:=none) (st:=none) hs rfl (post_val_or_str ⟨qyA (Txt.slice_le z _ _) hz,fin⟩)
  | int j uj=>exact wpAny_getItem_str_slice (l:=some (i,ui)) (u:=some (j,uj)) (st:=none) hs rfl (post_val_or_str ⟨qyA (Txt.slice_le z _ _) hz,fin⟩)
theorem sl_any:SlR X (rSl X.K):=by
 intro pins s σ H x v vl vu lo hi sl Q I rx hs pl pu h
 cases x with
 | str z=>exact sl_str pins s σ H _ v vl vu lo hi sl Q I rx hs pl pu ⟨z,rfl,h.1,h.2⟩
 | ref a =>
  obtain ⟨xs,h1,h2⟩:=h;exact sl_list pins s σ H _ v vl vu lo hi sl Q I rx hs pl pu ⟨a,xs,rfl,h1,h2⟩
 | _=>exact (show False from h).elim
def rAt (K:FZ9):R2:=fun x y H Q=>match x,y with
 | .str z,.int i=>z.length<=sizeLine/\∃ c,atI z.cps.toList i=some c/\Q (.str ⟨#[c]⟩) H
 | .ref p,.int i=>(∃ xs v,SqL K H p xs/\atI xs i=some v/\Q v H)\/(∃ xs v,SqT K H p xs/\atI xs i=some v/\Q v H)
 | _,_=>False
theorem ix_any:IxR X (rAt X.K):=by
 intro value slice pins s σ H x y v u Q I rx ry q hs
 cases x with
 | str z=>cases y with
  | int i =>
   obtain ⟨hz,c,hc,q⟩:=q;exact ix_str value slice pins s σ H _ _ v u Q I rx ry ⟨z,i,c,rfl,rfl,hz,hc,q⟩ hs
  | _=>exact (show False from q).elim
 | ref p=>cases y with
  | int i =>
   rcases q with ⟨xs,w',h1,h2,h3⟩ | ⟨xs,w',h1,h2,h3⟩
   ·exact ix_list value slice pins s σ H _ _ v u Q I rx ry ⟨p,xs,i,w',rfl,rfl,h1,h2,h3⟩ hs
   ·exact ix_tup value slice pins s σ H _ _ v u Q I rx ry ⟨p,xs,i,w',rfl,rfl,h1,h2,h3⟩ hs
  | _=>exact (show False from q).elim
 | _=>exact (show False from q).elim
def Jo (K:FZ9):List V->Hp->VK->Prop:=fun vs H Q=>match vs with
 | [.str z]=>z.length<=sizeLine/\Q (.int z.length) H
 | [.ref p]=>∃ ys,(SqL K H p ys\/SqT K H p ys)/\Q (.int ys.length) H
 | _=>False
theorem Lx:CC X (.builtin "len") (Jo X.K):=by
 intro pins s σ H vs us Q I r h
 match vs,h with
 | [.str z],h=>exact Im pins s σ H _ us Q I r ⟨z,rfl,h.1,h.2⟩
 | [.ref p],h =>
  obtain ⟨ys,h1,h2⟩:=h;exact Ic pins s σ H _ us Q I r ⟨p,ys,rfl,h1,h2⟩
theorem Kl {ys:List Str}:∀ {us:List Value},Vals (ys.map V.str) us->StrsAre us ys:=by
 induction ys with
 | nil=>intro us r;rw [List.map_nil] at r;cases r;exact .nil
 | cons n ns ih =>
  intro us r;rw [qwA] at r
  cases r with
  | cons r1 r2 =>
   obtain ⟨t,e⟩:=r1;subst e;exact .cons n t (ih r2)
end
structure EqTy (K:FZ9)(k:Nat){α:Type}[DecidableEq α](R:Hp->V->α->Prop):Prop where
 fn:∀ {X:Cx}{pins:List (Addr × Obj)}{σ:St}{H:Hp}{s:Shared}{x:V}{a b:α},X.K=K->Inv X pins σ H s->R H x a->R H x b->a=b
 eq:∀ {X:Cx}{pins:List (Addr × Obj)}{σ:St}{H:Hp}{s:Shared}{x y:V}{u v:Value}{a b:α}(A:Around),X.K=K->Inv X pins σ H s->A.units+k<cLine->RelV x u->RelV y v->R H x a->R H y b->SeqAt.EqAt A s u v (decide (a=b))
 rc:∀ {X:Cx}{pins:List (Addr × Obj)}{σ:St}{H:Hp}{s:Shared}{x y:V}{u v:Value}{a b:α}(A:Around),X.K=K->Inv X pins σ H s->A.units+k<cLine->RelV x u->RelV y v->R H x a->R H y b->SeqAt.RcAt A s u v (decide (a=b))/\SeqAt.RcNeAt A s u v (!decide (a=b))
def isStr:Hp->V->Str->Prop:=fun _ x a=>x = .str a
def isInt:Hp->V->Int->Prop:=fun _ x a=>x = .int a
theorem Fu {α:Type}[DecidableEq α][BEq α][LawfulBEq α](a b:α):(a == b)=decide (a=b):=by
 by_cases h:a=b
 ·subst h;simp
 ·rw [decide_eq_false h];simpa using h
theorem eqStr {K:FZ9}:EqTy K 0 isStr where
 fn:=fun _ _ h1 h2=>by cases h1;cases h2;rfl
 eq:=fun A _ _ _ r1 r2 h1 h2=>by
  cases h1;cases h2;obtain ⟨t,rfl⟩:=r1;obtain ⟨t',rfl⟩:=r2;rw [<- Fu];exact SeqAt.EqAt.str_str _ _ _ _
 rc:=fun A _ _ _ r1 r2 h1 h2=>by
  cases h1;cases h2;obtain ⟨t,rfl⟩:=r1;obtain ⟨t',rfl⟩:=r2;rw [<- Fu];exact ⟨SeqAt.RcAt.str_str _ _ _ _,SeqAt.RcNeAt.str_str _ _ _ _⟩
theorem eqInt {K:FZ9}:EqTy K 0 isInt where
 fn:=fun _ _ h1 h2=>by cases h1;cases h2;rfl
 eq:=fun A _ _ _ r1 r2 h1 h2=>by
  cases h1;cases h2;obtain ⟨t,rfl⟩:=r1;obtain ⟨t',rfl⟩:=r2;rw [<- Fu];exact SeqAt.EqAt.int_int _ _ _ _
 rc:=fun A _ _ _ r1 r2 h1 h2=>by
  cases h1;cases h2;obtain ⟨t,rfl⟩:=r1;obtain ⟨t',rfl⟩:=r2;rw [<- Fu];exact ⟨SeqAt.RcAt.int_int _ _ _ _,SeqAt.RcNeAt.int_int _ _ _ _⟩
theorem Paired.at' {α β:Type}{F:α->β->Prop}:∀ {l₁:List α}{l₂:List β}{i:Nat}{a:α}{b:β},Paired F l₁ l₂->l₁[i]? = some a->l₂[i]? = some b->F a b
 | _,_,_,_,_,.nil,e,_=>by simp at e
 | _,_,0,_,_,.cons h _,e1,e2=>by simp at e1 e2;subst e1;subst e2;exact h
 | _,_,i+1,_,_,.cons _ t,e1,e2=>Paired.at' (i:=i) t (by simpa using e1) (by simpa using e2)
theorem IX {α β:Type}{F:α->β->Prop}(hf:∀ a b c,F a b->F a c->b=c):∀ {xs:List α}{as bs:List β},Paired F xs as->Paired F xs bs->as=bs
 | _,_,_,.nil,.nil=>rfl
 | _,_,_,.cons h t,.cons h' t'=>by rw [hf _ _ _ h h',IX hf t t']
theorem all_dec {α:Type}[DecidableEq α]:∀ (as bs:List α) (hl:as.length=bs.length),((List.range as.length).all fun j=>decide (as[j]? = bs[j]?))=decide (as=bs):=by
 intro as bs hl;apply Bool.eq_iff_iff.mpr;rw [decide_eq_true_iff,List.all_eq_true];constructor
 ·intro h;apply List.ext_getElem?;intro i;by_cases hi:i<as.length
  ·exact of_decide_eq_true (h i (qrA.mpr hi))
  ·rw [List.getElem?_eq_none (by omega),List.getElem?_eq_none (by omega)]
 ·rintro rfl i _;simp
def Jq (K:FZ9){α:Type}(R:Hp->V->α->Prop):Hp->V->List α->Prop:=fun H x as=>∃ l xs,x = .ref l/\SqL K H l xs/\Paired (R H) xs as
theorem KI {K:FZ9}{k:Nat}{α:Type}[DecidableEq α]{R:Hp->V->α->Prop}(E:EqTy K k R){X:Cx}{pins:List (Addr × Obj)}{σ:St}{H:Hp}{s:Shared}{A:Around}(hK:X.K=K)(I:Inv X pins σ H s)(hu:A.units+(k+1)<cLine)
  {xs ys:List V}{us vs:List Value}{as bs:List α}(rx:Vals xs us) (ry:Vals ys vs) (px:Paired (R H) xs as) (py:Paired (R H) ys bs) :
  ∀ j (h1:j<us.toArray.size) (h2:j<vs.toArray.size),SeqAt.EqAt A.in1 s us.toArray[j] vs.toArray[j] (decide (as[j]? = bs[j]?)):=by
 intro j h1 h2;have h1':j<us.length:=by simpa using h1
 have h2':j<vs.length:=by simpa using h2
 have lx:=rx.length;have ly:=ry.length;have lpx:=Paired.length px;have lpy:=Paired.length py;have ex:xs[j]? = some xs[j]:=quA (by omega);have ey:ys[j]? = some ys[j]:=quA (by omega);have ea:as[j]? = some as[j]:=quA (by omega);have eb:bs[j]? = some bs[j]:=quA (by omega);obtain ⟨u,hu',ru⟩:=rx.get ex;obtain ⟨v,hv',rv⟩:=ry.get ey
 have e1:us.toArray[j]=u:=by
  rw [quA h1'] at hu'
  simpa using hu'
 have e2:vs.toArray[j]=v:=by
  rw [quA h2'] at hv'
  simpa using hv'
 rw [e1,e2,ea,eb];have:=E.eq A.in1 hK I (show A.units+1+k<cLine by omega) ru rv (Paired.at' px ex ea) (Paired.at' py ey eb);have e3:decide (some as[j]=some bs[j])=decide (as[j]=bs[j]):=by simp
 rw [e3];exact this
theorem eqLst {K:FZ9}{k:Nat}{α:Type}[DecidableEq α]{R:Hp->V->α->Prop}(E:EqTy K k R):EqTy K (k+1) (Jq K R):=by
 have fn:∀ {X:Cx}{pins:List (Addr × Obj)}{σ:St}{H:Hp}{s:Shared}{x:V}{a b:List α},X.K=K->Inv X pins σ H s->Jq K R H x a->Jq K R H x b->a=b:=by
  intro X pins σ H s x a b hK I ha hb;obtain ⟨l,xs,rfl,h1,p1⟩:=ha;obtain ⟨l',ys,e,h2,p2⟩:=hb;cases e;subst hK;have:=I.list_inj h1 h2;subst this;exact IX (F:=R H) (fun _ _ _ p q=>E.fn rfl I p q) p1 p2
 have rc:∀ {X:Cx}{pins:List (Addr × Obj)}{σ:St}{H:Hp}{s:Shared}{x y:V}{u v:Value}{a b:List α}(A:Around),X.K=K->Inv X pins σ H s->A.units+(k+1)<cLine->RelV x u->RelV y v->Jq K R H x a->Jq K R H y b ->
   SeqAt.RcAt A s u v (decide (a=b))/\SeqAt.RcNeAt A s u v (!decide (a=b)):=by
  intro X pins σ H s x y u v a b A hK I hu r1 r2 ha hb;obtain ⟨l,xs,rfl,h1,p1⟩:=ha;obtain ⟨l',ys,rfl,h2,p2⟩:=hb;cases r1;cases r2;subst hK;obtain ⟨us,rx,plx,_⟩:=I.list h1;obtain ⟨vs,ry,ply,_⟩:=I.list h2;have lx:=rx.length;have ly:=ry.length;have lpx:=Paired.length p1;have lpy:=Paired.length p2;by_cases hl:a.length=b.length
  ·have hsz:us.toArray.size=vs.toArray.size:=by simp;omega
   have it:=KI E rfl I hu rx ry p1 p2
   have ed:((List.range us.toArray.size).all fun j=>decide (a[j]? = b[j]?))=decide (a=b):=by
    rw [<- all_dec a b hl,qkB,<- lx,lpx]
   rw [<- ed];exact ⟨SeqAt.RcAt.lists plx.isList ply.isList hsz (by omega) it,SeqAt.RcNeAt.lists plx.isList ply.isList hsz (by omega) it⟩
  ·have hsz:(us.toArray.size != vs.toArray.size)=true:=by simp;omega
   have ne:a≠b:=fun e=>hl (by rw [e]);rw [decide_eq_false ne];exact ⟨SeqAt.RcAt.lists_lengths plx.isList ply.isList hsz (by omega),SeqAt.RcNeAt.lists_lengths plx.isList ply.isList hsz (by omega)⟩
 refine ⟨fn,?_,rc⟩;intro X pins σ H s x y u v a b A hK I hu r1 r2 ha hb;have h:=(rc A hK I hu r1 r2 ha hb).1;obtain ⟨l,xs,rfl,h1,p1⟩:=id ha;obtain ⟨l',ys,rfl,h2,p2⟩:=id hb;cases r1;cases r2;by_cases e:l=l'
 ·subst e;have:a=b:=fn hK I ha hb;rw [decide_eq_true this];exact SeqAt.EqAt.same _
 ·exact SeqAt.EqAt.of_refs e h
def He (K:FZ9){α β:Type}(R:Hp->V->α->Prop)(S:Hp->V->β->Prop):Hp->V->α × β->Prop:=fun H x p=>∃ t a b,x = .ref t/\SqT K H t [a,b]/\R H a p.1/\S H b p.2
theorem eqPair {K:FZ9}{k:Nat}{α β:Type}[DecidableEq α][DecidableEq β]{R:Hp->V->α->Prop}{S:Hp->V->β->Prop}(E:EqTy K k R)(G:EqTy K k S):EqTy K (k+1) (He K R S):=by
 have fn:∀ {X:Cx}{pins:List (Addr × Obj)}{σ:St}{H:Hp}{s:Shared}{x:V}{a b:α × β},X.K=K->Inv X pins σ H s->He K R S H x a->He K R S H x b->a=b:=by
  intro X pins σ H s x a b hK I ha hb;obtain ⟨l,x1,x2,rfl,h1,p1,p2⟩:=ha;obtain ⟨l',y1,y2,e,h2,q1,q2⟩:=hb;cases e;subst hK;have:=I.tuple_inj h1 h2;cases this;exact Prod.ext (E.fn rfl I p1 q1) (G.fn rfl I p2 q2)
 have rc:∀ {X:Cx}{pins:List (Addr × Obj)}{σ:St}{H:Hp}{s:Shared}{x y:V}{u v:Value}{a b:α × β}(A:Around),X.K=K->Inv X pins σ H s->A.units+(k+1)<cLine->RelV x u->RelV y v->He K R S H x a->He K R S H y b ->
   SeqAt.RcAt A s u v (decide (a=b))/\SeqAt.RcNeAt A s u v (!decide (a=b)):=by
  intro X pins σ H s x y u v a b A hK I hu r1 r2 ha hb;obtain ⟨l,x1,x2,rfl,h1,p1,p2⟩:=ha;obtain ⟨l',y1,y2,rfl,h2,q1,q2⟩:=hb;cases r1;cases r2;subst hK;obtain ⟨us,rx,plx,_⟩:=I.tuple h1;obtain ⟨vs,ry,ply,_⟩:=I.tuple h2;obtain ⟨u1,u2,rfl,ru1,ru2⟩:=Jh rx;obtain ⟨v1,v2,rfl,rv1,rv2⟩:=Jh ry;have e1:=E.eq A.in1 rfl I (show A.units+1+k<cLine by omega) ru1 rv1 p1 q1;have e2:=G.eq A.in1 rfl I (show A.units+1+k<cLine by omega) ru2 rv2 p2 q2
  have it:∀ j (h1:j < [u1,u2].toArray.size) (h2:j < [v1,v2].toArray.size),SeqAt.EqAt A.in1 s [u1,u2].toArray[j] [v1,v2].toArray[j] ((fun j=>if j=0 then decide (a.1=b.1) else decide (a.2=b.2)) j):=by
   intro j h1 h2
   match j,h1 with
   | 0,_=>exact e1
   | 1,_=>exact e2
   | j+2,h=>exact absurd h (by simp)
  have ed:((List.range (min [u1,u2].toArray.size [v1,v2].toArray.size)).all (fun j=>if j=0 then decide (a.1=b.1) else decide (a.2=b.2)) && [u1,u2].toArray.size == [v1,v2].toArray.size)=decide (a=b):=by
   apply Bool.eq_iff_iff.mpr;rw [decide_eq_true_iff];constructor
   ·intro h;have h:(decide (a.1=b.1) && (decide (a.2=b.2) && true) && true)=true:=h;simp only [Bool.and_true,Bool.and_eq_true,decide_eq_true_iff] at h;exact Prod.ext h.1 h.2
   ·rintro rfl;show (decide (a.1=a.1) && (decide (a.2=a.2) && true) && true)=true;simp
  rw [<- ed];exact ⟨SeqAt.RcAt.tuples plx ply (by omega) it,SeqAt.RcNeAt.tuples plx ply (by omega) it⟩
 refine ⟨fn,?_,rc⟩;intro X pins σ H s x y u v a b A hK I hu r1 r2 ha hb;have h:=(rc A hK I hu r1 r2 ha hb).1;obtain ⟨l,x1,x2,rfl,h1,p1,p2⟩:=id ha;obtain ⟨l',y1,y2,rfl,h2,q1,q2⟩:=id hb;cases r1;cases r2;by_cases e:l=l'
 ·subst e;have:a=b:=fn hK I ha hb;rw [decide_eq_true this];exact SeqAt.EqAt.same _
 ·exact SeqAt.EqAt.of_refs e h
section
variable {X:Cx}
theorem op_eqD {k j:Nat}{α:Type}[DecidableEq α]{R:Hp->V->α->Prop}(E:EqTy X.K k R)(hr:Room j X.A)(hk:k<=10):OpR X (compareOp .Eq) (fun x y H Q=>∃ a b,R H x a/\R H y b/\Q (.bl (decide (a=b))) H):=by
 intro pins s σ H x y v u Q I rx ry h;obtain ⟨a,b,h1,h2,q⟩:=h;exact (E.rc X.A rfl I (by have:=hr.un;omega) rx ry h1 h2).1 _ _ _ _ ⟨.bl _,H,I,rfl,q⟩
theorem op_neD {k j:Nat}{α:Type}[DecidableEq α]{R:Hp->V->α->Prop}(E:EqTy X.K k R)(hr:Room j X.A)(hk:k<=10):OpR X (compareOp .NotEq) (fun x y H Q=>∃ a b,R H x a/\R H y b/\Q (.bl (!decide (a=b))) H):=by
 intro pins s σ H x y v u Q I rx ry h;obtain ⟨a,b,h1,h2,q⟩:=h;exact (E.rc X.A rfl I (by have:=hr.un;omega) rx ry h1 h2).2 _ _ _ _ ⟨.bl _,H,I,rfl,q⟩
end
class Rp (α:Type) where
 rel:FZ9->Hp->V->α->Prop
 mono:∀ {K:FZ9}{H H':Hp}{v:V}{a:α},Same H H'->rel K H v a->rel K H' v a
theorem Same.rd {H H':Hp}{a:Addr}{u:HO}(s:Same H H')(h:Rd H a u):Rd H' a u:=by
 rcases h with h | ⟨o,h⟩
 ·exact .inl (s _ _ h)
 ·exact .inr ⟨o,s _ _ h⟩
theorem Same.tup {K:FZ9}{H H':Hp}{a:Addr}{xs:List V}(e:Same H H')(h:SqT K H a xs):SqT K H' a xs:=by
 rcases h with h|h
 ·exact .inl (e.rd h)
 ·exact .inr h
instance rpInt:Rp Int:=⟨fun _ _ v a=>v = .int a,fun _ h=>h⟩
instance rpBool:Rp Bool:=⟨fun _ _ v a=>v = .bl a,fun _ h=>h⟩
instance rpStr:Rp Str:=⟨fun _ _ v a=>v = .str a/\a.length<=sizeLine,fun _ h=>h⟩
instance rpList {α:Type}[Rp α]:Rp (List α) :=
 ⟨fun K H v as=>∃ l xs,v = .ref l/\Rd H l (.lst xs)/\xs.length<=sizeLine/\Paired (Rp.rel K H) xs as,
  fun s ⟨l,xs,e,h,z,p⟩=>⟨l,xs,e,s.rd h,z,Paired.imp' (fun _ _ r=>Rp.mono s r) p⟩⟩
instance rpPair {α β:Type}[Rp α][Rp β]:Rp (α × β) :=
 ⟨fun K H v p=>∃ t a b,v = .ref t/\SqT K H t [a,b]/\Rp.rel K H a p.1/\Rp.rel K H b p.2,
  fun s ⟨t,a,b,e,h,r1,r2⟩=>⟨t,a,b,e,s.tup h,Rp.mono s r1,Rp.mono s r2⟩⟩
structure T3 (α β γ:Type) where
 a:α
 b:β
 c:γ
 deriving DecidableEq
structure T4 (α β γ δ:Type) where
 a:α
 b:β
 c:γ
 d:δ
 deriving DecidableEq
structure Tp (α:Type) where
 l:List α
 deriving DecidableEq
instance rpT4 {α β γ δ:Type}[Rp α][Rp β][Rp γ][Rp δ]:Rp (T4 α β γ δ) :=
 ⟨fun K H v p=>∃ t a b c d,v = .ref t/\SqT K H t [a,b,c,d]/\Rp.rel K H a p.a/\Rp.rel K H b p.b/\Rp.rel K H c p.c/\Rp.rel K H d p.d,
  fun s ⟨t,a,b,c,d,e,h,r1,r2,r3,r4⟩=>⟨t,a,b,c,d,e,s.tup h,Rp.mono s r1,Rp.mono s r2,Rp.mono s r3,Rp.mono s r4⟩⟩
instance rpTp {α:Type}[Rp α]:Rp (Tp α) :=
 ⟨fun K H v as=>∃ t xs,v = .ref t/\SqT K H t xs/\xs.length<=sizeLine/\Paired (Rp.rel K H) xs as.l,
  fun s ⟨l,xs,e,h,z,p⟩=>⟨l,xs,e,s.tup h,z,Paired.imp' (fun _ _ r=>Rp.mono s r) p⟩⟩
class RpA (α:Type) where
 n:Nat
 rel:FZ9->Hp->List V->α->Prop
 mono:∀ {K:FZ9}{H H':Hp}{v:List V}{a:α},Same H H'->rel K H v a->rel K H' v a
 len:∀ {K:FZ9}{H:Hp}{v:List V}{a:α},rel K H v a->v.length=n
instance raNil:RpA Unit:=⟨0,fun _ _ vs _=>vs=[],fun _ h=>h,fun h=>by rw [h];rfl⟩
instance raCons {α β:Type}[Rp α][RpA β]:RpA (α × β) :=
 ⟨RpA.n β+1,fun K H vs p=>∃ v r,vs=v::r/\Rp.rel K H v p.1/\RpA.rel K H r p.2,
  fun s ⟨v,r,e,h1,h2⟩=>⟨v,r,e,Rp.mono s h1,RpA.mono s h2⟩,fun ⟨v,r,e,h1,h2⟩=>by rw [e,qgA,RpA.len h2]⟩
structure Ext (G H G' H':Hp):Prop where
 gg:Same G G'
 gh:Same G' H'
 hh:Same H H'
 no:∀ b,G b=none->H b≠none->G' b=none
section
variable {G H G1 H1 G2 H2 G0 H0:Hp}{p:Addr}{o:HO}
theorem Ext.refl (s:Same G H):Ext G H G H:=⟨.refl _,s,.refl _,fun _ h _=>h⟩
theorem Ext.trans (x:Ext G H G1 H1)(y:Ext G1 H1 G2 H2):Ext G H G2 H2 :=
 ⟨x.gg.trans y.gg,y.gh,x.hh.trans y.hh,fun b h1 h2=>y.no b (x.no b h1 h2) fun z=>h2 (x.hh.free z)⟩
theorem Same.both (s:Same G H):Same (upd G p o) (upd H p o):=fun b u e=>by
 by_cases hb:b=p
 ·subst hb;rw [AM] at e ⊢;exact e
 ·rw [Ak hb] at e ⊢;exact s b u e
theorem Ext.new (s:Same G H)(h:H p=none):Ext G H (upd G p o) (upd H p o) :=
 ⟨Same.new (s.free h),s.both,Same.new h,fun b h1 h2=>by
  have hb:b≠p:=fun z=>h2 (by rw [z];exact h);rw [Ak hb]
  exact h1⟩
theorem Ext.own (s:Same G H)(h:H p=none):Ext G H G (upd H p o):=⟨.refl _,s.trans (Same.new h),Same.new h,fun _ h _=>h⟩
theorem Ext.put (x:Ext G0 H0 G H)(h0:H0 p=none)(hg:G p=none):Ext G0 H0 G (upd H p o):=⟨x.gg,x.gh.put hg,x.hh.put h0,x.no⟩
theorem Ext.frz (x:Ext G0 H0 G H)(h0:H0 p=none)(hg:G p=none)(hh:H p=some o):Ext G0 H0 (upd G p o) H :=
 ⟨x.gg.trans (Same.new hg),fun b u e=>by
  by_cases hb:b=p
  ·subst hb;rw [AM] at e;rw [hh];exact e
  ·rw [Ak hb] at e
   exact x.gh b u e,x.hh,fun b h1 h2=>by
  have hb:b≠p:=fun z=>h2 (by rw [z];exact h0);rw [Ak hb]
  exact x.no b h1 h2⟩
end
section
variable {K:FZ9}{σ:St}{G:Hp}
def EV (K:FZ9){α:Type}[Rp α](te:TE)(σ:St)(G:Hp)(m:Option α):Prop :=
 ∀ G1,Same G G1->∀ a,m=some a->∀ H,Same G1 H->∀ Q:VK,(∀ v G2 H2,Ext G1 H G2 H2->Rp.rel K G2 v a->Q v H2)->te σ H Q
def TV (t:TT)(σ:St)(G:Hp)(m:Option Bool):Prop :=
 ∀ G1,Same G G1->∀ a,m=some a->∀ H,Same G1 H->∀ Q:Bool->Hp->Prop,(∀ G2 H2,Ext G1 H G2 H2->Q a H2)->t σ H Q
def LV (K:FZ9){α:Type}[Rp α](t:TA)(σ:St)(G:Hp)(n:Nat)(m:Option (List α)):Prop :=
 ∀ G1,Same G G1->∀ a,m=some a->∀ H,Same G1 H->∀ Q:List V->Hp->Prop,(∀ vs G2 H2,Ext G1 H G2 H2->vs.length=n->Paired (Rp.rel K G2) vs a->Q vs H2)->t σ H Q
def OV (t:TO)(σ:St)(G:Hp)(m:Option (Option Int)):Prop :=
 ∀ G1,Same G G1->∀ a,m=some a->∀ H,Same G1 H->∀ Q:Option Int->Hp->Prop,(∀ G2 H2,Ext G1 H G2 H2->Q a H2)->t σ H Q
def FV (K:FZ9){α:Type}[Rp α](te:TE)(σ:St)(G:Hp)(m:Option (List α)):Prop :=
 ∀ G1,Same G G1->∀ a,m=some a->∀ H,Same G1 H->∀ Q:VK,(∀ p vs G2 H2,Ext G1 H G2 H2->H p=none->G2 p=none->H2 p=some (.lst vs)->vs.length<=sizeLine->Paired (Rp.rel K G2) vs a->Q (.ref p) H2)->te σ H Q
section
variable {α β γ δ:Type}[Rp α][Rp β][Rp γ][Rp δ]{ta tb tc td:TE}{ma:Option α}{mb:Option β}{mc:Option γ}
theorem EV.run {te:TE}{H:Hp}{a:α}{Q:VK}{m:Option α}(e:EV K te σ G m)(hm:m=some a)(s:Same G H)(k:∀ v G2 H2,Ext G H G2 H2->Rp.rel K G2 v a->Q v H2):te σ H Q:=e G (.refl G) a hm H s Q k
theorem TV.run {t:TT}{H:Hp}{a:Bool}{Q:Bool->Hp->Prop}{m:Option Bool}(e:TV t σ G m)(hm:m=some a)(s:Same G H)(k:∀ G2 H2,Ext G H G2 H2->Q a H2):t σ H Q:=e G (.refl G) a hm H s Q k
theorem EV.of {te:TE}{m m':Option α}(e:EV K te σ G m)(h:m=m'):EV K te σ G m':=h ▸ e
theorem FV.ev {te:TE}{m:Option (List α)}(e:FV K te σ G m):EV K te σ G m:=by
 intro G1 s1 a ha H sH Q k;refine e G1 s1 a ha H sH Q fun p vs G2 H2 x h0 hg hh hz hp=>?_;exact k _ _ _ (x.frz h0 hg hh) ⟨p,vs,rfl,.inl AM,hz,Paired.imp' (fun _ _ r=>Rp.mono (Same.new hg) r) hp⟩
theorem ev_var {i:Nat}{v:V}{a:α}(h:σ[i]? = some (some v))(r:Rp.rel K G v a):EV K (Ii i) σ G (some a):=fun G1 s a' e H sH Q k=>by
 cases e;exact ⟨v,h,k v G1 H (.refl sH) (Rp.mono s r)⟩
theorem ev_c {v:V}{a:α}(h:∀ G,Rp.rel K G v a):EV K (tC v) σ G (some a):=fun G1 s a' e H sH Q k=>by
 cases e;exact k v G1 H (.refl sH) (h _)
theorem Aw {i:Int}:EV K (tC (.int i)) σ G (some i):=ev_c fun _=>rfl
theorem Cv {b:Bool}:EV K (tC (.bl b)) σ G (some b):=ev_c fun _=>rfl
theorem LZ {x:Str}(h:x.length<=sizeLine:=by decide +kernel):EV K (tC (.str x)) σ G (some x):=ev_c fun _=>⟨rfl,h⟩
theorem BV {r:R2}{f:α->β->Option γ}
  (h:∀ {G H:Hp}{v u:V}{a:α}{b:β}{c:γ},Same G H->Rp.rel K G v a->Rp.rel K G u b->f a b=some c->∀ {Q:VK},(∀ w G2 H2,Ext G H G2 H2->Rp.rel K G2 w c->Q w H2)->r v u H Q)
  (ea:EV K ta σ G ma) (eb:EV K tb σ G mb):EV K (tOp r ta tb) σ G (ma.bind fun a=>mb.bind fun b=>f a b):=by
 clear 7;obtain ⟨a,ha,hc⟩:=qaA.mp hc;obtain ⟨b,hb,hc⟩:=qaA.mp hc;clear 8 ea a ha;refine eb G2 (s1.trans x2.gg) b hb H2 x2.gh _ fun u G3 H3 x3 r3=>?_;exact h x3.gh (Rp.mono x3.gg r2) r3 hc fun w G4 H4 x4 r4=>k w G4 H4 ((x2.trans x3).trans x4) r4
theorem ev_un {r:V->Hp->VK->Prop}{f:α->Option γ}
  (h:∀ {G H:Hp}{v:V}{a:α}{c:γ},Same G H->Rp.rel K G v a->f a=some c->∀ {Q:VK},(∀ w G2 H2,Ext G H G2 H2->Rp.rel K G2 w c->Q w H2)->r v H Q)
  (ea:EV K ta σ G ma):EV K (tUn r ta) σ G (ma.bind fun a=>f a):=by
 clear 7;obtain ⟨a,ha,hc⟩:=qaA.mp hc;clear 8 ea a ha;exact h x2.gh r2 hc fun w G4 H4 x4 r4=>k w G4 H4 (x2.trans x4) r4
instance decMul (i j:Int):Decidable (CMul i j):=by unfold CMul;infer_instance
instance decDiv (i j:Int):Decidable (KO i j):=by unfold KO;infer_instance
def Hn (a b:Int):Option Int:=if CMul a b then some (a * b) else none
def divO (a b:Int):Option Int:=if KO a b then some (a / b) else none
def GZ (a b:Int):Option Int:=if 0<b then some (a % b) else none
theorem BI {p:Prop}[Decidable p]{α:Type}{a c:α}(h:(if p then some a else none)=some c):p/\a=c:=by
 by_cases hp:p
 ·rw [if_pos hp] at h;exact ⟨hp,qaB h⟩
 ·rw [if_neg hp] at h;cases h
section
variable {ia ib:Option Int}
theorem Be (ea:EV K ta σ G ia)(eb:EV K tb σ G ib):EV K (tOp (IV K) ta tb) σ G (ia.bind fun a=>ib.bind fun b=>some (a+b)) :=
 BV (fun s ra rb e Q k=>by cases ra;cases rb;cases e;exact k _ _ _ (.refl s) rfl) ea eb
theorem J1 (ea:EV K ta σ G ia)(eb:EV K tb σ G ib):EV K (tOp (rI0 fun i j=>.int (i - j)) ta tb) σ G (ia.bind fun a=>ib.bind fun b=>some (a - b)) :=
 BV (fun s ra rb e Q k=>by cases ra;cases rb;cases e;exact ⟨_,_,rfl,rfl,k _ _ _ (.refl s) rfl⟩) ea eb
theorem J7 (ea:EV K ta σ G ia)(eb:EV K tb σ G ib):EV K (tOp (rMul K) ta tb) σ G (ia.bind fun a=>ib.bind fun b=>Hn a b) :=
 BV (fun s ra rb e Q k=>by cases ra;cases rb;obtain ⟨h,rfl⟩:=BI e;exact ⟨h,k _ _ _ (.refl s) rfl⟩) ea eb
theorem EW (ea:EV K ta σ G ia)(eb:EV K tb σ G ib):EV K (tOp (rI (fun _ j=>0<j) fun i j=>.int (i % j)) ta tb) σ G (ia.bind fun a=>ib.bind fun b=>GZ a b) :=
 BV (fun s ra rb e Q k=>by cases ra;cases rb;obtain ⟨h,rfl⟩:=BI e;exact ⟨_,_,rfl,rfl,h,k _ _ _ (.refl s) rfl⟩) ea eb
theorem ev_div (ea:EV K ta σ G ia)(eb:EV K tb σ G ib):EV K (tOp (rI KO fun i j=>.int (i / j)) ta tb) σ G (ia.bind fun a=>ib.bind fun b=>divO a b) :=
 BV (fun s ra rb e Q k=>by cases ra;cases rb;obtain ⟨h,rfl⟩:=BI e;exact ⟨_,_,rfl,rfl,h,k _ _ _ (.refl s) rfl⟩) ea eb
theorem ev_neg (ea:EV K ta σ G ia):EV K (tUn (rU fun i=>.int (-i)) ta) σ G (ia.bind fun a=>some (-a)) :=
 ev_un (fun s ra e Q k=>by cases ra;cases e;exact ⟨_,rfl,k _ _ _ (.refl s) rfl⟩) ea
theorem FK {p:Int->Int->Bool}{q:List Nat->List Nat->Bool}(ea:EV K ta σ G ia)(eb:EV K tb σ G ib):EV K (tOp (K2 p q) ta tb) σ G (ia.bind fun a=>ib.bind fun b=>some (p a b)) :=
 BV (fun s ra rb e Q k=>by cases ra;cases rb;cases e;exact k _ _ _ (.refl s) rfl) ea eb
theorem D6 (ea:EV K ta σ G ia)(eb:EV K tb σ G ib):EV K (tOp rEq ta tb) σ G (ia.bind fun a=>ib.bind fun b=>some (decide (a=b))) :=
 BV (fun s ra rb e Q k=>by cases ra;cases rb;cases e;exact ⟨rfl,k _ _ _ (.refl s) (by show V.bl _=V.bl _;congr 1;simp)⟩) ea eb
theorem HU (ea:EV K ta σ G ia)(eb:EV K tb σ G ib):EV K (tOp rNe ta tb) σ G (ia.bind fun a=>ib.bind fun b=>some (!decide (a=b))) :=
 BV (fun s ra rb e Q k=>by cases ra;cases rb;cases e;exact ⟨rfl,k _ _ _ (.refl s) (by show V.bl _=V.bl _;congr 1;simp)⟩) ea eb
end
section
variable {ba bb:Option Bool}
theorem ev_neB (ea:EV K ta σ G ba)(eb:EV K tb σ G bb):EV K (tOp rNe ta tb) σ G (ba.bind fun a=>bb.bind fun b=>some (!decide (a=b))) :=
 BV (fun s ra rb e Q k=>by cases ra;cases rb;cases e;exact ⟨rfl,k _ _ _ (.refl s) (by show V.bl _=V.bl _;congr 1;simp)⟩) ea eb
theorem ev_not (ea:EV K ta σ G ba):EV K (tNotV ta) σ G (ba.bind fun a=>some (!a)):=by
 clear 7;obtain ⟨a,ha,hc⟩:=qaA.mp hc;cases hc;clear 8 ea a ha;cases r2;exact ⟨_,rfl,k _ _ _ x2 rfl⟩
theorem ED (ea:EV K ta σ G ba)(eb:EV K tb σ G bb):EV K (tAndV ta tb) σ G (ba.bind fun a=>cond a bb (some false)):=by
 clear 7;obtain ⟨a,ha,hc⟩:=qaA.mp hc;clear 8 ea a ha;cases r2;refine ⟨_,rfl,?_⟩
 cases a with
 | false=>cases hc;exact BX (k _ _ _ x2 rfl)
 | true=>exact BW (eb G2 (s1.trans x2.gg) c hc H2 x2.gh _ fun u G3 H3 x3 r3=>k _ _ _ (x2.trans x3) r3)
theorem AY (ea:EV K ta σ G ba):TV (tTest ta) σ G ba:=by
 clear 7;clear 8 ea c hc;cases r2;exact ⟨_,rfl,k _ _ x2⟩
theorem BC {t:TT}(ea:TV t σ G ba):TV (tNot t) σ G (ba.bind fun a=>some (!a)):=by
 clear 7;obtain ⟨a,ha,hc⟩:=qaA.mp hc;cases hc;exact ea G1 s1 a ha H sH _ fun G2 H2 x2=>k _ _ x2
theorem tv_and {t u:TT}(ea:TV t σ G ba)(eb:TV u σ G bb):TV (tAnd t u) σ G (ba.bind fun a=>cond a bb (some false)):=by
 clear 7;obtain ⟨a,ha,hc⟩:=qaA.mp hc;refine ea G1 s1 a ha H sH _ fun G2 H2 x2=>?_
 cases a with
 | false=>cases hc;exact BX (k _ _ x2)
 | true=>exact BW (eb G2 (s1.trans x2.gg) c hc H2 x2.gh _ fun G3 H3 x3=>k _ _ (x2.trans x3))
theorem F4 {t u:TT}(ea:TV t σ G ba)(eb:TV u σ G bb):TV (tOr t u) σ G (ba.bind fun a=>cond a (some true) bb):=by
 clear 7;obtain ⟨a,ha,hc⟩:=qaA.mp hc;refine ea G1 s1 a ha H sH _ fun G2 H2 x2=>?_
 cases a with
 | true=>cases hc;exact BW (k _ _ x2)
 | false=>exact BX (eb G2 (s1.trans x2.gg) c hc H2 x2.gh _ fun G3 H3 x3=>k _ _ (x2.trans x3))
theorem tv_tru {f:α->Bool}(h:∀ {G:Hp}{v:V}{a:α},Rp.rel K G v a->TruV K v G (f a))(mn:∀ {G H:Hp}{v:V}{k:Bool},Same G H->TruV K v G k->TruV K v H k)(ea:EV K ta σ G ma) :
  TV (fun σ H Q=>ta σ H fun x H'=>∃ k,TruV K x H' k/\Q k H') σ G (ma.bind fun a=>some (f a)):=by
 clear 7;obtain ⟨a,ha,hc⟩:=qaA.mp hc;cases hc;clear 8 ea a ha;exact ⟨_,mn x2.gh (h r2),k _ _ x2⟩
end
end
end
section
variable {K:FZ9}{σ:St}{G:Hp}{α β γ δ:Type}[Rp α][Rp β][Rp γ][Rp δ]{ta tb tc td:TE}{ma:Option α}{mb:Option β}{mc:Option γ}{md:Option δ}
section
variable {sa sb:Option Str}{ia ib:Option Int}
def catS (a b:Str):Option Str:=if a.length+b.length<=sizeLine then some (a++b) else none
theorem ev_catS (ea:EV K ta σ G sa)(eb:EV K tb σ G sb):EV K (tOp (IV K) ta tb) σ G (sa.bind fun a=>sb.bind fun b=>catS a b) :=
 BV (fun s ra rb e Q k=>by
  obtain ⟨rfl,z1⟩:=ra;obtain ⟨rfl,z2⟩:=rb;obtain ⟨h,rfl⟩:=BI e
  exact ⟨h,k _ _ _ (.refl s) ⟨rfl,by rw [len_app];exact h⟩⟩) ea eb
theorem JG {p:Int->Int->Bool}{q:List Nat->List Nat->Bool}(ea:EV K ta σ G sa)(eb:EV K tb σ G sb):EV K (tOp (K2 p q) ta tb) σ G (sa.bind fun a=>sb.bind fun b=>some (q a.cps.toList b.cps.toList)) :=
 BV (fun s ra rb e Q k=>by obtain ⟨rfl,z1⟩:=ra;obtain ⟨rfl,z2⟩:=rb;cases e;exact k _ _ _ (.refl s) rfl) ea eb
theorem ev_atS (ea:EV K ta σ G sa)(eb:EV K tb σ G ib):EV K (tOp (rAt K) ta tb) σ G (sa.bind fun a=>ib.bind fun i=>(atI a.cps.toList i).bind fun c=>some (⟨#[c]⟩:Str)) :=
 BV (fun s ra rb e Q k=>by
  obtain ⟨rfl,z1⟩:=ra;cases rb;obtain ⟨c,hc,e⟩:=qaA.mp e;cases e
  exact ⟨z1,c,hc,k _ _ _ (.refl s) ⟨rfl,by show 1<=sizeLine;decide⟩⟩) ea eb
end
theorem E9 {R:V->α->Prop}{xs:List V}{as:List α}{i:Int}{a:α}(p:Paired R xs as)(h:atI as i=some a):∃ v,atI xs i=some v/\R v a:=by
 have hl:=Paired.length p;unfold atI at h ⊢;obtain ⟨j,hj,h⟩:=qaA.mp h;rw [hl,hj]
 have hlt:j<xs.length:=by
  have:=(qtA.mp h).1;omega
 exact ⟨xs[j],quA hlt,Paired.at' p (quA hlt) h⟩
theorem Paired.app {α β:Type}{F:α->β->Prop}:∀ {l1 l2:List α}{m1 m2:List β},Paired F l1 m1->Paired F l2 m2->Paired F (l1++l2) (m1++m2)
 | _,_,_,_,.nil,h=>h
 | _,_,_,_,.cons r t,h=>.cons r (Paired.app t h)
theorem Paired.tk {α β:Type}{F:α->β->Prop}:∀ (n:Nat) {l:List α}{m:List β},Paired F l m->Paired F (l.take n) (m.take n)
 | 0,_,_,_=>by simpa using .nil
 | n+1,_,_,.nil=>by simpa using .nil
 | n+1,_,_,.cons r t=>.cons r (Paired.tk n t)
theorem Paired.dp {α β:Type}{F:α->β->Prop}:∀ (n:Nat) {l:List α}{m:List β},Paired F l m->Paired F (l.drop n) (m.drop n)
 | 0,_,_,h=>h
 | n+1,_,_,.nil=>by simpa using .nil
 | n+1,_,_,.cons r t=>Paired.dp n t
theorem Paired.st {α β:Type}{F:α->β->Prop}{a:α}{b:β}(r:F a b):∀ {l:List α}{m:List β}(j:Nat),Paired F l m->Paired F (l.set j a) (m.set j b)
 | _,_,_,.nil=>.nil
 | _,_,0,.cons _ t=>.cons r t
 | _,_,j+1,.cons q t=>.cons q (Paired.st r j t)
section
variable {la lb:Option (List α)}{ia ib:Option Int}
theorem Dh (ea:EV K ta σ G la)(eb:EV K tb σ G ib):EV K (tOp (rAt K) ta tb) σ G (la.bind fun a=>ib.bind fun i=>atI a i) :=
 BV (fun s ra rb e Q k=>by
  obtain ⟨l,xs,rfl,h,z,p⟩:=ra;cases rb;obtain ⟨v,hv,r⟩:=E9 p e
  exact .inl ⟨xs,v,.inl (s.rd h),hv,k _ _ _ (.refl s) r⟩) ea eb
theorem Ex {τ:Type}[Rp τ]{mt:Option τ}{i:Int}{f:τ->α}(h:∀ {G:Hp}{v:V}{p:τ},Rp.rel K G v p->∃ t xs w,v = .ref t/\SqT K G t xs/\atI xs i=some w/\Rp.rel K G w (f p))(ea:EV K ta σ G mt) :
  EV K (tOp (rAt K) ta (tC (.int i))) σ G (mt.bind fun p=>some (f p)):=by
 clear 7;obtain ⟨a,ha,hc⟩:=qaA.mp hc;cases hc;clear 8 ea a ha;obtain ⟨t,xs,w,rfl,ht,hw,r⟩:=h r2;exact .inr ⟨xs,w,x2.gh.tup ht,hw,k _ _ _ x2 r⟩
theorem Dv {mt:Option (α × β)}(ea:EV K ta σ G mt):EV K (tOp (rAt K) ta (tC (.int 0))) σ G (mt.bind fun p=>some p.1) :=
 Ex (τ:=α × β) (fun ⟨t,a,b,e,h,r1,r2⟩=>⟨t,_,a,e,h,rfl,r1⟩) ea
theorem EH {mt:Option (α × β)}(ea:EV K ta σ G mt):EV K (tOp (rAt K) ta (tC (.int 1))) σ G (mt.bind fun p=>some p.2) :=
 Ex (τ:=α × β) (fun ⟨t,a,b,e,h,r1,r2⟩=>⟨t,_,b,e,h,rfl,r2⟩) ea
theorem GK {mt:Option (T4 α β γ δ)}(ea:EV K ta σ G mt):EV K (tOp (rAt K) ta (tC (.int 0))) σ G (mt.bind fun p=>some p.a) :=
 Ex (τ:=T4 α β γ δ) (fun ⟨t,a,b,c,d,e,h,r1,r2,r3,r4⟩=>⟨t,_,a,e,h,rfl,r1⟩) ea
theorem Gh {mt:Option (T4 α β γ δ)}(ea:EV K ta σ G mt):EV K (tOp (rAt K) ta (tC (.int 1))) σ G (mt.bind fun p=>some p.b) :=
 Ex (τ:=T4 α β γ δ) (fun ⟨t,a,b,c,d,e,h,r1,r2,r3,r4⟩=>⟨t,_,b,e,h,rfl,r2⟩) ea
theorem Eg {mt:Option (T4 α β γ δ)}(ea:EV K ta σ G mt):EV K (tOp (rAt K) ta (tC (.int 2))) σ G (mt.bind fun p=>some p.c) :=
 Ex (τ:=T4 α β γ δ) (fun ⟨t,a,b,c,d,e,h,r1,r2,r3,r4⟩=>⟨t,_,c,e,h,rfl,r3⟩) ea
theorem KG {mt:Option (T4 α β γ δ)}(ea:EV K ta σ G mt):EV K (tOp (rAt K) ta (tC (.int 3))) σ G (mt.bind fun p=>some p.d) :=
 Ex (τ:=T4 α β γ δ) (fun ⟨t,a,b,c,d,e,h,r1,r2,r3,r4⟩=>⟨t,_,d,e,h,rfl,r4⟩) ea
theorem Gj {H:Hp}{Q:VK}{as:List α}{G1:Hp}(s:Same G1 H){vs:List V}(hz:vs.length<=sizeLine)(hp:Paired (Rp.rel K G1) vs as)
  (k:∀ p vs G2 H2,Ext G1 H G2 H2->H p=none->G2 p=none->H2 p=some (.lst vs)->vs.length<=sizeLine->Paired (Rp.rel K G2) vs as->Q (.ref p) H2):∀ p,H p=none->Q (.ref p) (upd H p (.lst vs)) :=
 fun p h=>k p vs G1 _ (.own s h) h (s.free h) AM hz hp
theorem FV.mono {H H' G1 G2:Hp}{as:List α}{Q:VK}(x:Ext G1 H G2 H')
  (k:∀ p vs G3 H3,Ext G1 H G3 H3->H p=none->G3 p=none->H3 p=some (.lst vs)->vs.length<=sizeLine->Paired (Rp.rel K G3) vs as->Q (.ref p) H3) :
  ∀ p vs G3 H3,Ext G2 H' G3 H3->H' p=none->G3 p=none->H3 p=some (.lst vs)->vs.length<=sizeLine->Paired (Rp.rel K G3) vs as->Q (.ref p) H3 :=
 fun p vs G3 H3 y h0=>k p vs G3 H3 (x.trans y) (x.hh.free h0)
def KN {α:Type}(a b:List α):Option (List α):=if a.length+b.length<=sizeLine then some (a++b) else none
theorem Gs (ea:EV K ta σ G la)(eb:EV K tb σ G lb):FV K (tOp (IV K) ta tb) σ G (la.bind fun a=>lb.bind fun b=>KN a b):=by
 clear 7;obtain ⟨a,ha,hc⟩:=qaA.mp hc;obtain ⟨b,hb,hc⟩:=qaA.mp hc;obtain ⟨hl,rfl⟩:=BI hc;clear 8 ea a ha;refine eb G2 (s1.trans x2.gg) b hb H2 x2.gh _ fun u G3 H3 x3 r3=>?_;obtain ⟨l1,xs,rfl,h1,z1,p1⟩:=Rp.mono x3.gg r2;obtain ⟨l2,ys,rfl,h2,z2,p2⟩:=r3;have e1:=Paired.length p1;have e2:=Paired.length p2;have hz:(xs++ys).length<=sizeLine:=by rw [qfA];omega
 exact ⟨xs,ys,x3.gh.rd h1,x3.gh.rd h2,by rw [qfA] at hz;exact hz,Gj x3.gh hz (Paired.app p1 p2) (FV.mono (x2.trans x3) k)⟩
def Cm {α:Type}(xs:List α)(lo hi:Option Int):List α:=(xs.drop (HT.sIx xs.length 0 lo)).take (HT.sIx xs.length xs.length hi - HT.sIx xs.length 0 lo)
theorem Paired.cut {α:Type}{R:V->α->Prop}{xs:List V}{as:List α}(p:Paired R xs as)(lo hi:Option Int):Paired R (KZ xs lo hi) (Cm as lo hi):=by
 unfold KZ Cm;rw [Paired.length p];exact Paired.tk _ (Paired.dp _ p)
section
variable {t1 t2:TO}{m1 m2:Option (Option Int)}
theorem Fs:OV LM σ G (some none):=fun G1 s1 a ha H sH Q k=>by
 cases ha;exact k _ _ (.refl sH)
theorem EA (ea:EV K ta σ G ia):OV (tPart ta) σ G (ia.bind fun i=>some (some i)):=by
 clear 7;obtain ⟨a,ha,hc⟩:=qaA.mp hc;cases hc;clear 8 ea a ha;cases r2;exact ⟨_,rfl,k _ _ x2⟩
theorem Dl (ea:EV K ta σ G la)(e1:OV t1 σ G m1)(e2:OV t2 σ G m2):FV K (tSl (rSl K) ta t1 t2) σ G (la.bind fun a=>m1.bind fun lo=>m2.bind fun hi=>some (Cm a lo hi)):=by
 clear 7;obtain ⟨a,ha,hc⟩:=qaA.mp hc;obtain ⟨lo,hlo,hc⟩:=qaA.mp hc;obtain ⟨hi,hhi,hc⟩:=qaA.mp hc;cases hc;clear 8 ea a ha;refine e1 G2 (s1.trans x2.gg) lo hlo H2 x2.gh _ fun G3 H3 x3=>?_;refine e2 G3 (s1.trans (x2.trans x3).gg) hi hhi H3 x3.gh _ fun G4 H4 x4=>?_;obtain ⟨l,xs,rfl,h,z,p⟩:=Rp.mono (x3.trans x4).gg r2;exact ⟨xs,.inl (x4.gh.rd h),Gj x4.gh (qyA (GN _ _ _) z) (Paired.cut p lo hi) (FV.mono ((x2.trans x3).trans x4) k)⟩
end
end
section
variable {t:TA}{n:Nat}{ml:Option (List α)}
theorem Bp:LV K BS σ G 0 (some ([]:List α)):=fun G1 s1 a ha H sH Q k=>by
 cases ha;exact k _ _ _ (.refl sH) rfl .nil
theorem Cp (ea:EV K ta σ G ma)(er:LV K t σ G n ml):LV K (AS ta t) σ G (n+1) (ma.bind fun a=>ml.bind fun r=>some (a::r)):=by
 clear 7;obtain ⟨a,ha,hc⟩:=qaA.mp hc;obtain ⟨r,hr,hc⟩:=qaA.mp hc;cases hc;clear 8 ea a ha;refine er G2 (s1.trans x2.gg) r hr H2 x2.gh _ fun vs G3 H3 x3 hl hp=>?_;exact k _ _ _ (x2.trans x3) (by rw [qgA,hl]) (.cons (Rp.mono x3.gg r2) hp)
theorem Bu (e:LV K t σ G n ml)(hn:n<=sizeLine:=by decide):FV K (tLst t) σ G ml:=by
 clear 7;refine e G1 s1 c hc H sH _ fun vs G2 H2 x2 hl hp=>?_;exact ⟨by omega,Gj x2.gh (by omega) hp (FV.mono x2 k)⟩
theorem Cu (ea:EV K ta σ G ma)(eb:EV K tb σ G mb):EV K (tTup (AS ta (AS tb BS))) σ G (ma.bind fun a=>mb.bind fun b=>some (a,b)):=by
 clear 7;obtain ⟨a,ha,hc⟩:=qaA.mp hc;obtain ⟨b,hb,hc⟩:=qaA.mp hc;cases hc;clear 8 ea a ha;refine eb G2 (s1.trans x2.gg) b hb H2 x2.gh _ fun u G3 H3 x3 r3=>⟨by show 2<=sizeLine;decide,fun p h=>?_⟩;have s:=Same.new (o:=.tup [v,u]) (x3.gh.free h);exact k _ _ _ ((x2.trans x3).trans (.new x3.gh h)) ⟨p,v,u,rfl,SqT.of AM,Rp.mono (x3.gg.trans s) r2,Rp.mono s r3⟩
theorem LR (ea:EV K ta σ G ma)(eb:EV K tb σ G mb)(ec:EV K tc σ G mc)(ed:EV K td σ G md):EV K (tTup (AS ta (AS tb (AS tc (AS td BS))))) σ G (ma.bind fun a=>mb.bind fun b=>mc.bind fun c=>md.bind fun d=>some (T4.mk a b c d)):=by
 clear 7;obtain ⟨a,ha,hc⟩:=qaA.mp hc;obtain ⟨b,hb,hc⟩:=qaA.mp hc;obtain ⟨c',hc',hc⟩:=qaA.mp hc;obtain ⟨d,hd,hc⟩:=qaA.mp hc;cases hc;clear 8 ea a ha;refine eb G2 (s1.trans x2.gg) b hb H2 x2.gh _ fun u G3 H3 x3 r3=>?_;refine ec G3 (s1.trans (x2.trans x3).gg) c' hc' H3 x3.gh _ fun w G4 H4 x4 r4=>?_;refine ed G4 (s1.trans ((x2.trans x3).trans x4).gg) d hd H4 x4.gh _ fun y G5 H5 x5 r5=>⟨by show 4<=sizeLine;decide,fun p h=>?_⟩;have s:=Same.new (o:=.tup [v,u,w,y]) (x5.gh.free h);exact k _ _ _ ((((x2.trans x3).trans x4).trans x5).trans (.new x5.gh h)) ⟨p,v,u,w,y,rfl,SqT.of AM,Rp.mono (((x3.trans x4).trans x5).gg.trans s) r2,Rp.mono ((x4.trans x5).gg.trans s) r3,Rp.mono (x5.gg.trans s) r4,Rp.mono s r5⟩
end
section
variable {t:TA}{A B:Type}[RpA A][RpA B]{mA:Option A}
def spM (K:FZ9){A:Type}{ρ:Type}[RpA A][Rp ρ](m:A->Option ρ):Sp:=fun vs H Q _ =>
 ∃ G a r,Same G H/\RpA.rel K G vs a/\m a=some r/\∀ v G2 H2,Ext G H G2 H2->Rp.rel K G2 v r->Q v H2
theorem Dx {A:Type}{ρ:Type}[RpA A][Rp ρ]{m:A->Option ρ}{vs:List V}{H:Hp}{Q:VK}{E:XK}(h:spM K m vs H Q E):vs.length=RpA.n A:=by
 obtain ⟨G,a,r,_,h,_⟩:=h;exact RpA.len h
theorem BH {la:Option (List α)}(ea:EV K ta σ G la):EV K (tCB (Jo K) (AS ta BS)) σ G (la.bind fun a=>some (a.length:Int)):=by
 clear 7;obtain ⟨a,ha,hc⟩:=qaA.mp hc;cases hc;clear 8 ea a ha;obtain ⟨l,xs,rfl,h,z,p⟩:=r2;exact ⟨xs,.inl (.inl (x2.gh.rd h)),by rw [Paired.length p];exact k _ _ _ x2 rfl⟩
theorem Kw {la:Option (α × β)}(ea:EV K ta σ G la):EV K (tCB (Jo K) (AS ta BS)) σ G (la.bind fun _=>some (2:Int)):=by
 clear 7;obtain ⟨a,ha,hc⟩:=qaA.mp hc;cases hc;clear 8 ea a ha;obtain ⟨t,x,y,rfl,h,_⟩:=r2;exact ⟨_,.inr (x2.gh.tup h),k _ _ _ x2 rfl⟩
theorem ev_min {ia ib:Option Int}(ea:EV K ta σ G ia)(eb:EV K tb σ G ib):EV K (tCB (fun xs H Q=>∃ i j,xs=[.int i,.int j]/\Q (.int (if j<i then j else i)) H) (AS ta (AS tb BS))) σ G (ia.bind fun a=>ib.bind fun b=>some (if b<a then b else a)):=by
 clear 7;obtain ⟨a,ha,hc⟩:=qaA.mp hc;obtain ⟨b,hb,hc⟩:=qaA.mp hc;cases hc;clear 8 ea a ha;refine eb G2 (s1.trans x2.gg) b hb H2 x2.gh _ fun u G3 H3 x3 r3=>?_;cases r2;cases r3;exact ⟨_,_,rfl,k _ _ _ (x2.trans x3) rfl⟩
theorem Gf {la:Option (List α)}(ea:EV K ta σ G la):FV K (tCB (fun xs H Q=>∃ p ys,xs=[.ref p]/\(SqL K H p ys\/SqT K H p ys)/\∀ l,H l=none->Q (.ref l) (upd H l (.lst ys))) (AS ta BS)) σ G la:=by
 intro G1 s1 a ha H sH Q k;clear 8 ea a ha;obtain ⟨l,xs,rfl,h,z,p⟩:=r2;exact ⟨l,xs,rfl,.inl (.inl (x2.gh.rd h)),Gj x2.gh z p (FV.mono x2 k)⟩
end
inductive TyS (K:FZ9)(H:Hp):V->String->Prop where
 | non:TyS K H .non "NoneType"
 | bl (x:Bool):TyS K H (.bl x) "bool"
 | int (i:Int):TyS K H (.int i) "int"
 | str (x:Str):TyS K H (.str x) "str"
 | lst {a:Addr}{xs:List V}(e:SqL K H a xs):TyS K H (.ref a) "list"
 | tup {a:Addr}{xs:List V}(e:SqT K H a xs):TyS K H (.ref a) "tuple"
 | dK {a:Addr}{kvs:List (Key × V)}(e:Rd H a (.dK kvs)):TyS K H (.ref a) "dict"
 | dT {a:Addr}{kvs:List (List Key × V)}(e:Rd H a (.dT kvs)):TyS K H (.ref a) "dict"
def LT (K:FZ9):List V->Hp->VK->Prop:=fun vs H Q=>∃ x t T b,vs=[x,.ty T]/\TyS K H x t/\MJ t T=some b/\Q (.bl b) H
theorem M4 {X:Cx}:CC X (.builtin "isinstance") (LT X.K):=by
 intro pins s σ H vs us Q I r h;obtain ⟨x,t,T,b,rfl,ty,e,q⟩:=h;obtain ⟨u,w',rfl,rx,r2⟩:=Jh r;obtain rfl:w'=Value.type T:=r2;have e:=kit_of (K:=X.K) e;have fin:∀ tk,EP X pins σ Q (.bool b) { s with toks:=tk }:=fun tk=>⟨.bl b,H,I.tok tk,rfl,q⟩
 cases ty with
 | non=>cases (show u=Value.none from rx);exact PySem.W.kia_one PySem.W.kitx_none I.kIn True.intro e (fun z=>nomatch z) fin
 | bl y=>cases (show u=Value.bool y from rx);exact PySem.W.kia_one PySem.W.kitx_bool I.kIn True.intro e (fun z=>nomatch z) fin
 | int i=>obtain ⟨t,q'⟩:=(show ∃ t,u=Value.int i t from rx);cases q';exact PySem.W.kia_one PySem.W.kitx_int I.kIn True.intro e (fun z=>nomatch z) fin
 | str y=>obtain ⟨t,q'⟩:=(show ∃ t,u=Value.str y t from rx);cases q';exact PySem.W.kia_one PySem.W.kitx_str I.kIn True.intro e (fun z=>nomatch z) fin
 | @lst a xs ea =>
  cases (show u=Value.ref a from rx);obtain ⟨its,_,pl,_⟩:=I.list ea;obtain ⟨o,n,h1,h2,_⟩:=pl;exact PySem.W.kia_one PySem.W.kitx_list I.kIn ⟨o,h1,h2⟩ e (fun z=>nomatch z) fin
 | @tup a xs ea =>
  cases (show u=Value.ref a from rx);obtain ⟨its,_,pl,_⟩:=I.tuple ea;obtain ⟨o,h1,h2,_⟩:=pl;exact PySem.W.kia_one PySem.W.kitx_tuple I.kIn ⟨o,h1,h2⟩ e (fun z=>nomatch z) fin
 | @dK a kvs ea =>
  cases (show u=Value.ref a from rx);obtain ⟨_,_,vs,_,p⟩:=ea.ok I.hok;obtain ⟨o,es,ep,h1,h2,_⟩:=p;exact PySem.W.kia_one PySem.W.kitx_dict I.kIn ⟨o,h1,h2.1⟩ e (fun z=>nomatch z) fin
 | @dT a kvs ea =>
  cases (show u=Value.ref a from rx);obtain ⟨_,_,xs,_,o,es,ep,h1,h2,_⟩:=ea.ok I.hok;exact PySem.W.kia_one PySem.W.kitx_dict I.kIn ⟨o,h1,h2.1⟩ e (fun z=>nomatch z) fin
class RpT (α:Type) [Rp α] where
 tn:String
 ty:∀ {K:FZ9}{H:Hp}{v:V}{a:α},Rp.rel K H v a->TyS K H v tn
instance rtInt:RpT Int:=⟨"int",fun h=>by cases h;exact .int _⟩
instance rtStr:RpT Str:=⟨"str",fun h=>by obtain ⟨rfl,_⟩:=h;exact .str _⟩
instance rtList:RpT (List α):=⟨"list",fun h=>by obtain ⟨l,xs,rfl,h,_⟩:=h;exact .lst (.inl h)⟩
instance rtPair:RpT (α × β):=⟨"tuple",fun h=>by obtain ⟨l,x,y,rfl,h,_⟩:=h;exact .tup h⟩
instance rtT4:RpT (T4 α β γ δ):=⟨"tuple",fun h=>by obtain ⟨l,x,y,z,w,rfl,h,_⟩:=h;exact .tup h⟩
theorem TyS.mono {H H':Hp}{v:V}{t:String}(s:Same H H')(h:TyS K H v t):TyS K H' v t:=by
 cases h with
 | non=>exact .non
 | bl=>exact .bl _
 | int=>exact .int _
 | str=>exact .str _
 | lst e=>exact .lst (s.seq e)
 | tup e=>exact .tup (s.tup e)
 | dK e=>exact .dK (s.rd e)
 | dT e=>exact .dT (s.rd e)
theorem CK [RpT α]{T:String}{b:Bool}(h:MJ (RpT.tn α) T=some b)(ea:EV K ta σ G ma):EV K (tCB (LT K) (AS ta (AS (tC (.ty T)) BS))) σ G (ma.bind fun _=>some b):=by
 clear 7;obtain ⟨a,ha,hc⟩:=qaA.mp hc;cases hc;clear 8 ea a ha;exact ⟨_,_,_,_,rfl,(RpT.ty r2).mono x2.gh,h,k _ _ _ x2 rfl⟩
theorem EqTy.imp {k:Nat}{α:Type}[DecidableEq α]{R R':Hp->V->α->Prop}(E:EqTy K k R)(h:∀ H v a,R' H v a->R H v a):EqTy K k R' :=
 ⟨fun hK I a b=>E.fn hK I (h _ _ _ a) (h _ _ _ b),fun A hK I hu r1 r2 a b=>E.eq A hK I hu r1 r2 (h _ _ _ a) (h _ _ _ b),fun A hK I hu r1 r2 a b=>E.rc A hK I hu r1 r2 (h _ _ _ a) (h _ _ _ b)⟩
class RpE (α:Type) [Rp α] [DecidableEq α] where
 k:Nat
 ty:∀ K:FZ9,EqTy K k (Rp.rel (α:=α) K)
instance reInt:RpE Int:=⟨0,fun _=>eqInt⟩
instance reStr:RpE Str:=⟨0,fun _=>eqStr.imp fun _ _ _ h=>h.1⟩
instance reList {α:Type}[Rp α][DecidableEq α][RpE α]:RpE (List α):=⟨RpE.k α+1,fun K=>(eqLst (RpE.ty K)).imp fun _ _ _ ⟨l,xs,e,h,_,p⟩=>⟨l,xs,e,.inl h,p⟩⟩
theorem EqTy.up {k j:Nat}{α:Type}[DecidableEq α]{R:Hp->V->α->Prop}(E:EqTy K k R)(h:k<=j):EqTy K j R :=
 ⟨fun hK I a b=>E.fn hK I a b,fun A hK I hu r1 r2 a b=>E.eq A hK I (by omega) r1 r2 a b,fun A hK I hu r1 r2 a b=>E.rc A hK I (by omega) r1 r2 a b⟩
instance rePair {α β:Type}[Rp α][DecidableEq α][RpE α][Rp β][DecidableEq β][RpE β]:RpE (α × β) :=
 ⟨max (RpE.k α) (RpE.k β)+1,fun K=>(eqPair ((RpE.ty (α:=α) K).up (Nat.le_max_left _ _)) ((RpE.ty (α:=β) K).up (Nat.le_max_right _ _)))⟩
section
variable {α:Type}[Rp α][DecidableEq α]{m1 m2:Option α}
def rEqD (K:FZ9)(α:Type)[Rp α][DecidableEq α]:R2:=fun x y H Q=>∃ a b:α,Rp.rel K H x a/\Rp.rel K H y b/\Q (.bl (decide (a=b))) H
def rNeD (K:FZ9)(α:Type)[Rp α][DecidableEq α]:R2:=fun x y H Q=>∃ a b:α,Rp.rel K H x a/\Rp.rel K H y b/\Q (.bl (!decide (a=b))) H
theorem op_eqM {X:Cx}{j:Nat}(α:Type)[Rp α][DecidableEq α][RpE α](hr:Room j X.A)(hk:RpE.k α<=10):OpR X (compareOp .Eq) (rEqD X.K α):=op_eqD (RpE.ty X.K) hr hk
theorem op_neM {X:Cx}{j:Nat}(α:Type)[Rp α][DecidableEq α][RpE α](hr:Room j X.A)(hk:RpE.k α<=10):OpR X (compareOp .NotEq) (rNeD X.K α):=op_neD (RpE.ty X.K) hr hk
theorem ev_eq (ea:EV K ta σ G m1)(eb:EV K tb σ G m2):EV K (tOp (rEqD K α) ta tb) σ G (m1.bind fun a=>m2.bind fun b=>some (decide (a=b))) :=
 BV (fun s ra rb e Q k=>by cases e;exact ⟨_,_,Rp.mono s ra,Rp.mono s rb,k _ _ _ (.refl s) rfl⟩) ea eb
theorem Jc (ea:EV K ta σ G m1)(eb:EV K tb σ G m2):EV K (tOp (rNeD K α) ta tb) σ G (m1.bind fun a=>m2.bind fun b=>some (!decide (a=b))) :=
 BV (fun s ra rb e Q k=>by cases e;exact ⟨_,_,Rp.mono s ra,Rp.mono s rb,k _ _ _ (.refl s) rfl⟩) ea eb
end
end
inductive Fl (S ρ:Type) where
 | nx (s:S)
 | bk (s:S)
 | rt (r:ρ)
def FI {α S ρ:Type}(f:α->S->Option (Fl S ρ)):List α->S->Option (Fl S ρ)
 | [],s=>some (.nx s)
 | a::as,s=>(f a s).bind fun fl=>match fl with
  | .nx s'=>FI f as s'
  | .bk s'=>some (.nx s')
  | .rt r=>some (.rt r)
def FO {S ρ:Type}(c:S->Option Bool)(f:S->Option (Fl S ρ)):Nat->S->Option (Fl S ρ)
 | 0,_=>none
 | n+1,s=>(c s).bind fun b=>cond b ((f s).bind fun fl=>match fl with
  | .nx s'=>FO c f n s'
  | .bk s'=>some (.nx s')
  | .rt r=>some (.rt r)) (some (.nx s))
def L7:Nat:=16777216
def Dm {α β:Type}(fc:α->Option Bool)(fe:α->Option β):List α->Option (List β)
 | []=>some []
 | a::r=>(fc a).bind fun b=>cond b ((fe a).bind fun y=>(Dm fc fe r).bind fun ys=>some (y::ys)) (Dm fc fe r)
def Ck {α β:Type}(fe:α->Option β):List α->Option (List β)
 | []=>some []
 | a::r=>(fe a).bind fun y=>(Ck fe r).bind fun ys=>some (y::ys)
theorem HN {α β:Type}(fe:α->Option β):∀ as,Dm (fun _=>some true) fe as=Ck fe as
 | []=>rfl
 | a::r=>by
  show ((fe a).bind fun y=>(Dm (fun _=>some true) fe r).bind fun ys=>some (y::ys))=_;rw [HN fe r]
  rfl
def Fe (lo hi:Int):Option (List Int):=if (-(2 ^ 62)<=lo/\lo<2 ^ 62/\-(2 ^ 62)<=hi/\hi<2 ^ 62)/\(hi - lo).toNat<=sizeLine then some ((List.range (hi - lo).toNat).map fun (i:Nat)=>lo+(i:Int)) else none
section
variable {K:FZ9}{σ:St}{G:Hp}{α β γ δ:Type}[Rp α][Rp β][Rp γ][Rp δ]{ta tb tc td:TE}{ma:Option α}{mb:Option β}{mc:Option γ}{md:Option δ}
def IW (K:FZ9){α:Type}[Rp α](wi:TI)(σ:St)(G:Hp)(m:Option (List α)):Prop :=
 ∀ G1,Same G G1->∀ a,m=some a->∀ H,Same G1 H->∀ R:It->Hp->Prop,(∀ J vs G2 H2,Ext G1 H G2 H2->Yields J G2 vs->vs.length<=sizeLine->Paired (Rp.rel K G2) vs a->R J H2)->wi σ H R
theorem Bo {la:Option (List α)}(ea:EV K ta σ G la):IW K (iAny K ta) σ G la:=by
 intro G1 s1 a ha H sH R k;clear 8 ea a ha;obtain ⟨l,xs,rfl,h,z,p⟩:=r2;exact .inl ⟨⟨xs,.inl (x2.gh.rd h)⟩,k _ xs G2 H2 x2 (Ju (.inl h)) z p⟩
def Hd (x:Str):List Str:=x.cps.toList.map fun c=>(⟨#[c]⟩:Str)
theorem JE (x:Str)(H:Hp):Paired (Rp.rel K H) (DQ x) (Hd x):=by
 unfold DQ Hd
 induction x.cps.toList with
 | nil=>exact .nil
 | cons c r ih=>exact .cons ⟨rfl,by show 1<=sizeLine;decide⟩ ih
theorem iw_str {sa:Option Str}(ea:EV K ta σ G sa):IW K (iAny K ta) σ G (sa.bind fun a=>some (Hd a)):=by
 intro G1 s1 a ha H sH R k;obtain ⟨b,hb,ha⟩:=qaA.mp ha;cases ha;clear 8 ea b hb;obtain ⟨rfl,z⟩:=r2;exact k _ (DQ b) G2 H2 x2 (Ki b G2) (by unfold DQ;rw [qeA];exact z) (JE b G2)
theorem DM (H:Hp)(f:Nat->Int):∀ l:List Nat,Paired (Rp.rel K H) (l.map fun i=>V.int (f i)) (l.map fun i=>f i)
 | []=>.nil
 | a::r=>.cons rfl (DM H f r)
theorem DJ {ia:Option Int}(ea:EV K ta σ G ia):IW K (iRng1 (AS ta BS)) σ G (ia.bind fun j=>Fe 0 j):=by
 intro G1 s1 a ha H sH R k;obtain ⟨j,hj,ha⟩:=qaA.mp ha;obtain ⟨⟨hb,hz⟩,rfl⟩:=BI ha;clear 8 ea j hj;cases r2;refine ⟨j,rfl,hb.2.2.1,hb.2.2.2,?_⟩;have e:(j - 0).toNat=j.toNat:=by omega
 rw [e] at hz k;exact k (Itr 0 j.toNat) _ G2 H2 x2 (FU 0 j.toNat G2) (by rw [qeA,qiA];exact hz) (DM G2 (fun i=>(0:Int)+(i:Int)) _)
theorem iw_rng2 {ia ib:Option Int}(ea:EV K ta σ G ia)(eb:EV K tb σ G ib):IW K (iRng2 (AS ta (AS tb BS))) σ G (ia.bind fun i=>ib.bind fun j=>Fe i j):=by
 intro G1 s1 a ha H sH R k;obtain ⟨i,hi,ha⟩:=qaA.mp ha;obtain ⟨j,hj,ha⟩:=qaA.mp ha;obtain ⟨⟨hb,hz⟩,rfl⟩:=BI ha;clear 8 ea i hi;refine eb G2 (s1.trans x2.gg) j hj H2 x2.gh _ fun u G3 H3 x3 r3=>?_;cases r2;cases r3;exact ⟨i,j,rfl,hb,k (Itr i (j - i).toNat) _ G3 H3 (x2.trans x3) (FU i (j - i).toNat G3) (by rw [qeA,qiA];exact hz) (DM G3 (fun n=>i+(n:Int)) _)⟩
theorem tv_yes:TV tYes σ G (some true):=fun G1 s1 a ha H sH Q k=>by
 cases ha;exact k _ _ (.refl sH)
theorem Paired.getR {F:V->α->Prop}:∀ {xs:List V}{as:List α}{i:Nat}{v:V},Paired F xs as->xs[i]? = some v->∃ a,as[i]? = some a/\F v a
 | _,_,_,_,.nil,e=>by simp at e
 | _,_,0,_,.cons r _,e=>by simp at e;subst e;exact ⟨_,rfl,r⟩
 | _,_,i+1,_,.cons _ t,e=>Paired.getR (i:=i) t (by simpa using e)
theorem LW {cap:List Nat}{wi:TI}{tt:TT}{te:TE}{mi:Option (List α)}{fc:α->Option Bool}{fe:α->Option β}(ei:IW K wi σ G mi)
  (hb:∀ (x:V) (a:α) (G1:Hp),Same G G1->Rp.rel K G1 x a->TV tt ((Cj cap σ).set 0 (some x)) G1 (fc a)/\EV K te ((Cj cap σ).set 0 (some x)) G1 (fe a)) :
  FV K (LB cap wi tt te) σ G (mi.bind fun as=>Dm fc fe as):=by
 clear 7;obtain ⟨as,has,hc⟩:=qaA.mp hc;refine ei G1 s1 as has H sH _ fun J vs Ga Ha xa Y hz pr p hp=>?_;have hla:=Paired.length pr
 refine ⟨fun i m ys H2=>m=vs.length - i/\i<=vs.length/\∃ G2 bs cs,Ext Ga Ha G2 H2/\G2 p=none/\H2 p=some (.lst ys)/\ys.length<=i/\Paired (Rp.rel K G2) ys bs/\Dm fc fe (as.drop i)=some cs/\c=bs++cs,
  ⟨vs.length,by simp,qsB _,Ga,[],c,.own xa.gh hp,xa.gh.free hp,AM,qxA _,.nil,hc,rfl⟩,?_⟩
 rintro i m ys H2 ⟨rfl,hi,G2,bs,cs,x2,hg,hh,hy,hpr,hcs,rfl⟩;by_cases hlt:i<vs.length
 ·refine .inr ⟨Y.go i _ (x2.gg.trans x2.gh) hlt,fun ys' H'=>∃ G2 bs' cs',Ext Ga Ha G2 H'/\G2 p=none/\H' p=some (.lst ys')/\ys'.length<=i+1/\Paired (Rp.rel K G2) ys' bs'/\Dm fc fe (as.drop (i+1))=some cs'/\bs++cs=bs'++cs',
   fun ys' H' ⟨G3,bs',cs',h⟩=>⟨vs.length - (i+1),by omega,rfl,hlt,G3,bs',cs',h⟩,fun x H3 y=>?_⟩
  obtain ⟨rfl,hx⟩:=Y.yld i _ x H3 (x2.gg.trans x2.gh) hlt y;obtain ⟨a,hai,ra⟩:=Paired.getR pr hx
  have hd:as.drop i=a::as.drop (i+1):=by
   obtain ⟨h1,h2⟩:=qtA.mp hai;rw [List.drop_eq_getElem_cons h1,h2]
  rw [hd] at hcs;obtain ⟨b,hbb,hcs⟩:=qaA.mp hcs;have B:=hb x a G2 (s1.trans (xa.gg.trans x2.gg)) (Rp.mono x2.gg ra);refine B.1 G2 (.refl _) b hbb _ x2.gh _ fun G5 H5 x5=>?_;have hp5:H5 p=some (.lst ys):=x5.hh _ _ hh;have hg5:G5 p=none:=x5.no p hg (by rw [hh];exact fun z=>nomatch z)
  cases b with
  | false =>
   rw [if_neg qjB];exact ⟨G5,bs,cs,x2.trans x5,hg5,hp5,by omega,Paired.imp' (fun _ _ r=>Rp.mono x5.gg r) hpr,hcs,rfl⟩
  | true =>
   rw [if_pos rfl];obtain ⟨z,hze,hcs⟩:=qaA.mp hcs;obtain ⟨cs',hcs',hcs⟩:=qaA.mp hcs;cases hcs;refine B.2 G5 x5.gg z hze H5 x5.gh _ fun v G6 H6 x6 r6=>?_;have hp6:H6 p=some (.lst ys):=x6.hh _ _ hp5;have hg6:G6 p=none:=x6.no p hg5 (by rw [hp5];exact fun z=>nomatch z);refine ⟨hp6,by omega,G6,bs++[z],cs',((x2.trans x5).trans x6).put hp hg6,hg6,AM,?_,Paired.app (Paired.imp' (fun _ _ r=>Rp.mono (x5.trans x6).gg r) hpr) (.cons r6 .nil),hcs',by simp⟩;rw [qfA,qhA];omega
 ·have e:i=vs.length:=by omega
  subst e;have hd:as.drop vs.length=[]:=List.drop_eq_nil_of_le (by omega);rw [hd] at hcs;cases hcs;refine .inl ⟨Y.stop _ (x2.gg.trans x2.gh),?_⟩;rw [List.append_nil] at k;exact k p ys G2 H2 (xa.trans x2) (xa.hh.free hp) hg hh (by omega) hpr
theorem C9 {cap:List Nat}{wi:TI}{te:TE}{mi:Option (List α)}{fe:α->Option β}(ei:IW K wi σ G mi)
  (hb:∀ (x:V) (a:α) (G1:Hp),Same G G1->Rp.rel K G1 x a->EV K te ((Cj cap σ).set 0 (some x)) G1 (fe a)) :
  FV K (LB cap wi tYes te) σ G (mi.bind fun as=>Ck fe as):=by
 have h:=LW (tt:=tYes) (fc:=fun _=>some true) ei fun x a G1 s r=>⟨tv_yes,hb x a G1 s r⟩;have e:(fun as=>Dm (fun _=>some true) fe as)=fun as=>Ck fe as:=funext (HN fe);rw [e] at h;exact h
end
section
variable {K:FZ9}{σ:St}{G H:Hp}{α β:Type}[Rp α][Rp β]{te:TE}{tt:TT}{t u rest:TS}{D:Ends}{i:Nat}{a:α}{m:Option α}
theorem Af (e:EV K te σ G m)(hm:m=some a)(s:Same G H)(k:∀ v G2 H2,Ext G H G2 H2->Rp.rel K G2 v a->rest D (σ.set i (some v)) H2):Dc (HG te (De i)) rest D σ H:=e.run hm s k
theorem AQ (e:EV K te σ G m)(hm:m=some a)(s:Same G H)(k:∀ v G2 H2,Ext G H G2 H2->Rp.rel K G2 v a->D.rt v H2):Dc (tRet te) rest D σ H:=e.run hm s k
theorem B9 {b:Bool}{m:Option Bool}(e:TV tt σ G m)(hm:m=some b)(s:Same G H)(k:∀ G2 H2,Ext G H G2 H2->if b=true then t { D with nx:=rest D } σ H2 else u { D with nx:=rest D } σ H2) :
  Dc (Ht tt t u) rest D σ H:=e.run hm s k
theorem E7 (Pv:St->Hp->Prop)(h:∀ nx:St->Hp->Prop,(∀ σ' H',Pv σ' H'->nx σ' H')->Dc t BY { D with nx:=nx } σ H)(key:∀ σ' H',Pv σ' H'->rest D σ' H'):Dc t rest D σ H:=h (rest D) key
structure LoopOb (K:FZ9){α S ρ:Type}[Rp α](RR:ρ->V->Hp->Hp->Prop)(f:α->S->Option (Fl S ρ))(g:TG)(tb:TS)(D:Ends)(σ:St)(G2 H2:Hp)(as:List α)(s0:S)(res:Fl S ρ)(RS:S->St->Hp->Hp->Prop):Prop where
 start:RS s0 σ G2 H2
 keep:∀ s σ' G' H',RS s σ' G' H'->Same G2 G'/\Same G' H'
 step:∀ (x:V) (a:α) (s:S) (σ1:St) (G1 H1:Hp) (fl:Fl S ρ),a∈as->RS s σ1 G1 H1->Rp.rel K G1 x a->f a s=some fl->∀ D':Ends,(∀ s' σ' G' H',fl = .nx s'->RS s' σ' G' H'->D'.nx σ' H')->(∀ s' σ' G' H',fl = .nx s'->RS s' σ' G' H'->D'.ct σ' H') ->
  (∀ s' σ' G' H',fl = .bk s'->RS s' σ' G' H'->D'.bk σ' H')->(∀ r v G' H',fl = .rt r->RR r v G' H'->D'.rt v H')->g x σ1 H1 fun σ2 H2=>tb D' σ2 H2
 nxt:∀ s σ' G' H',res = .nx s->RS s σ' G' H'->D.nx σ' H'
 rtn:∀ r v G' H',res = .rt r->RR r v G' H'->D.rt v H'
theorem EU {S ρ:Type}{RR:ρ->V->Hp->Hp->Prop}{f:α->S->Option (Fl S ρ)}{wi:TI}{g:TG}{tb:TS}{mi:Option (List α)}{as:List α}{s0:S}{res:Fl S ρ}(ei:IW K wi σ G mi)(hm:mi=some as)(hf:FI f as s0=some res)(sg:Same G H)
  (k:∀ G2 H2,Ext G H G2 H2->∃ RS,LoopOb K RR f g tb { D with nx:=rest D } σ G2 H2 as s0 res RS):Dc (tFor wi g tb) rest D σ H:=by
 refine ei G (.refl G) as hm H sg _ fun J vs G2 H2 x2 Y hz pr=>?_;obtain ⟨RS,L⟩:=k G2 H2 x2;have hla:=Paired.length pr;refine ⟨fun i m σ' H'=>m=vs.length - i/\i<=vs.length/\∃ s G',RS s σ' G' H'/\FI f (as.drop i) s=some res,⟨vs.length,by simp,qsB _,s0,G2,L.start,hf⟩,?_⟩;rintro i m σ' H' ⟨rfl,hi,s,G',rs,hfo⟩;obtain ⟨k1,k2⟩:=L.keep _ _ _ _ rs;by_cases hlt:i<vs.length
 ·refine .inr ⟨Y.go i _ (k1.trans k2) hlt,fun σ'' H''=>∃ s' G'',RS s' σ'' G'' H''/\FI f (as.drop (i+1)) s'=some res,fun σ'' H'' ⟨s',G'',h⟩=>⟨vs.length - (i+1),by omega,rfl,hlt,s',G'',h⟩,fun x H3 y=>?_⟩;obtain ⟨rfl,hx⟩:=Y.yld i _ x H3 (k1.trans k2) hlt y;obtain ⟨a,hai,ra⟩:=Paired.getR pr hx
  have hd:as.drop i=a::as.drop (i+1):=by
   obtain ⟨h1,h2⟩:=qtA.mp hai;rw [List.drop_eq_getElem_cons h1,h2]
  rw [hd] at hfo;obtain ⟨fl,hfl,hfo⟩:=qaA.mp hfo;refine L.step x a s σ' G' _ fl (qsA hai) rs (Rp.mono k1 ra) hfl _ ?_ ?_ ?_ ?_
  ·intro s' σ'' G'' H'' e r;subst e;exact ⟨s',G'',r,hfo⟩
  ·intro s' σ'' G'' H'' e r;subst e;exact ⟨s',G'',r,hfo⟩
  ·intro s' σ'' G'' H'' e r;subst e;exact L.nxt s' σ'' G'' H'' (qaB hfo).symm r
  ·intro r v G'' H'' e rl;subst e;exact L.rtn r v G'' H'' (qaB hfo).symm rl
 ·have e:i=vs.length:=by omega
  subst e;have hd:as.drop vs.length=[]:=List.drop_eq_nil_of_le (by omega);rw [hd] at hfo;exact .inl ⟨Y.stop _ (k1.trans k2),L.nxt s σ' G' H' (qaB hfo).symm rs⟩
structure WhileOb (K:FZ9){S ρ:Type}(RR:ρ->V->Hp->Hp->Prop)(c:S->Option Bool)(f:S->Option (Fl S ρ))(tt:TT)(tb:TS)(D:Ends)(σ:St)(G2 H2:Hp)(s0:S)(res:Fl S ρ)(RS:S->St->Hp->Hp->Prop):Prop where
 start:RS s0 σ G2 H2
 keep:∀ s σ' G' H',RS s σ' G' H'->Same G' H'
 test:∀ s σ' G' H' b,RS s σ' G' H'->c s=some b->∀ Q:Bool->Hp->Prop,(∀ G'' H'',RS s σ' G'' H''->Q b H'')->tt σ' H' Q
 step:∀ (s:S) (σ1:St) (G1 H1:Hp) (fl:Fl S ρ),RS s σ1 G1 H1->f s=some fl->c s=some true->∀ D':Ends,(∀ s' σ' G' H',fl = .nx s'->RS s' σ' G' H'->D'.nx σ' H')->(∀ s' σ' G' H',fl = .nx s'->RS s' σ' G' H'->D'.ct σ' H') ->
  (∀ s' σ' G' H',fl = .bk s'->RS s' σ' G' H'->D'.bk σ' H')->(∀ r v G' H',fl = .rt r->RR r v G' H'->D'.rt v H')->tb D' σ1 H1
 nxt:∀ s σ' G' H',res = .nx s->RS s σ' G' H'->D.nx σ' H'
 rtn:∀ r v G' H',res = .rt r->RR r v G' H'->D.rt v H'
theorem sv_while {S ρ:Type}{RR:ρ->V->Hp->Hp->Prop}{c:S->Option Bool}{f:S->Option (Fl S ρ)}{tb:TS}{n:Nat}{s0:S}{res:Fl S ρ}(hf:FO c f n s0=some res)(RS:S->St->Hp->Hp->Prop)
  (L:WhileOb K RR c f tt tb { D with nx:=rest D } σ G H s0 res RS):Dc (tWhile tt tb) rest D σ H:=by
 refine ⟨fun m σ' H'=>∃ s G',RS s σ' G' H'/\FO c f m s=some res,⟨n,s0,G,L.start,hf⟩,?_⟩;rintro m σ' H' ⟨s,G',rs,hw⟩
 cases m with
 | zero=>cases hw
 | succ m =>
  obtain ⟨b,hb,hw⟩:=qaA.mp hw;refine L.test s σ' G' H' b rs hb _ fun G'' H'' rs'=>?_
  cases b with
  | false=>exact BX (L.nxt s σ' G'' H'' (qaB hw).symm rs')
  | true =>
   obtain ⟨fl,hfl,hw⟩:=qaA.mp hw;refine BW ⟨fun σ2 H2=>∃ s' G2,RS s' σ2 G2 H2/\FO c f m s'=some res,fun σ2 H2 h=>⟨m,Nat.lt_succ_self m,h⟩,?_⟩;refine L.step s σ' G'' H'' fl rs' hfl hb _ ?_ ?_ ?_ ?_
   ·intro s' σ2 G2 H2 e r;subst e;exact ⟨s',G2,r,hw⟩
   ·intro s' σ2 G2 H2 e r;subst e;exact ⟨s',G2,r,hw⟩
   ·intro s' σ2 G2 H2 e r;subst e;exact L.nxt s' σ2 G2 H2 (qaB hw).symm r
   ·intro r v G2 H2 e rl;subst e;exact L.rtn r v G2 H2 (qaB hw).symm rl
end
structure Own (K:FZ9){α:Type}[Rp α](G H:Hp)(v:V)(p:Addr)(vs:List V)(as:List α):Prop where
 v:v = .ref p
 g:G p=none
 h:H p=some (.lst vs)
 z:vs.length<=sizeLine
 p:Paired (Rp.rel K G) vs as
section
variable {K:FZ9}{σ:St}{G H G1 H1 G0 H0:Hp}{α β:Type}[Rp α][Rp β]{te ti:TE}{tt:TT}{t u rest:TS}{D:Ends}{i:Nat}{a:α}{m:Option α}{as:List α}{v:V}{p q:Addr}{vs:List V}
theorem Own.ext (o:Own K G H v p vs as)(x:Ext G H G1 H1):Own K G1 H1 v p vs as :=
 ⟨o.v,x.no p o.g (by rw [o.h];exact fun z=>nomatch z),x.hh _ _ o.h,o.z,Paired.imp' (fun _ _ r=>Rp.mono x.gg r) o.p⟩
theorem Own.tell (o:Own K G H v p vs as):Rp.rel K (upd G p (.lst vs)) v as:=⟨p,vs,o.v,.inl AM,o.z,Paired.imp' (fun _ _ r=>Rp.mono (Same.new o.g) r) o.p⟩
theorem Own.same (o:Own K G H v p vs as)(s:Same G H):Same (upd G p (.lst vs)) H:=fun b x e=>by
 by_cases hb:b=p
 ·subst hb;rw [AM] at e;rw [o.h];exact e
 ·rw [Ak hb] at e;exact s b x e
theorem GA {m:Option (List α)}{as:List α}(e:FV K te σ G m)(hm:m=some as)(s:Same G H)(k:∀ p vs G2 H2,Ext G H G2 H2->H p=none->Own K G2 H2 (.ref p) p vs as->rest D (σ.set i (some (.ref p))) H2):Dc (HG te (De i)) rest D σ H :=
 e G (.refl G) as hm H s _ fun p vs G2 H2 x h0 hg hh hz hp=>k p vs G2 H2 x h0 ⟨rfl,hg,hh,hz,hp⟩
def GP {α:Type}(as:List α)(a:α):Option (List α):=if as.length<sizeLine then some (as++[a]) else none
theorem D0 {as':List α}(hσ:σ[i]? = some (some v))(o:Own K G H v p vs as)(e:EV K te σ G m)(hm:m=some a)(hp:GP as a=some as')(s:Same G H)
  (k:∀ G2 H2 w,Ext G H G2 H2->Own K G2 (upd H2 p (.lst (vs++[w]))) v p (vs++[w]) as'->rest D σ (upd H2 p (.lst (vs++[w])))):Dc (Ky (tBM K "list" Gd (Ii i) (AS te BS))) rest D σ H:=by
 obtain ⟨hl,rfl⟩:=BI hp;have hlen:=Paired.length o.p;obtain ⟨rfl,og,oh,oz,op⟩:=o;refine ⟨_,hσ,.inl ⟨rfl,_,SqL.of oh⟩,?_⟩;refine e.run hm s fun w G2 H2 x r=>?_;refine ⟨p,vs,w,rfl,rfl,x.hh _ _ oh,by omega,?_⟩;refine k G2 H2 w x ⟨rfl,x.no p og (by rw [oh];exact fun z=>nomatch z),AM,?_,Paired.app (Paired.imp' (fun _ _ r=>Rp.mono x.gg r) op) (.cons r .nil)⟩;rw [qfA,qhA];omega
structure TupK (H H':Hp):Prop where
 rd:∀ b xs,Rd H b (.tup xs)->Rd H' b (.tup xs)
 eq:∀ b xs,H b=some (.tup xs)->H' b=some (.tup xs)
class Imm (α:Type) [Rp α]:Prop where
 im:∀ {K:FZ9}{H H':Hp}{v:V}{a:α},TupK H H'->Rp.rel K H v a->Rp.rel K H' v a
instance imInt:Imm Int:=⟨fun _ h=>h⟩
def del (G:Hp)(p:Addr):Hp:=fun b=>if b=p then none else G b
theorem GG {G:Hp}{p b:Addr}(h:b≠p):del G p b=G b:=by unfold del;rw [if_neg h]
theorem Jy {G:Hp}{p:Addr}:del G p p=none:=by unfold del;rw [if_pos rfl]
theorem Ext.del {ho:HO}{G2 H2:Hp}(hg:G p=none)(x:Ext (upd G p ho) H G2 H2):Ext G H (L2.del G2 p) H2 :=
 ⟨fun b o e=>by
  have hb:b≠p:=Bb e hg;rw [GG hb]
  exact x.gg b o (by rw [Ak hb];exact e),fun b o e=>by
  by_cases hb:b=p
  ·subst hb;rw [Jy] at e;cases e
  ·rw [GG hb] at e
   exact x.gh b o e,x.hh,fun b h1 h2=>by
  by_cases hb:b=p
  ·subst hb;exact Jy
  ·rw [GG hb]
   exact x.no b (by rw [Ak hb];exact h1) h2⟩
theorem Imm.del {β:Type}[Rp β][Imm β]{G2:Hp}{w:V}{c:β}{ys:List V}(h:G2 p=some (.lst ys))(r:Rp.rel K G2 w c):Rp.rel K (L2.del G2 p) w c :=
 Imm.im ⟨fun b xs e=>by
  have hb:b≠p:=fun z=>by
   subst z;rcases e with e | ⟨o,e⟩<;>(rw [h] at e;cases e)
  rcases e with e | ⟨o,e⟩
  ·exact .inl (by rw [GG hb];exact e)
  ·exact .inr ⟨o,by rw [GG hb];exact e⟩,fun b xs e=>by
  have hb:b≠p:=fun z=>by
   subst z;rw [h] at e;cases e
  rw [GG hb]
  exact e⟩ r
theorem TV.runB {mb:Option Bool}{b:Bool}{Q:Bool->Hp->Prop}(o:Own K G H v p vs as)(e:TV tt σ (upd G p (.lst vs)) mb)(hm:mb=some b)(s:Same G H)(k:∀ G2 H2,Ext G H G2 H2->Q b H2):tt σ H Q :=
 e.run hm (o.same s) fun G2 H2 x=>k (del G2 p) H2 (x.del o.g)
end
section
variable {K:FZ9}{σ:St}{G:Hp}
theorem Fv {ρ A0:Type}[Rp ρ][Rp A0]{t0:TE}{m0:Option A0}{m:A0 × Unit->Option ρ}(e0:EV K t0 σ G m0):EV K (Fg (spM K m) [] E0 (AS t0 BS)) σ G (m0.bind fun a0=>m (a0,())):=by
 clear 7;obtain ⟨a0,ha0,hc⟩:=qaA.mp hc;refine e0 G1 s1 a0 ha0 H sH _ fun v0 G2 H2 x0 r0=>?_;have y0:=x0;exact ⟨G2,_,c,y0.gh,⟨v0,_,rfl,r0,rfl⟩,hc,fun v G9 H9 x9 r9=>k v G9 H9 (y0.trans x9) r9⟩
theorem AX {ρ A0 A1:Type}[Rp ρ][Rp A0][Rp A1]{t0 t1:TE}{m0:Option A0}{m1:Option A1}{m:A0 × A1 × Unit->Option ρ}(e0:EV K t0 σ G m0)(e1:EV K t1 σ G m1):EV K (Fg (spM K m) [] E0 (AS t0 (AS t1 BS))) σ G (m0.bind fun a0=>m1.bind fun a1=>m (a0,a1,())):=by
 clear 7;obtain ⟨a0,ha0,hc⟩:=qaA.mp hc;obtain ⟨a1,ha1,hc⟩:=qaA.mp hc;refine e0 G1 s1 a0 ha0 H sH _ fun v0 G2 H2 x0 r0=>?_;have y0:=x0;refine e1 G2 (s1.trans y0.gg) a1 ha1 H2 y0.gh _ fun v1 G3 H3 x1 r1=>?_;have y1:=y0.trans x1;exact ⟨G3,_,c,y1.gh,⟨v0,_,rfl,(Rp.mono x1.gg r0),⟨v1,_,rfl,r1,rfl⟩⟩,hc,fun v G9 H9 x9 r9=>k v G9 H9 (y1.trans x9) r9⟩
theorem Cr {ρ A0 A1 A2:Type}[Rp ρ][Rp A0][Rp A1][Rp A2]{t0 t1 t2:TE}{m0:Option A0}{m1:Option A1}{m2:Option A2}{m:A0 × A1 × A2 × Unit->Option ρ}(e0:EV K t0 σ G m0)(e1:EV K t1 σ G m1)(e2:EV K t2 σ G m2):EV K (Fg (spM K m) [] E0 (AS t0 (AS t1 (AS t2 BS)))) σ G (m0.bind fun a0=>m1.bind fun a1=>m2.bind fun a2=>m (a0,a1,a2,())):=by
 clear 7;obtain ⟨a0,ha0,hc⟩:=qaA.mp hc;obtain ⟨a1,ha1,hc⟩:=qaA.mp hc;obtain ⟨a2,ha2,hc⟩:=qaA.mp hc;refine e0 G1 s1 a0 ha0 H sH _ fun v0 G2 H2 x0 r0=>?_;have y0:=x0;refine e1 G2 (s1.trans y0.gg) a1 ha1 H2 y0.gh _ fun v1 G3 H3 x1 r1=>?_;have y1:=y0.trans x1;refine e2 G3 (s1.trans y1.gg) a2 ha2 H3 y1.gh _ fun v2 G4 H4 x2 r2=>?_;have y2:=y1.trans x2;exact ⟨G4,_,c,y2.gh,⟨v0,_,rfl,(Rp.mono x2.gg (Rp.mono x1.gg r0)),⟨v1,_,rfl,(Rp.mono x2.gg r1),⟨v2,_,rfl,r2,rfl⟩⟩⟩,hc,fun v G9 H9 x9 r9=>k v G9 H9 (y2.trans x9) r9⟩
theorem L8 {ρ A0 A1 A2 A3:Type}[Rp ρ][Rp A0][Rp A1][Rp A2][Rp A3]{t0 t1 t2 t3:TE}{m0:Option A0}{m1:Option A1}{m2:Option A2}{m3:Option A3}{m:A0 × A1 × A2 × A3 × Unit->Option ρ}(e0:EV K t0 σ G m0)(e1:EV K t1 σ G m1)(e2:EV K t2 σ G m2)(e3:EV K t3 σ G m3):EV K (Fg (spM K m) [] E0 (AS t0 (AS t1 (AS t2 (AS t3 BS))))) σ G (m0.bind fun a0=>m1.bind fun a1=>m2.bind fun a2=>m3.bind fun a3=>m (a0,a1,a2,a3,())):=by
 clear 7;obtain ⟨a0,ha0,hc⟩:=qaA.mp hc;obtain ⟨a1,ha1,hc⟩:=qaA.mp hc;obtain ⟨a2,ha2,hc⟩:=qaA.mp hc;obtain ⟨a3,ha3,hc⟩:=qaA.mp hc;refine e0 G1 s1 a0 ha0 H sH _ fun v0 G2 H2 x0 r0=>?_;have y0:=x0;refine e1 G2 (s1.trans y0.gg) a1 ha1 H2 y0.gh _ fun v1 G3 H3 x1 r1=>?_;have y1:=y0.trans x1;refine e2 G3 (s1.trans y1.gg) a2 ha2 H3 y1.gh _ fun v2 G4 H4 x2 r2=>?_;have y2:=y1.trans x2;refine e3 G4 (s1.trans y2.gg) a3 ha3 H4 y2.gh _ fun v3 G5 H5 x3 r3=>?_;have y3:=y2.trans x3;exact ⟨G5,_,c,y3.gh,⟨v0,_,rfl,(Rp.mono x3.gg (Rp.mono x2.gg (Rp.mono x1.gg r0))),⟨v1,_,rfl,(Rp.mono x3.gg (Rp.mono x2.gg r1)),⟨v2,_,rfl,(Rp.mono x3.gg r2),⟨v3,_,rfl,r3,rfl⟩⟩⟩⟩,hc,fun v G9 H9 x9 r9=>k v G9 H9 (y3.trans x9) r9⟩
section
variable {ta tb:TE}{a b:Bool}{tt tu:TT}{mb:Option Bool}
theorem TV.of {m m':Option Bool}(e:TV tt σ G m)(h:m=m'):TV tt σ G m':=h ▸ e
theorem tv_andP (ea:TV tt σ G (some a))(eb:TV tu σ G (some b)):TV (tAnd tt tu) σ G (some (a && b)):=(tv_and ea eb).of (by cases a<;>rfl)
theorem DX (ea:TV tt σ G (some a))(eb:TV tu σ G (some b)):TV (tOr tt tu) σ G (some (a || b)):=(F4 ea eb).of (by cases a<;>rfl)
theorem TruV.mono {G H:Hp}{v:V}{k:Bool}(s:Same G H)(h:TruV K v G k):TruV K v H k:=by
 cases v with
 | ref p =>
  rcases h with ⟨xs,hx,e⟩ | ⟨xs,hx,e⟩ | ⟨kvs,hx,e⟩
  ·exact .inl ⟨xs,s.seq hx,e⟩
  ·exact .inr (.inl ⟨xs,s.tup hx,e⟩)
  ·exact .inr (.inr ⟨kvs,s _ _ hx,e⟩)
 | _=>exact h
theorem Cf {mb:Option Bool}(ea:EV K ta σ G mb):TV (fun σ H Q=>ta σ H fun x H'=>∃ k,TruV K x H' k/\Q k H') σ G mb:=by
 have h:=tv_tru (K:=K) (f:=fun (a:Bool)=>a) (fun {G v a}(r:Rp.rel K G v a)=>by cases r;exact rfl) (fun s=>TruV.mono s) ea;refine h.of ?_;cases mb<;>rfl
end
theorem cT {α:Type}{A B:Option α}{r:Option α}(h:cond true A B=r):A=r:=h
theorem cF {α:Type}{A B:Option α}{r:Option α}(h:cond false A B=r):B=r:=h
theorem DN {i:Nat}{x:V}{σ:St}{H:Hp}{tb:TS}{D:Ends}(h:tb D (σ.set i (some x)) H):De i x σ H fun σ2 H2=>tb D σ2 H2:=h
end
section
variable {K:FZ9}{σ:St}{G H:Hp}{α β γ:Type}[Rp α][Rp β][Rp γ]{ta tb te:TE}{ia ib:Option Int}{c:Int}{rest t u:TS}{D:Ends}{i j:Nat}{tt:TT}
theorem Ge (ea:EV K ta σ G ia)(hc:-(2 ^ 64)<c/\c<2 ^ 64:=by decide):EV K (tOp (rMul K) ta (tC (.int c))) σ G (ia.bind fun a=>some (a * c)):=by
 have h:=J7 ea (Aw (K:=K) (σ:=σ) (G:=G) (i:=c))
 have e:(ia.bind fun a=>(some c).bind fun b=>Hn a b)=ia.bind fun a=>some (a * c):=by
  congr 1;funext a
  show Hn a c=_;unfold Hn;rw [if_pos (.inr hc)]
 exact h.of e
theorem ev_mulL (eb:EV K tb σ G ib)(hc:-(2 ^ 64)<c/\c<2 ^ 64:=by decide):EV K (tOp (rMul K) (tC (.int c)) tb) σ G (ib.bind fun b=>some (c * b)):=by
 have h:=J7 (Aw (K:=K) (σ:=σ) (G:=G) (i:=c)) eb
 have e:((some c).bind fun a=>ib.bind fun b=>Hn a b)=ib.bind fun b=>some (c * b):=by
  show (ib.bind fun b=>Hn c b)=_
  congr 1;funext b
  unfold Hn;rw [if_pos (.inl hc)]
 exact h.of e
theorem BA (ea:EV K ta σ G ia)(hc:0<c:=by decide):EV K (tOp (rI (fun _ j=>0<j) fun i j=>.int (i % j)) ta (tC (.int c))) σ G (ia.bind fun a=>some (a % c)):=by
 have h:=EW ea (Aw (K:=K) (σ:=σ) (G:=G) (i:=c))
 have e:(ia.bind fun a=>(some c).bind fun b=>GZ a b)=ia.bind fun a=>some (a % c):=by
  congr 1;funext a
  show GZ a c=_;unfold GZ;rw [if_pos hc]
 exact h.of e
theorem CO (ea:EV K ta σ G ia)(hc:0<c/\c<1073741824:=by decide):EV K (tOp (rI KO fun i j=>.int (i / j)) ta (tC (.int c))) σ G (ia.bind fun a=>some (a / c)):=by
 have h:=ev_div ea (Aw (K:=K) (σ:=σ) (G:=G) (i:=c))
 have e:(ia.bind fun a=>(some c).bind fun b=>divO a b)=ia.bind fun a=>some (a / c):=by
  congr 1;funext a
  show divO a c=_;unfold divO;rw [if_pos (show KO a c from hc)]
 exact h.of e
structure Scr where
 l:List Int
instance rpScr:Rp Scr:=⟨fun K H v a=>∃ l,v = .ref l/\SqL K H l (a.l.map V.int),fun s ⟨l,e,h⟩=>⟨l,e,s.seq h⟩⟩
theorem J6 {ma:Option Scr}(ea:EV K ta σ G ma):EV K (tCB (Jo K) (AS ta BS)) σ G (ma.bind fun a=>some (a.l.length:Int)):=by
 clear 7;obtain ⟨a,ha,hc⟩:=qaA.mp hc;cases hc;clear 8 ea a ha;obtain ⟨l,rfl,h⟩:=r2;exact ⟨_,.inl (x2.gh.seq h),by rw [qeA];exact k _ _ _ x2 rfl⟩
theorem Kt {H:Hp}:∀ ns:List Int,Paired (Rp.rel K H) (ns.map V.int) ns
 | []=>.nil
 | _::r=>.cons rfl (Kt r)
theorem ev_atX {ma:Option Scr}(ea:EV K ta σ G ma)(eb:EV K tb σ G ib):EV K (tOp (rAt K) ta tb) σ G (ma.bind fun a=>ib.bind fun i=>atI a.l i) :=
 BV (fun s ra rb e Q k=>by
  obtain ⟨l,rfl,h⟩:=ra;cases rb;obtain ⟨v,hv,r⟩:=E9 (Kt (K:=K) _) e
  exact .inl ⟨_,v,s.seq h,hv,k _ _ _ (.refl s) r⟩) ea eb
theorem sv_ifB {b:Bool}{m:Option Bool}{v:V}{p:Addr}{vs:List V}{as:List β}(o:Own K G H v p vs as)(e:TV tt σ (upd G p (.lst vs)) m)(hm:m=some b)(s:Same G H)(k:∀ G2 H2,Ext G H G2 H2->if b=true then t { D with nx:=rest D } σ H2 else u { D with nx:=rest D } σ H2) :
  Dc (Ht tt t u) rest D σ H:=TV.runB o e hm s k
def setO {α:Type}(as:List α)(k:Int)(a:α):Option (List α):=(ixN as.length k).bind fun j=>some (as.set j a)
theorem KY {a:α}{m:Option α}{ti:TE}{mi:Option Int}{k':Int}{as as':List α}{v:V}{p:Addr}{vs:List V}(hσ:σ[i]? = some (some v))(o:Own K G H v p vs as)(e:EV K te σ G m)(hm:m=some a)(ei:EV K ti σ G mi)(hi:mi=some k')(hs:setO as k' a=some as')(s:Same G H)
  (k:∀ G2 H2 w j,Ext G H G2 H2->Own K G2 (upd H2 p (.lst (vs.set j w))) v p (vs.set j w) as'->rest D σ (upd H2 p (.lst (vs.set j w)))):Dc (HG te (gSub (Ii i) ti rSetL)) rest D σ H:=by
 obtain ⟨j,hj,e'⟩:=qaA.mp hs;cases e';have hlen:=Paired.length o.p;refine e.run hm s fun w G2 H2 x r=>?_;have o2:=o.ext x;refine ⟨v,hσ,?_⟩;refine ei G2 x.gg k' hi H2 x.gh _ fun u G3 H3 x3 r3=>?_;cases r3;have o3:=o2.ext x3;refine ⟨p,vs,k',j,o3.v,rfl,o3.h,by rw [hlen];exact hj,?_⟩;refine k G3 H3 w j (x.trans x3) ⟨o3.v,o3.g,AM,by rw [List.length_set];exact o3.z,Paired.st (Rp.mono x3.gg r) j o3.p⟩
end
structure Own2 (K:FZ9){α β:Type}[Rp α][Rp β](G H:Hp)(v:V)(p q:Addr)(vs ws:List V)(a:List α × List β):Prop where
 t:∃ t,v = .ref t/\G t=some (.tup [.ref p,.ref q])
 o1:Own K G H (.ref p) p vs a.1
 o2:Own K G H (.ref q) q ws a.2
 ne:p≠q
section
variable {K:FZ9}{σ:St}{G H G1 H1 G0 H0:Hp}{α β γ:Type}[Rp α][Rp β][Rp γ]{ta tb te ti:TE}{tt:TT}{t u rest:TS}{D:Ends}{i j:Nat}{v:V}{p q r:Addr}{vs ws:List V}{a:List α × List β}
def two (G:Hp)(p q:Addr)(vs ws:List V):Hp:=upd (upd G p (.lst vs)) q (.lst ws)
theorem Own2.g2 (o:Own2 K G H v p q vs ws a):(upd G p (.lst vs)) q=none:=by rw [Ak (Ne.symm o.ne)];exact o.o2.g
theorem Own2.up (o:Own2 K G H v p q vs ws a):Same G (two G p q vs ws):=(Same.new o.o1.g).trans (Same.new o.g2)
theorem Own2.tell (o:Own2 K G H v p q vs ws a):Rp.rel K (two G p q vs ws) v a:=by
 obtain ⟨t,rfl,ht⟩:=o.t;refine ⟨t,.ref p,.ref q,rfl,SqT.of (o.up _ _ ht),⟨p,vs,rfl,.inl ?_,o.o1.z,Paired.imp' (fun _ _ r=>Rp.mono o.up r) o.o1.p⟩,⟨q,ws,rfl,.inl AM,o.o2.z,Paired.imp' (fun _ _ r=>Rp.mono o.up r) o.o2.p⟩⟩;unfold two;rw [Ak o.ne];exact AM
theorem Own2.frz (o:Own2 K G H v p q vs ws a)(x:Ext G0 H0 G H)(h1:H0 p=none)(h2:H0 q=none):Ext G0 H0 (two G p q vs ws) H :=
 (x.frz h1 o.o1.g o.o1.h).frz h2 o.g2 o.o2.h
def NV (K:FZ9){α β:Type}[Rp α][Rp β](te:TE)(σ:St)(G:Hp)(m:Option (List α × List β)):Prop :=
 ∀ G1,Same G G1->∀ a,m=some a->∀ H,Same G1 H->∀ Q:VK,(∀ v p q vs ws G2 H2,Ext G1 H G2 H2->H p=none->H q=none->Own2 K G2 H2 v p q vs ws a->Q v H2)->te σ H Q
theorem NV.ev {m:Option (List α × List β)}(e:NV K te σ G m):EV K te σ G m:=by
 intro G1 s1 a ha H sH Q k;refine e G1 s1 a ha H sH Q fun v p q vs ws G2 H2 x h1 h2 o=>?_;exact k v _ H2 (o.frz x h1 h2) o.tell
theorem nv_tup2 {la:Option (List α)}{lb:Option (List β)}(ea:FV K ta σ G la)(eb:FV K tb σ G lb):NV K (tTup (AS ta (AS tb BS))) σ G (la.bind fun a=>lb.bind fun b=>some (a,b)):=by
 clear 7;obtain ⟨a,ha,hc⟩:=qaA.mp hc;obtain ⟨b,hb,hc⟩:=qaA.mp hc;cases hc;refine ea G1 s1 a ha H sH _ fun p vs G2 H2 x2 hp g2 hh2 z2 pr2=>?_;refine eb G2 (s1.trans x2.gg) b hb H2 x2.gh _ fun q ws G3 H3 x3 hq g3 hh3 z3 pr3=>⟨by show 2<=sizeLine;decide,fun t ht=>?_⟩;have o1:Own K G2 H2 (.ref p) p vs a:=⟨rfl,g2,hh2,z2,pr2⟩;have o2:Own K G3 H3 (.ref q) q ws b:=⟨rfl,g3,hh3,z3,pr3⟩;have x4:Ext G3 H3 (upd G3 t (.tup [.ref p,.ref q])) (upd H3 t (.tup [.ref p,.ref q])):=.new x3.gh ht;exact k (.ref t) p q vs ws _ _ ((x2.trans x3).trans x4) hp (x2.hh.free hq) ⟨⟨t,rfl,AM⟩,(o1.ext x3).ext x4,o2.ext x4,Bb hh2 hq⟩
def spN (K:FZ9){A:Type}[RpA A]{α β:Type}[Rp α][Rp β](m:A->Option (List α × List β)):Sp:=fun vs H Q _ =>
 ∃ G a r,Same G H/\RpA.rel K G vs a/\m a=some r/\∀ v p q vs ws G2 H2,Ext G H G2 H2->H p=none->H q=none->Own2 K G2 H2 v p q vs ws r->Q v H2
def spL (K:FZ9){A:Type}[RpA A]{α:Type}[Rp α](m:A->Option (List α)):Sp:=fun vs H Q _ =>
 ∃ G a r,Same G H/\RpA.rel K G vs a/\m a=some r/\∀ p vs G2 H2,Ext G H G2 H2->H p=none->Own K G2 H2 (.ref p) p vs r->Q (.ref p) H2
theorem spN_len {A:Type}[RpA A]{m:A->Option (List α × List β)}{vs:List V}{H:Hp}{Q:VK}{E:XK}(h:spN K m vs H Q E):vs.length=RpA.n A:=by
 obtain ⟨G,a,r,_,h,_⟩:=h;exact RpA.len h
theorem spL_len {A:Type}[RpA A]{m:A->Option (List α)}{vs:List V}{H:Hp}{Q:VK}{E:XK}(h:spL K m vs H Q E):vs.length=RpA.n A:=by
 obtain ⟨G,a,r,_,h,_⟩:=h;exact RpA.len h
theorem LG {A0 A1 A2:Type}[Rp A0][Rp A1][Rp A2]{t0 t1 t2:TE}{m0:Option A0}{m1:Option A1}{m2:Option A2}{m:A0 × A1 × A2 × Unit->Option (List α × List β)}(e0:EV K t0 σ G m0)(e1:EV K t1 σ G m1)(e2:EV K t2 σ G m2):NV K (Fg (spN K m) [] E0 (AS t0 (AS t1 (AS t2 BS)))) σ G (m0.bind fun a0=>m1.bind fun a1=>m2.bind fun a2=>m (a0,a1,a2,())):=by
 clear 7;obtain ⟨a0,ha0,hc⟩:=qaA.mp hc;obtain ⟨a1,ha1,hc⟩:=qaA.mp hc;obtain ⟨a2,ha2,hc⟩:=qaA.mp hc;refine e0 G1 s1 a0 ha0 H sH _ fun v0 G2 H2 x0 r0=>?_;have y0:=x0;refine e1 G2 (s1.trans y0.gg) a1 ha1 H2 y0.gh _ fun v1 G3 H3 x1 r1=>?_;have y1:=y0.trans x1;refine e2 G3 (s1.trans y1.gg) a2 ha2 H3 y1.gh _ fun v2 G4 H4 x2 r2=>?_;have y2:=y1.trans x2;exact ⟨G4,_,c,y2.gh,⟨v0,_,rfl,(Rp.mono x2.gg (Rp.mono x1.gg r0)),⟨v1,_,rfl,(Rp.mono x2.gg r1),⟨v2,_,rfl,r2,rfl⟩⟩⟩,hc,fun v p q vs ws G9 H9 x9 h1 h2 o=>k v p q vs ws G9 H9 (y2.trans x9) (y2.hh.free h1) (y2.hh.free h2) o⟩
theorem JN {A0 A1:Type}[Rp A0][Rp A1]{t0 t1:TE}{m0:Option A0}{m1:Option A1}{m:A0 × A1 × Unit->Option (List α)}(e0:EV K t0 σ G m0)(e1:EV K t1 σ G m1):FV K (Fg (spL K m) [] E0 (AS t0 (AS t1 BS))) σ G (m0.bind fun a0=>m1.bind fun a1=>m (a0,a1,())):=by
 clear 7;obtain ⟨a0,ha0,hc⟩:=qaA.mp hc;obtain ⟨a1,ha1,hc⟩:=qaA.mp hc;refine e0 G1 s1 a0 ha0 H sH _ fun v0 G2 H2 x0 r0=>?_;have y0:=x0;refine e1 G2 (s1.trans y0.gg) a1 ha1 H2 y0.gh _ fun v1 G3 H3 x1 r1=>?_;have y1:=y0.trans x1;exact ⟨G3,_,c,y1.gh,⟨v0,_,rfl,(Rp.mono x1.gg r0),⟨v1,_,rfl,r1,rfl⟩⟩,hc,fun p vs G9 H9 x9 h1 o=>k p vs G9 H9 (y1.trans x9) (y1.hh.free h1) o.g o.h o.z o.p⟩
theorem sv_retP {m:Option (List α × List β)}(e:NV K te σ G m)(hm:m=some a)(s:Same G H)(k:∀ v p q vs ws G2 H2,Ext G H G2 H2->H p=none->H q=none->Own2 K G2 H2 v p q vs ws a->D.rt v H2):Dc (tRet te) rest D σ H :=
 e G (.refl G) a hm H s _ fun v p q vs ws G2 H2 x h1 h2 o=>k v p q vs ws G2 H2 x h1 h2 o
theorem sv_retL {as:List α}{m:Option (List α)}(e:FV K te σ G m)(hm:m=some as)(s:Same G H)(k:∀ p vs G2 H2,Ext G H G2 H2->H p=none->Own K G2 H2 (.ref p) p vs as->D.rt (.ref p) H2):Dc (tRet te) rest D σ H :=
 e G (.refl G) as hm H s _ fun p vs G2 H2 x h0 hg hh hz hp=>k p vs G2 H2 x h0 ⟨rfl,hg,hh,hz,hp⟩
end
section
variable {X:Cx}{K:FZ9}
theorem op_plusK (h:X.K=K):OpR X (binaryOp .Add) (IV K):=h ▸ op_plus
theorem EI (h:X.K=K):OpR X (binaryOp .Mult) (rMul K):=h ▸ op_mulU
theorem Et (h:X.K=K):SlR X (rSl K):=h ▸ sl_any
theorem ix_anyK (h:X.K=K):IxR X (rAt K):=h ▸ ix_any
theorem Ll (h:X.K=K):CC X (.builtin "len") (Jo K):=h ▸ Lx
theorem Al (h:X.K=K):CC X (.builtin "isinstance") (LT K):=h ▸ M4
theorem op_eqK {j:Nat}(h:X.K=K)(α:Type)[Rp α][DecidableEq α][RpE α](hr:Room j X.A)(hk:RpE.k α<=10):OpR X (compareOp .Eq) (rEqD K α):=h ▸ op_eqM α hr hk
theorem Gv {j:Nat}(h:X.K=K)(α:Type)[Rp α][DecidableEq α][RpE α](hr:Room j X.A)(hk:RpE.k α<=10):OpR X (compareOp .NotEq) (rNeD K α):=h ▸ op_neM α hr hk
theorem CW (h:X.K=K):CC X (.type "list") (fun xs H Q=>∃ p ys,xs=[.ref p]/\(SqL K H p ys\/SqT K H p ys)/\∀ l,H l=none->Q (.ref l) (upd H l (.lst ys))):=h ▸ JK
theorem Bg {tg l:Expr}{tl:TE}(h:X.K=K)(hl:PE X l tl):PI X tg l (iAny K tl):=h ▸ pi_any hl
theorem M6 {a:Expr}{ta:TE}(h:X.K=K)(ha:PE X a ta)(he:∀ whole,isTrue a X.env whole=(do let v <- whole;standAt a.pos;holding [v] (truthy v))) :
  PT X a (fun σ H Q=>ta σ H fun x H'=>∃ k,TruV K x H' k/\Q k H'):=h ▸ pt_truth ha he
section
variable {o e:Expr}{es:List Expr}{to:TE}{t:TA}{name:Str}{apos cpos:Pos}{T id:String}{r:V->List V->Hp->VK->Prop}
theorem pe_bmK (h:X.K=K)(pa:PlainAttrs T)(slot:Slot T name id)(hty:typeOf (.builtin id)=pure (.type "method_descriptor"))(hm:MtR X id r)(ho:PE X o to)(ha:PA X (e::es) t)
  (hbase:attributeBase o name X.env (eval o X.env)=eval o X.env:=by rfl)
  (hfew:((backTo cpos (starEach (e::es) X.env)).all (fun x=>!x.1) && (backToKw cpos (keywordEach [] X.env)).all (fun x=>x.1.isSome)
   && decide ((e::es).length+([]:List Keyword).length+(if ([]:List Keyword).isEmpty then 0 else 1)<30))=true:=by rfl)
  (hline:(apos.endLine == cpos.line)=true:=by rfl) (hs:starEach (e::es) X.env=(false,eval e X.env)::starEach es X.env:=by rfl) (hplain:(backTo cpos (starEach es X.env)).any (·.1)=false:=by rfl) :
  PE X (.Call (.Attribute o name apos) (e::es) [] cpos) (tBM K T r to t):=h ▸ pe_bm pa slot hty hm ho ha hbase hfew hline hs hplain
end
end
theorem Fb {f:St->Hp->Prop}{rt:VK}{bk ct:St->Hp->Prop}{σ:St}{H:Hp}(h:f σ H):({ nx:=f,rt:=rt,bk:=bk,ct:=ct }:Ends).nx σ H:=h
inductive D where
 | non
 | bl (b:Bool)
 | int (i:Int)
 | str (x:Str)
 | lst (l:List D)
 | tup (l:List D)
 | dic
mutual
inductive RelD (K:FZ9)(H:Hp):V->D->Prop where
 | non:RelD K H .non .non
 | bl (b:Bool):RelD K H (.bl b) (.bl b)
 | int (i:Int):RelD K H (.int i) (.int i)
 | str (x:Str) (z:x.length<=sizeLine):RelD K H (.str x) (.str x)
 | lst {a:Addr}{xs:List V}{ds:List D}(h:Rd H a (.lst xs)) (z:xs.length<=sizeLine) (r:RelDs K H xs ds):RelD K H (.ref a) (.lst ds)
 | tup {a:Addr}{xs:List V}{ds:List D}(h:SqT K H a xs) (z:xs.length<=sizeLine) (r:RelDs K H xs ds):RelD K H (.ref a) (.tup ds)
 | dK {a:Addr}{kvs:List (Key × V)}(h:Rd H a (.dK kvs)):RelD K H (.ref a) .dic
inductive RelDs (K:FZ9)(H:Hp):List V->List D->Prop where
 | nil:RelDs K H [] []
 | cons {x:V}{d:D}{xs:List V}{ds:List D}(h:RelD K H x d) (t:RelDs K H xs ds):RelDs K H (x::xs) (d::ds)
end
mutual
theorem RelD.mono {K:FZ9}{H H':Hp}(s:Same H H'):∀ {v:V}{d:D},RelD K H v d->RelD K H' v d
 | _,_,.non=>.non
 | _,_,.bl b=>.bl b
 | _,_,.int i=>.int i
 | _,_,.str x z=>.str x z
 | _,_,.lst h z r=>.lst (s.rd h) z (RelDs.mono s r)
 | _,_,.tup h z r=>.tup (s.tup h) z (RelDs.mono s r)
 | _,_,.dK h=>.dK (s.rd h)
theorem RelDs.mono {K:FZ9}{H H':Hp}(s:Same H H'):∀ {v:List V}{d:List D},RelDs K H v d->RelDs K H' v d
 | _,_,.nil=>.nil
 | _,_,.cons h t=>.cons (RelD.mono s h) (RelDs.mono s t)
end
instance rpD:Rp D:=⟨RelD,fun s h=>RelD.mono s h⟩
theorem Jf {K:FZ9}{H:Hp}:∀ {xs:List V}{ds:List D},Paired (Rp.rel K H) xs ds->RelDs K H xs ds
 | _,_,.nil=>.nil
 | _,_,.cons h t=>.cons h (Jf t)
theorem Ep {K:FZ9}{H:Hp}:∀ {xs:List V}{ds:List D},RelDs K H xs ds->Paired (Rp.rel K H) xs ds
 | _,_,.nil=>.nil
 | _,_,.cons h t=>.cons h (Ep t)
class ToD (α:Type) [Rp α] where
 to:α->D
 rel:∀ {K:FZ9}{H:Hp}{v:V}{a:α},Rp.rel K H v a->RelD K H v (to a)
theorem toDs {K:FZ9}{H:Hp}{α:Type}[Rp α][ToD α]:∀ {xs:List V}{as:List α},Paired (Rp.rel K H) xs as->Paired (Rp.rel (α:=D) K H) xs (as.map ToD.to)
 | _,_,.nil=>.nil
 | _,_,.cons h t=>.cons (ToD.rel h) (toDs t)
instance tdD:ToD D:=⟨id,fun h=>h⟩
instance tdInt:ToD Int:=⟨.int,fun h=>by cases h;exact .int _⟩
instance tdStr:ToD Str:=⟨.str,fun h=>by obtain ⟨rfl,z⟩:=h;exact .str _ z⟩
instance tdList {α:Type}[Rp α][ToD α]:ToD (List α):=⟨fun l=>.lst (l.map ToD.to),fun ⟨l,xs,e,h,z,p⟩=>by subst e;exact .lst h z (Jf (toDs p))⟩
instance tdPair {α β:Type}[Rp α][ToD α][Rp β][ToD β]:ToD (α × β):=⟨fun p=>.tup [ToD.to p.1,ToD.to p.2],fun ⟨t,x,y,e,h,r1,r2⟩=>by subst e;exact .tup h (by show 2<=sizeLine;decide) (.cons (ToD.rel r1) (.cons (ToD.rel r2) .nil))⟩
def dk:D->String
 | .non => "NoneType"
 | .bl _ => "bool"
 | .int _ => "int"
 | .str _ => "str"
 | .lst _ => "list"
 | .tup _ => "tuple"
 | .dic => "dict"
def isK (T:String)(d:D):Bool:=dk d == T || (T == "int" && dk d == "bool")
def lenD:D->Option Int
 | .str x=>some (x.length:Int)
 | .lst l=>some (l.length:Int)
 | .tup l=>some (l.length:Int)
 | _=>none
def atD:D->Int->Option D
 | .lst l,i=>atI l i
 | .tup l,i=>atI l i
 | .str x,i=>(atI x.cps.toList i).bind fun c=>some (.str ⟨#[c]⟩)
 | _,_=>none
section
variable {K:FZ9}{σ:St}{G:Hp}{α β:Type}[Rp α][Rp β]{ta tb te:TE}{md:Option D}
theorem CA [ToD α]{m:Option α}(e:EV K te σ G m):EV K te σ G (m.bind fun a=>some (ToD.to a)):=by
 clear 7;obtain ⟨a,ha,hc⟩:=qaA.mp hc;cases hc;exact e G1 s1 a ha H sH Q fun v G2 H2 x r=>k v G2 H2 x (ToD.rel r)
theorem RelD.ty {H:Hp}{v:V}{d:D}(r:RelD K H v d):TyS K H v (dk d):=by
 cases r with
 | non=>exact .non
 | bl=>exact .bl _
 | int=>exact .int _
 | str=>exact .str _
 | lst h=>exact .lst (.inl h)
 | tup h=>exact .tup h
 | dK h=>exact .dK h
theorem kit_all:∀ n∈["NoneType","bool","int","str","list","tuple","dict"],∀ T∈["str","list","tuple","bool","int","dict"],MJ n T=some (n == T || (T == "int" && n == "bool")):=by decide +kernel
theorem isK_ok {T:String}(hT:T∈["str","list","tuple","bool","int","dict"])(d:D):MJ (dk d) T=some (isK T d):=by
 unfold isK;exact kit_all (dk d) (by cases d<;>simp [dk]) T hT
theorem Dj {T:String}(hT:T∈["str","list","tuple","bool","int","dict"])(ea:EV K ta σ G md):EV K (tCB (LT K) (AS ta (AS (tC (.ty T)) BS))) σ G (md.bind fun d=>some (isK T d)):=by
 clear 7;obtain ⟨a,ha,hc⟩:=qaA.mp hc;cases hc;clear 8 ea a ha;exact ⟨_,_,_,_,rfl,(RelD.ty r2).mono x2.gh,isK_ok hT a,k _ _ _ x2 rfl⟩
theorem RelDs.len {H:Hp}{xs:List V}{ds:List D}(r:RelDs K H xs ds):xs.length=ds.length:=Paired.length (Ep r)
theorem Ih (ea:EV K ta σ G md):EV K (tCB (Jo K) (AS ta BS)) σ G (md.bind fun d=>lenD d):=by
 clear 7;obtain ⟨a,ha,hc⟩:=qaA.mp hc;clear 8 ea a ha
 cases r2 with
 | str x z=>cases hc;exact ⟨z,k _ _ _ x2 rfl⟩
 | lst h z r=>cases hc;exact ⟨_,.inl (.inl (x2.gh.rd h)),by rw [r.len];exact k _ _ _ x2 rfl⟩
 | tup h z r=>cases hc;exact ⟨_,.inr (x2.gh.tup h),by rw [r.len];exact k _ _ _ x2 rfl⟩
 | _=>cases hc
theorem Dy {ib:Option Int}(ea:EV K ta σ G md)(eb:EV K tb σ G ib):EV K (tOp (rAt K) ta tb) σ G (md.bind fun d=>ib.bind fun i=>atD d i) :=
 BV (fun s ra rb e Q k=>by
  cases rb
  cases ra with
  | str x z =>
   obtain ⟨c,hc,e⟩:=qaA.mp e;cases e;exact ⟨z,c,hc,k _ _ _ (.refl s) (.str _ (by show 1<=sizeLine;decide))⟩
  | lst h z r =>
   obtain ⟨v,hv,r⟩:=E9 (Ep r) e;exact .inl ⟨_,v,.inl (s.rd h),hv,k _ _ _ (.refl s) r⟩
  | tup h z r =>
   obtain ⟨v,hv,r⟩:=E9 (Ep r) e;exact .inr ⟨_,v,s.tup h,hv,k _ _ _ (.refl s) r⟩
  | _=>cases e) ea eb
end
section
variable {K:FZ9}{σ:St}{G:Hp}{ta:TE}
def rAllB (K:FZ9):List V->Hp->VK->Prop:=fun vs H Q=>∃ (l:Addr) (bs:List Bool),vs=[.ref l]/\SqL K H l (bs.map V.bl)/\Q (.bl (bs.all id)) H
theorem bools_at {bs:List Bool}{its:List Value}(r:Vals (bs.map V.bl) its){i:Nat}{v:Value}(h:its.toArray[i]? = some v):v = .bool (bs.getD i true):=by
 have h:its[i]? = some v:=by simpa using h
 have hl:=r.length;rw [qeA] at hl;obtain ⟨hi,_⟩:=qtA.mp h
 have e:(bs.map V.bl)[i]? = some (V.bl (bs.getD i true)):=by
  have:i<bs.length:=by omega
  simp [this]
 obtain ⟨u,hu,ru⟩:=r.get e;rw [h] at hu;cases hu;exact ru
theorem D4 {X:Cx}(hc:X.calm=true)(h:X.K=K):CC X (.builtin "all") (rAllB K):=by
 subst h;intro pins s σ H vs us Q I r h;obtain ⟨l,bs,rfl,hl,q⟩:=h;obtain ⟨u,rfl,ru⟩:=DI r;cases ru;obtain ⟨its,rv,pl,_⟩:=I.list hl;have hL:=pl.isList;have hlt:l<s.heap.objs.size:=by obtain ⟨_,e,_⟩:=hL;exact qbB e
 have hlen:=rv.length;rw [qeA] at hlen;refine call_all_walk (wpAny_pyIter_list hL ?_);refine ⟨_,_,_,_,_,_,fun i=>bs.getD i true,rfl,Walks.list (A:=X.A.in1) (I.ok.hd hc) _ l (qoB hlt) its.toArray,⟨⟨_,qdB _ rfl,rfl,rfl⟩,hL.push _⟩,?_,fun h' tk hk=>?_⟩
 ·intro i v s' Q' E' hP hQ;rw [bools_at rv hP];exact wpAny_truthy_bool hQ
 ·have e:(List.range its.toArray.size).all (fun i=>bs.getD i true)=bs.all id:=by
   rw [qkB,<- hlen];apply Bool.eq_iff_iff.mpr;rw [List.all_eq_true,List.all_eq_true];constructor
   ·intro hh b hb;obtain ⟨i,hi⟩:=List.mem_iff_getElem?.mp hb;have hi2:=(qtA.mp hi).1;have:=hh i (qrA.mpr hi2);rw [qvA,hi] at this;exact this
   ·intro hh i hi;have hi2:=qrA.mp hi;have:=hh bs[i] (List.getElem_mem hi2);rw [qvA,quA hi2];exact this
  rw [e];refine ⟨.bl _,H,I.kept fun b o eb=>?_,rfl,q⟩;refine hk b o (fun hm=>?_) (qcB _ eb);have:b=s.heap.objs.size:=by simpa using hm
  exact absurd (this ▸ qbB eb) (qzA _)
theorem EJ {H:Hp}:∀ {xs:List V}{ys:List Bool},Paired (Rp.rel K H) xs ys->xs=ys.map V.bl
 | _,_,.nil=>rfl
 | _,_,.cons r t=>by
  cases r;rw [EJ t]
  rfl
theorem GL {lb:Option (List Bool)}(ea:EV K ta σ G lb):EV K (tCB (rAllB K) (AS ta BS)) σ G (lb.bind fun bs=>some (bs.all id)):=by
 clear 7;obtain ⟨a,ha,hc⟩:=qaA.mp hc;cases hc;clear 8 ea a ha;obtain ⟨l,xs,rfl,h,z,p⟩:=r2;obtain rfl:=EJ p;exact ⟨l,a,rfl,.inl (x2.gh.rd h),k _ _ _ x2 rfl⟩
end
def OK {α:Type}(m:Option α)(P:α->Prop):Prop:=∃ a,m=some a/\P a
section
variable {α β S ρ:Type}{m:Option α}{P Q:α->Prop}{R:β->Prop}
theorem OK.mono (h:OK m P)(k:∀ a,P a->Q a):OK m Q:=let ⟨a,e,p⟩:=h;⟨a,e,k a p⟩
theorem AF {a:α}(h:P a):OK (some a) P:=⟨a,rfl,h⟩
theorem AC {f:α->Option β}(h:OK m fun a=>OK (f a) R):OK (m.bind f) R:=by
 obtain ⟨a,rfl,h⟩:=h;exact h
theorem ok_bC {f:α->Option β}(a:α)(e:m=some a)(h:OK (f a) R):OK (m.bind f) R:=AC ⟨a,e,h⟩
theorem EQ {f:α->Option β}(h:OK m P)(k:∀ a,P a->OK (f a) R):OK (m.bind f) R:=AC (h.mono k)
theorem An {b:Bool}{x y:Option α}(h1:b=true->OK x P)(h2:b=false->OK y P):OK (cond b x y) P:=by
 cases b with
 | true=>exact h1 rfl
 | false=>exact h2 rfl
theorem OK.eq {a:α}(h:OK m fun b=>b=a):m=some a:=by obtain ⟨b,e,rfl⟩:=h;exact e
theorem OK.of {a:α}(e:m=some a)(h:P a):OK m P:=⟨a,e,h⟩
theorem Bn {α β:Type}(a:α)(f:α->Option β):(some a).bind f=f a:=by rw [Option.bind_some]
theorem Av {α:Type}(m:Option α):(m.bind fun x=>some x)=m:=by cases m<;>rfl
theorem FN {a b:Int}{P:Int->Prop}(hb:0<b)(h:P (a % b)):OK (GZ a b) P:=⟨_,if_pos hb,h⟩
theorem ok_mul {a b:Int}{P:Int->Prop}(hb:CMul a b)(h:P (a * b)):OK (Hn a b) P:=⟨_,if_pos hb,h⟩
theorem ok_catS {a b:Str}{P:Str->Prop}(hb:a.length+b.length<=sizeLine)(h:P (a++b)):OK (catS a b) P:=⟨_,if_pos hb,h⟩
theorem Is {a b:List α}{P:List α->Prop}(hb:a.length+b.length<=sizeLine)(h:P (a++b)):OK (KN a b) P:=⟨_,if_pos hb,h⟩
theorem Eu {a:List α}{b:α}{P:List α->Prop}(hb:a.length<sizeLine)(h:P (a++[b])):OK (GP a b) P:=⟨_,if_pos hb,h⟩
theorem DT {lo hi:Int}{n:Nat}{P:List Int->Prop}(hn:hi - lo=n)(h0:-1000000000<=lo/\lo<=1000000000)(h1:n<=sizeLine)(h:P ((List.range n).map fun (i:Nat)=>lo+(i:Int))):OK (Fe lo hi) P:=by
 have hs:sizeLine=16777216:=qeB;have e:(hi - lo).toNat=n:=by omega
 refine ⟨_,if_pos ⟨⟨by omega,by omega,by omega,by omega⟩,by omega⟩,?_⟩;rw [e];exact h
theorem Gr {a:List α}{i:Int}(h0:0<=i)(h1:i<a.length)(h:∀ x,a[i.toNat]? = some x->P x):OK (atI a i) P:=by
 obtain ⟨k,rfl⟩:=qgB h0;have hk:k<a.length:=by omega
 refine ⟨a[k],Ip (by simp [hk]),h _ ?_⟩;rw [Int.toNat_natCast];simp [hk]
theorem ok_last {a:List α}(h:a ≠ [])(k:P (a.getLast h)):OK (atI a (-1)) P:=by
 refine ⟨_,?_,k⟩;have:=atI_last a.dropLast (a.getLast h)
 rwa [List.dropLast_concat_getLast] at this
theorem ok_for {f:α->S->Option (Fl S ρ)}{as:List α}{s0:S}(I:Nat->S->Prop)(J:S->Prop)(R:ρ->Prop){P:Fl S ρ->Prop}(h0:I 0 s0)
  (hs:∀ (i:Nat) a s,as[i]? = some a->I i s->OK (f a s) fun fl=>match fl with | .nx s'=>I (i+1) s' | .bk s'=>J s' | .rt r=>R r)
  (hn:∀ s,I as.length s->P (.nx s)) (hj:∀ s,J s->P (.nx s)) (hr:∀ r,R r->P (.rt r)):OK (FI f as s0) P:=by
 have key:∀ (n i:Nat) (s:S),n=as.length - i->i<=as.length->I i s->OK (FI f (as.drop i) s) P:=by
  intro n
  induction n with
  | zero =>
   intro i s hn0 hi hI;have e:i=as.length:=by omega
   subst e;rw [List.drop_length];exact AF (hn s hI)
  | succ n ih =>
   intro i s hn0 hi hI;have hlt:i<as.length:=by omega
   rw [List.drop_eq_getElem_cons hlt];obtain ⟨fl,e,h⟩:=hs i as[i] s (by simp [hlt]) hI;show OK ((f as[i] s).bind _) P;rw [e]
   cases fl with
   | nx s'=>exact ih (i+1) s' (by omega) hlt h
   | bk s'=>exact AF (hj s' h)
   | rt r=>exact AF (hr r h)
 exact key as.length 0 s0 (by omega) (qsB _) h0
theorem DG {f:α->S->Option (Fl S ρ)}{as:List α}{s0:S}(I:Nat->S->Prop){P:Fl S ρ->Prop}(h0:I 0 s0)
  (hs:∀ (i:Nat) a s,as[i]? = some a->I i s->OK (f a s) fun fl=>∃ s',fl = .nx s'/\I (i+1) s') (hn:∀ s,I as.length s->P (.nx s)):OK (FI f as s0) P :=
 ok_for I (fun _=>False) (fun _=>False) h0 (fun i a s ha hI=>(hs i a s ha hI).mono fun fl ⟨s',e,h⟩=>by subst e;exact h) hn (fun _ h=>h.elim) fun _ h=>h.elim
theorem ok_while {c:S->Option Bool}{f:S->Option (Fl S ρ)}{s0:S}(I:S->Prop)(J:S->Prop)(R:ρ->Prop)(μ:S->Nat){P:Fl S ρ->Prop}(h0:I s0)(hμ:μ s0<1000000)
  (hs:∀ s,I s->OK (c s) fun b=>if b=true then OK (f s) fun fl=>match fl with | .nx s'=>I s'/\μ s'<μ s | .bk s'=>J s' | .rt r=>R r else P (.nx s))
  (hj:∀ s,J s->P (.nx s)) (hr:∀ r,R r->P (.rt r)):OK (FO c f L7 s0) P:=by
 have key:∀ (n:Nat) (s:S),μ s<n->I s->OK (FO c f n s) P:=by
  intro n
  induction n with
  | zero=>intro s h;exact absurd h (Nat.not_lt_zero _)
  | succ n ih =>
   intro s hlt hI;obtain ⟨b,e,h⟩:=hs s hI;show OK ((c s).bind _) P;rw [e]
   cases b with
   | false =>
    rw [if_neg qjB] at h;exact AF h
   | true =>
    rw [if_pos rfl] at h;obtain ⟨fl,e2,h⟩:=h;show OK ((f s).bind _) P;rw [e2]
    cases fl with
    | nx s'=>exact ih s' (by have:=h.2;omega) h.1
    | bk s'=>exact AF (hj s' h)
    | rt r=>exact AF (hr r h)
 exact key L7 s0 (by unfold L7;omega) h0
theorem Ig {f:α->Option β}{g:α->β}{P:List β->Prop}:∀ {as:List α},(∀ a∈as,f a=some (g a))->P (as.map g)->OK (Ck f as) P:=by
 intro as
 have key:∀ as:List α,(∀ a∈as,f a=some (g a))->Ck f as=some (as.map g):=by
  intro as
  induction as with
  | nil=>intro _;rfl
  | cons a r ih =>
   intro h;show ((f a).bind fun y=>(Ck f r).bind fun ys=>some (y::ys))=_;rw [h a qpA,ih fun x hx=>h x (qqA _ hx)]
   rfl
 exact fun h p=>⟨_,key as h,p⟩
theorem LE {f:α->Option β}{R:α->β->Prop}{P:List β->Prop}:∀ {as:List α},(∀ a∈as,OK (f a) (R a))->(∀ bs:List β,bs.length=as.length->(∀ b∈bs,∃ a∈as,R a b)->(∀ (i:Nat) a b,as[i]? = some a->bs[i]? = some b->R a b)->P bs)->OK (Ck f as) P:=by
 intro as
 have key:∀ as:List α,(∀ a∈as,OK (f a) (R a))->OK (Ck f as) fun bs=>bs.length=as.length/\(∀ b∈bs,∃ a∈as,R a b)/\∀ (i:Nat) a b,as[i]? = some a->bs[i]? = some b->R a b:=by
  intro as
  induction as with
  | nil=>intro _;exact AF ⟨rfl,fun b h=>by simp at h,fun i a b h=>by simp at h⟩
  | cons a r ih =>
   intro h;refine EQ (h a qpA) fun y hy=>EQ (ih fun x hx=>h x (qqA _ hx)) fun ys ⟨h1,h2,h3⟩=>AF ⟨by simp [h1],?_,?_⟩
   ·intro b hb;rcases qmA.mp hb with e|e
    ·subst e;exact ⟨a,qpA,hy⟩
    ·obtain ⟨x,hx,hr⟩:=h2 b e;exact ⟨x,qqA _ hx,hr⟩
   ·intro i x b hx hb
    cases i with
    | zero=>simp at hx hb;subst hx;subst hb;exact hy
    | succ i=>exact h3 i x b (by simpa using hx) (by simpa using hb)
 exact fun h p=>(key as h).mono fun bs ⟨h1,h2,h3⟩=>p bs h1 h2 h3
theorem ok_comp {fc:α->Option Bool}{fe:α->Option β}{c:α->Bool}{g:α->β}{P:List β->Prop}{as:List α}(hc:∀ a∈as,fc a=some (c a))(he:∀ a∈as,c a=true->fe a=some (g a))(p:P ((as.filter c).map g)):OK (Dm fc fe as) P:=by
 have key:∀ as:List α,(∀ a∈as,fc a=some (c a))->(∀ a∈as,c a=true->fe a=some (g a))->Dm fc fe as=some ((as.filter c).map g):=by
  intro as
  induction as with
  | nil=>intro _ _;rfl
  | cons a r ih =>
   intro h1 h2;have i:=ih (fun x hx=>h1 x (qqA _ hx)) fun x hx=>h2 x (qqA _ hx);show ((fc a).bind fun b=>cond b ((fe a).bind fun y=>(Dm fc fe r).bind fun ys=>some (y::ys)) (Dm fc fe r))=_;rw [h1 a qpA,i]
   cases hb:c a with
   | true =>
    show ((fe a).bind fun y=>_)=_;rw [h2 a qpA hb];simp [hb]
   | false=>simp [hb]
 exact ⟨_,key as hc he,p⟩
end
end L2
namespace Lasso
variable {α β:Type}
end Lasso
namespace Lasso
variable {α:Type}[DecidableEq α]
end Lasso
namespace L2
open PySem PySem.Spec PyProof.Rows
section
variable {X:Cx}{K:FZ9}{o:Expr}{to:TE}{name:Str}{apos cpos:Pos}{T id:String}{r:V->List V->Hp->VK->Prop}
theorem pe_bm0K (h:X.K=K)(pa:PlainAttrs T)(slot:Slot T name id)(hty:typeOf (.builtin id)=pure (.type "method_descriptor"))(hm:MtR X id r)(ho:PE X o to)
  (hbase:attributeBase o name X.env (eval o X.env)=eval o X.env:=by rfl) (hline:(apos.endLine == cpos.line)=true:=by rfl):PE X (.Call (.Attribute o name apos) [] [] cpos) (tBM0 K T r to):=h ▸ pe_bm0 pa slot hty hm ho hbase hline
end
inductive Nt where
 | txt (x:Str)
 | tup (l:List Nt)
 | int (n:Int)
mutual
def Nt.dec:(a b:Nt)->Decidable (a=b)
 | .txt x,.txt y=>if h:x=y then .isTrue (by rw [h]) else .isFalse fun e=>h (by cases e;rfl)
 | .txt _,.tup _=>.isFalse fun e=>by cases e
 | .tup _,.txt _=>.isFalse fun e=>by cases e
 | .int m,.int n=>if h:m=n then .isTrue (by rw [h]) else .isFalse fun e=>h (by cases e;rfl)
 | .int _,.txt _=>.isFalse fun e=>by cases e
 | .int _,.tup _=>.isFalse fun e=>by cases e
 | .txt _,.int _=>.isFalse fun e=>by cases e
 | .tup _,.int _=>.isFalse fun e=>by cases e
 | .tup l,.tup m=>match Nt.decs l m with
  | .isTrue h=>.isTrue (by rw [h])
  | .isFalse h=>.isFalse fun e=>h (by cases e;rfl)
def Nt.decs:(l m:List Nt)->Decidable (l=m)
 | [],[]=>.isTrue rfl
 | [],_::_=>.isFalse fun e=>by cases e
 | _::_,[]=>.isFalse fun e=>by cases e
 | a::l,b::m=>match Nt.dec a b with
  | .isFalse h=>.isFalse fun e=>h (by cases e;rfl)
  | .isTrue h=>match Nt.decs l m with
   | .isTrue h2=>.isTrue (by rw [h,h2])
   | .isFalse h2=>.isFalse fun e=>h2 (by cases e;rfl)
end
mutual
def Nt.dep:Nt->Nat
 | .txt _=>0
 | .int _=>0
 | .tup l=>Nt.deps l+1
def Nt.deps:List Nt->Nat
 | []=>0
 | a::l=>max (Nt.dep a) (Nt.deps l)
end
mutual
inductive RelN (K:FZ9)(H:Hp):V->Nt->Prop where
 | txt (x:Str) (z:x.length<=sizeLine):RelN K H (.str x) (.txt x)
 | int (n:Int):RelN K H (.int n) (.int n)
 | tup {a:Addr}{xs:List V}{ds:List Nt}(h:SqT K H a xs) (z:xs.length<=sizeLine) (r:RelNs K H xs ds) (l:ds[0]? = some (.txt "lamp")->H a=some (.tup xs)):RelN K H (.ref a) (.tup ds)
inductive RelNs (K:FZ9)(H:Hp):List V->List Nt->Prop where
 | nil:RelNs K H [] []
 | cons {x:V}{d:Nt}{xs:List V}{ds:List Nt}(h:RelN K H x d) (t:RelNs K H xs ds):RelNs K H (x::xs) (d::ds)
end
mutual
theorem RelN.mono {K:FZ9}{H H':Hp}(s:Same H H'):∀ {v:V}{d:Nt},RelN K H v d->RelN K H' v d
 | _,_,.txt x z=>.txt x z
 | _,_,.int n=>.int n
 | _,_,.tup h z r l=>.tup (s.tup h) z (RelNs.mono s r) fun e=>s _ _ (l e)
theorem RelNs.mono {K:FZ9}{H H':Hp}(s:Same H H'):∀ {v:List V}{d:List Nt},RelNs K H v d->RelNs K H' v d
 | _,_,.nil=>.nil
 | _,_,.cons h t=>.cons (RelN.mono s h) (RelNs.mono s t)
end
instance rpN:Rp Nt:=⟨RelN,fun s h=>RelN.mono s h⟩
theorem SqT.keep {K:FZ9}{H H':Hp}{a:Addr}{xs:List V}(s:TupK H H')(h:SqT K H a xs):SqT K H' a xs:=by
 rcases h with h|h
 ·exact .inl (s.rd _ _ h)
 ·exact .inr h
mutual
theorem RelN.keep {K:FZ9}{H H':Hp}(s:TupK H H'):∀ {v:V}{d:Nt},RelN K H v d->RelN K H' v d
 | _,_,.txt x z=>.txt x z
 | _,_,.int n=>.int n
 | _,_,.tup h z r l=>.tup (SqT.keep s h) z (RelNs.keep s r) fun e=>s.eq _ _ (l e)
theorem RelNs.keep {K:FZ9}{H H':Hp}(s:TupK H H'):∀ {v:List V}{d:List Nt},RelNs K H v d->RelNs K H' v d
 | _,_,.nil=>.nil
 | _,_,.cons h t=>.cons (RelN.keep s h) (RelNs.keep s t)
end
instance imN:Imm Nt:=⟨fun s h=>RelN.keep s h⟩
section
variable {X:Cx}{K:FZ9}
theorem IZ (h:X.K=K):OpR X (compareOp .NotIn) (rIn K true):=h ▸ J8
end
section
variable {K:FZ9}{σ:St}{G:Hp}{α:Type}[Rp α]{ta tb tc te:TE}{t1 t2:TO}{ia ib ic:Option Int}{m1 m2:Option (Option Int)}
theorem ev_chain {p p':Int->Int->Bool}{q q':List Nat->List Nat->Bool}(ea:EV K ta σ G ia)(eb:EV K tb σ G ib)(ec:EV K tc σ G ic) :
  EV K (tChain (K2 p q) (K2 p' q') ta tb tc) σ G (ia.bind fun a=>ib.bind fun b=>cond (p a b) (ic.bind fun c=>some (p' b c)) (some false)):=by
 intro G1 s1 r hr H sH Q k;obtain ⟨a,ha,hr⟩:=qaA.mp hr;obtain ⟨b,hb,hr⟩:=qaA.mp hr;clear 8 ea a ha;refine eb G2 (s1.trans x2.gg) b hb H2 x2.gh _ fun u G3 H3 x3 r3=>?_;cases r2;cases r3;refine ⟨p a b,rfl,?_⟩
 cases hp:p a b with
 | false =>
  rw [hp] at hr;cases hr;rw [if_neg qjB];exact k _ _ _ (x2.trans x3) rfl
 | true =>
  rw [hp] at hr;obtain ⟨c,hc,hr⟩:=qaA.mp (cT hr);cases hr;rw [if_pos rfl];refine ec G3 (s1.trans (x2.trans x3).gg) c hc H3 x3.gh _ fun w G4 H4 x4 r4=>?_;cases r4;exact k _ _ _ ((x2.trans x3).trans x4) rfl
class Flat (α:Type) [Rp α] [DecidableEq α]:Prop where
 fl:∀ {K:FZ9}{H:Hp}{v:V}{a:α},Rp.rel K H v a->Eo v=true
 eq:∀ {K:FZ9}{H H':Hp}{v u:V}{a b:α},Rp.rel K H v a->Rp.rel K H' u b->eqV v u=decide (a=b)
instance flInt:Flat Int:=⟨fun h=>by cases h;rfl,fun h h'=>by cases h;cases h';exact Fu _ _⟩
theorem Jp [DecidableEq α][Flat α]{H:Hp}:∀ {xs:List V}{as:List α},Paired (Rp.rel K H) xs as->xs.all Eo=true
 | _,_,.nil=>rfl
 | _,_,.cons h t=>by rw [List.all_cons,Flat.fl h,Jp t];rfl
theorem LS [DecidableEq α][Flat α]{H H':Hp}{v:V}{a:α}(hv:Rp.rel K H' v a):∀ {xs:List V}{as:List α},Paired (Rp.rel K H) xs as->inV v xs=decide (a∈as)
 | _,_,.nil=>by simp [inV]
 | _,_,.cons (b:=b) h t=>by
  have ih:=LS hv t;unfold inV at ih ⊢;rw [List.any_cons,ih,Flat.eq h hv];apply Bool.eq_iff_iff.mpr;simp only [Bool.or_eq_true,decide_eq_true_iff,qmA];exact ⟨fun h=>h.imp Eq.symm id,fun h=>h.imp Eq.symm id⟩
theorem Hz [DecidableEq α][Flat α]{ma:Option α}{ml:Option (List α)}(ea:EV K ta σ G ma)(eb:EV K tb σ G ml):EV K (tOp (rIn K true) ta tb) σ G (ma.bind fun a=>ml.bind fun l=>some (!decide (a∈l))) :=
 BV (fun s ra rb e Q k=>by
  cases e;obtain ⟨l,xs,rfl,h,z,p⟩:=rb
  exact ⟨l,xs,rfl,.inl (.inl (s.rd h)),Flat.fl ra,Jp p,by rw [if_pos rfl,LS ra p];exact k _ _ _ (.refl s) rfl⟩) ea eb
end
mutual
def Nt.toD:Nt->D
 | .txt x=>.str x
 | .int n=>.int n
 | .tup l=>.tup (Nt.toDs l)
def Nt.toDs:List Nt->List D
 | []=>[]
 | a::l=>Nt.toD a::Nt.toDs l
end
mutual
theorem RelN.toD {K:FZ9}{H:Hp}:∀ {v:V}{a:Nt},RelN K H v a->RelD K H v a.toD
 | _,_,.txt x z=>by unfold Nt.toD;exact .str x z
 | _,_,.int n=>by unfold Nt.toD;exact .int n
 | _,_,.tup h z r _=>by unfold Nt.toD;exact .tup h z (RelNs.toD r)
theorem RelNs.toD {K:FZ9}{H:Hp}:∀ {xs:List V}{l:List Nt},RelNs K H xs l->RelDs K H xs (Nt.toDs l)
 | _,_,.nil=>by unfold Nt.toDs;exact .nil
 | _,_,.cons h t=>by unfold Nt.toDs;exact .cons (RelN.toD h) (RelNs.toD t)
end
instance tdN:ToD Nt:=⟨Nt.toD,fun h=>RelN.toD h⟩
section
variable {K:FZ9}{σ:St}{G H:Hp}{α β γ:Type}[Rp α][Rp β][Rp γ]{ta tb te:TE}{rest:TS}{D:Ends}{i j:Nat}
theorem bt_any:bootBuiltins "any" = some (.builtin "any"):=by decide +kernel
def rAnyB (K:FZ9):List V->Hp->VK->Prop:=fun vs H Q=>∃ (l:Addr) (bs:List Bool),vs=[.ref l]/\SqL K H l (bs.map V.bl)/\Q (.bl (bs.any id)) H
theorem MI {bs:List Bool}{its:List Value}(r:Vals (bs.map V.bl) its){i:Nat}{v:Value}(h:its.toArray[i]? = some v):v = .bool (bs.getD i false):=by
 have h:its[i]? = some v:=by simpa using h
 have hl:=r.length;rw [qeA] at hl;obtain ⟨hi,_⟩:=qtA.mp h
 have e:(bs.map V.bl)[i]? = some (V.bl (bs.getD i false)):=by
  have:i<bs.length:=by omega
  simp [this]
 obtain ⟨u,hu,ru⟩:=r.get e;rw [h] at hu;cases hu;exact ru
theorem Lu {X:Cx}(hc:X.calm=true)(h:X.K=K):CC X (.builtin "any") (rAnyB K):=by
 subst h;intro pins s σ H vs us Q I r h;obtain ⟨l,bs,rfl,hl,q⟩:=h;obtain ⟨u,rfl,ru⟩:=DI r;cases ru;obtain ⟨its,rv,pl,_⟩:=I.list hl;have hL:=pl.isList;have hlt:l<s.heap.objs.size:=by obtain ⟨_,e,_⟩:=hL;exact qbB e
 have hlen:=rv.length;rw [qeA] at hlen;refine call_any_walk (wpAny_pyIter_list hL ?_);refine ⟨_,_,_,_,_,_,fun i=>bs.getD i false,rfl,Walks.list (A:=X.A.in1) (I.ok.hd hc) _ l (qoB hlt) its.toArray,⟨⟨_,qdB _ rfl,rfl,rfl⟩,hL.push _⟩,?_,fun h' tk hk=>?_⟩
 ·intro i v s' Q' E' hP hQ;rw [MI rv hP];exact wpAny_truthy_bool hQ
 ·have e:(List.range its.toArray.size).any (fun i=>bs.getD i false)=bs.any id:=by
   rw [qkB,<- hlen];apply Bool.eq_iff_iff.mpr;rw [List.any_eq_true,List.any_eq_true];constructor
   ·rintro ⟨i,hi,hb⟩;have hi2:=qrA.mp hi;rw [qvA,quA hi2] at hb;exact ⟨_,List.getElem_mem hi2,hb⟩
   ·rintro ⟨b,hb,hq⟩;obtain ⟨i,hi⟩:=List.mem_iff_getElem?.mp hb;have hi2:=(qtA.mp hi).1;refine ⟨i,qrA.mpr hi2,?_⟩;rw [qvA,hi];exact hq
  rw [e];refine ⟨.bl _,H,I.kept fun b o eb=>?_,rfl,q⟩;refine hk b o (fun hm=>?_) (qcB _ eb);have:b=s.heap.objs.size:=by simpa using hm
  exact absurd (this ▸ qbB eb) (qzA _)
theorem ev_any {lb:Option (List Bool)}(ea:EV K ta σ G lb):EV K (tCB (rAnyB K) (AS ta BS)) σ G (lb.bind fun bs=>some (bs.any id)):=by
 clear 7;obtain ⟨a,ha,hc⟩:=qaA.mp hc;cases hc;clear 8 ea a ha;obtain ⟨l,xs,rfl,h,z,p⟩:=r2;obtain rfl:=EJ p;exact ⟨l,a,rfl,.inl (x2.gh.rd h),k _ _ _ x2 rfl⟩
end
class NoN (α:Type) [Rp α]:Prop where
 no_non:∀ {K:FZ9}{H:Hp}{x:V}{a:α},Rp.rel K H x a->x ≠ .non
 ne:∀ {K:FZ9}{X:Cx}{pins:List (Addr × Obj)}{σ:St}{H:Hp}{s:Shared}{x:V}{u:Value}{a:α}(A:Around),X.K=K->Inv X pins σ H s->A.units<cLine->RelV x u->Rp.rel K H x a ->
  (SeqAt.EqAt A s .none u false/\SeqAt.RcAt A s .none u false/\SeqAt.RcNeAt A s .none u true)/\SeqAt.EqAt A s u .none false/\SeqAt.RcAt A s u .none false/\SeqAt.RcNeAt A s u .none true
class Fix (α:Type) [Rp α]:Prop where
 fx:∀ {K:FZ9}{G G':Hp}{v:V}{a:α},Rp.rel K G v a->Rp.rel K G' v a
end L2
namespace L3
open PySem
end L3
namespace L2
open PySem PySem.Spec PyProof.Rows
def rRng1:List V->Hp->VK->Prop:=fun xs H Q=>∃ j:Int,xs=[.int j]/\∀ p,H p=none->Q (.ref p) (upd H p (.rng 0 j))
theorem La {X:Cx}:CC X (.type "range") rRng1:=by
 intro pins s σ H xs us Q I r h;obtain ⟨j,rfl,q⟩:=h;obtain ⟨u,rfl,t,rfl⟩:=DI r;exact call_range_1 ⟨.ref s.heap.objs.size,_,I.laid (a:=s.heap.objs.size) (o:=.rng 0 j) (fun b o e=>qcB _ e) (qxA _) ⟨_,_,_,qdB _ rfl⟩,rfl,q _ (I.hok.fresh (qxA _))⟩
def GT (lo hi:Int):List V:=(List.range (hi - lo).toNat).map fun (i:Nat)=>V.int (lo+(i:Int))
def rngB (lo hi:Int):Prop:=(-(2 ^ 62)<=lo/\lo<2 ^ 62/\-(2 ^ 62)<=hi/\hi<2 ^ 62)/\(hi - lo).toNat<=sizeLine
theorem KR {lo hi:Int}{acc:Array Value}(h:ItemsOf (fun i v=>∃ t,v = .int (lo+i * 1) t) acc (hi - lo).toNat):Vals (GT lo hi) acc.toList:=by
 have key:∀ (n:Nat) (l:List Value) (k:Nat),l.length=n->(∀ (j:Nat) (v:Value),l[j]? = some v->∃ t,v=Value.int (lo+((k+j:Nat):Int)) t)->Vals ((List.range n).map fun (i:Nat)=>V.int (lo+((k+i:Nat):Int))) l:=by
  intro n
  induction n with
  | zero =>
   intro l k hl _
   cases l with
   | nil=>exact .nil
   | cons _ _=>cases hl
  | succ n ih =>
   intro l k hl hp
   cases l with
   | nil=>cases hl
   | cons x l =>
    rw [List.range_succ_eq_map,qwA,List.map_map];obtain ⟨t,e⟩:=hp 0 x rfl;refine .cons ⟨t,e⟩ ?_
    have:=ih l (k+1) (by simpa using hl) fun j v hv=>by
     obtain ⟨t,e⟩:=hp (j+1) v (by simpa using hv);refine ⟨t,?_⟩;rw [e]
     congr 3
     omega
    refine cast (congrArg (fun z=>Vals z l) (List.map_congr_left fun i _=>?_)) this;show V.int (lo+((k+1+i:Nat):Int))=V.int (lo+((k+(i+1):Nat):Int))
    congr 3
    omega
 have:=key (hi - lo).toNat acc.toList 0 (by simpa using h.1) fun j v hv=>by
  obtain ⟨t,e⟩:=h.2 j v (by simpa using hv);refine ⟨t,?_⟩;rw [e];simp
 unfold GT;refine cast (congrArg (fun z=>Vals z acc.toList) (List.map_congr_left fun i _=>?_)) this;simp
def rLstR:List V->Hp->VK->Prop:=fun xs H Q=>∃ p lo hi,xs=[.ref p]/\H p=some (.rng lo hi)/\rngB lo hi/\∀ l,H l=none->Q (.ref l) (upd H l (.lst (GT lo hi)))
theorem GU (lo hi:Int):(GT lo hi).length=(hi - lo).toNat:=by
 unfold GT;rw [qeA,qiA]
theorem rsize (lo hi:Int):Builtin.Range.rangeSize lo hi 1=((hi - lo).toNat:Int):=by
 rw [rangeSize_one];split<;>omega
theorem Ly {X:Cx}(hc:X.calm=true):CC X (.type "list") rLstR:=by
 intro pins s σ H xs us Q I r h;obtain ⟨p,lo,hi,rfl,hp,⟨hb,hz⟩,q⟩:=h;obtain ⟨u,rfl,ru⟩:=DI r;cases ru;obtain ⟨t,u,v,e⟩:=(show ObjOk X.prog X.w H s.heap p (.rng lo hi) from I.hok p _ hp);have hs:sizeLine=16777216:=qeB;refine call_list_range (I.ok.hd hc) e (small_one hb.1 hb.2.1 hb.2.2.1 hb.2.2.2) (rsize lo hi) (by omega) fun h' tk acc c' hk e' hi'=>?_;exact ⟨.ref s.heap.objs.size,_,I.laid (t':=tk) hk (qxA _) (show ObjOk X.prog X.w _ _ _ (.lst (GT lo hi)) from ⟨by rw [GU];exact hz,acc.toList,c',KR hi',by simpa using e'⟩),rfl,q _ (I.hok.fresh (qxA _))⟩
inductive SI where
 | s (x:Str)
 | i (n:Int)
 deriving DecidableEq
def RelSI (v:V):SI->Prop
 | .s x=>v = .str x/\x.length<=sizeLine
 | .i n=>v = .int n
instance rpSI:Rp SI:=⟨fun _ _ v a=>RelSI v a,fun _ h=>h⟩
theorem eqSI {K:FZ9}:EqTy K 0 (Rp.rel (α:=SI) K) where
 fn:=fun {X pins σ H s x a b} hK I h1 h2=>by
  cases a with
  | s y=>cases b with
   | s z=>obtain ⟨rfl,_⟩:=h1;obtain ⟨e,_⟩:=h2;cases e;rfl
   | i n=>obtain ⟨rfl,_⟩:=h1;cases h2
  | i m=>cases b with
   | s z=>obtain ⟨rfl,_⟩:=h2;cases h1
   | i n =>
    have h1:x = .int m:=h1;have h2:x = .int n:=h2;subst h1;cases h2
    rfl
 eq:=fun {X pins σ H s x y u v a b} A hK I hu r1 r2 h1 h2=>by
  cases a with
  | s p=>cases b with
   | s q =>
    obtain ⟨rfl,_⟩:=h1;obtain ⟨rfl,_⟩:=h2;have:=eqStr.eq (K:=K) (a:=p) (b:=q) A hK I hu r1 r2 rfl rfl
    rwa [show decide (SI.s p=SI.s q)=decide (p=q) from decide_eq_decide.mpr ⟨fun e=>by cases e;rfl,fun e=>by rw [e]⟩]
   | i n =>
    obtain ⟨rfl,_⟩:=h1;have h2:y = .int n:=h2;subst h2;obtain ⟨t,rfl⟩:=r1;obtain ⟨t',rfl⟩:=r2;rw [decide_eq_false (fun e=>by cases e)];exact SeqAt.EqAt.str_int _ _ _ _
  | i m=>cases b with
   | s q =>
    obtain ⟨rfl,_⟩:=h2;have h1:x = .int m:=h1;subst h1;obtain ⟨t,rfl⟩:=r1;obtain ⟨t',rfl⟩:=r2;rw [decide_eq_false (fun e=>by cases e)];exact SeqAt.EqAt.int_str _ _ _ _
   | i n =>
    have:=eqInt.eq (K:=K) (a:=m) (b:=n) A hK I hu r1 r2 h1 h2
    rwa [show decide (SI.i m=SI.i n)=decide (m=n) from decide_eq_decide.mpr ⟨fun e=>by cases e;rfl,fun e=>by rw [e]⟩]
 rc:=fun {X pins σ H s x y u v a b} A hK I hu r1 r2 h1 h2=>by
  cases a with
  | s p=>cases b with
   | s q =>
    obtain ⟨rfl,_⟩:=h1;obtain ⟨rfl,_⟩:=h2;have:=eqStr.rc (K:=K) (a:=p) (b:=q) A hK I hu r1 r2 rfl rfl
    rwa [show decide (SI.s p=SI.s q)=decide (p=q) from decide_eq_decide.mpr ⟨fun e=>by cases e;rfl,fun e=>by rw [e]⟩]
   | i n =>
    obtain ⟨rfl,_⟩:=h1;have h2:y = .int n:=h2;subst h2;obtain ⟨t,rfl⟩:=r1;obtain ⟨t',rfl⟩:=r2;rw [decide_eq_false (fun e=>by cases e)];exact ⟨SeqAt.RcAt.str_int _ _ _ _,SeqAt.RcNeAt.str_int _ _ _ _⟩
  | i m=>cases b with
   | s q =>
    obtain ⟨rfl,_⟩:=h2;have h1:x = .int m:=h1;subst h1;obtain ⟨t,rfl⟩:=r1;obtain ⟨t',rfl⟩:=r2;rw [decide_eq_false (fun e=>by cases e)];exact ⟨SeqAt.RcAt.int_str _ _ _ _,SeqAt.RcNeAt.int_str _ _ _ _⟩
   | i n =>
    have:=eqInt.rc (K:=K) (a:=m) (b:=n) A hK I hu r1 r2 h1 h2
    rwa [show decide (SI.i m=SI.i n)=decide (m=n) from decide_eq_decide.mpr ⟨fun e=>by cases e;rfl,fun e=>by rw [e]⟩]
instance reSI:RpE SI:=⟨0,fun _=>eqSI⟩
def Lo (K:FZ9)(α:Type)[Rp α][DecidableEq α](neg:Bool):R2:=fun x y H Q=>∃ p xs a as,y = .ref p/\SqL K H p xs/\Rp.rel (α:=α) K H x a/\Paired (Rp.rel (α:=α) K H) xs as/\Q (.bl (if neg then !decide (a∈as) else decide (a∈as))) H
open Classical in
def eqW {α:Type}[Rp α](K:FZ9)(H:Hp)(a:α)(u:Value):Bool:=decide (∃ y,RelV y u/\Rp.rel K H y a)
theorem eqW_of {α:Type}[Rp α][DecidableEq α][RpE α]{X:Cx}{pins:List (Addr × Obj)}{σ:St}{H:Hp}{s:Shared}(I:Inv X pins σ H s){a b:α}{y:V}{u:Value}(r:RelV y u)(h:Rp.rel X.K H y b):eqW X.K H a u=decide (b=a):=by
 unfold eqW
 classical
 by_cases e:b=a
 ·subst e;rw [decide_eq_true rfl,decide_eq_true];exact ⟨y,r,h⟩
 ·rw [decide_eq_false e,decide_eq_false];rintro ⟨z,rz,hz⟩;have:=RelV.inj r rz;subst this;exact e ((RpE.ty X.K).fn rfl I h hz)
theorem JO {α:Type}[Rp α][DecidableEq α][RpE α]{X:Cx}{pins:List (Addr × Obj)}{σ:St}{H:Hp}{s:Shared}(I:Inv X pins σ H s){a:α}:∀ {xs:List V}{us:List Value}{as:List α},Vals xs us->Paired (Rp.rel X.K H) xs as->us.any (eqW X.K H a)=decide (a∈as)
 | _,_,_,.nil,.nil=>by simp
 | y::xs,u::us,b::as,.cons r t,.cons h p=>by
  rw [List.any_cons,eqW_of I r h,JO I t p];by_cases e:b=a
  ·subst e;simp
  ·rw [decide_eq_false e,Bool.false_or]
   exact decide_eq_decide.mpr ⟨fun m=>qqA _ m,fun m=>by
    rcases qmA.mp m with rfl|m
    ·exact absurd rfl e
    ·exact m⟩
theorem Il {α:Type}[Rp α][DecidableEq α][RpE α]{X:Cx}{A:Around}{pins:List (Addr × Obj)}{σ:St}{H:Hp}{s:Shared}(I:Inv X pins σ H s)(hA:A.units+RpE.k α<cLine){a:α}{x:V}{v:Value}(rx:RelV x v)(hx:Rp.rel X.K H x a):∀ {xs:List V}{us:List Value}{as:List α},Vals xs us->Paired (Rp.rel X.K H) xs as->∀ u∈us,SeqAt.EqAt A s u v (eqW X.K H a u)
 | _,_,_,.nil,.nil=>fun u hu=>by cases hu
 | y::xs,u::us,b::as,.cons r t,.cons h p=>fun u' hu=>by
  rcases qmA.mp hu with rfl|hu
  ·rw [eqW_of I r h];exact (RpE.ty X.K).eq A rfl I hA r rx h hx
  ·exact Il I hA rx hx t p u' hu
theorem op_inE {X:Cx}{K:FZ9}{j:Nat}(hK:X.K=K)(α:Type)[Rp α][DecidableEq α][RpE α](hr:Room j X.A)(hk:RpE.k α<=40):OpR X (compareOp .In) (Lo K α false):=by
 subst hK;intro pins s σ H x y v u Q I rx ry h;obtain ⟨p,xs,a,as,rfl,hq,hx,pr,q⟩:=h;cases ry;obtain ⟨its,r,pl,hz⟩:=I.list hq;refine SeqAt.in_listAt (eqW X.K H a) pl.isList (fun w hw=>Il I (by have:=hr.un;rw [Around.in1_units];omega) rx hx r pr w (by simpa using hw)) ⟨.bl _,H,I,rfl,?_⟩;rw [show its.toArray.any (eqW X.K H a)=its.any (eqW X.K H a) by simp,JO I r pr];exact q
theorem MB {X:Cx}{K:FZ9}{j:Nat}(hK:X.K=K)(α:Type)[Rp α][DecidableEq α][RpE α](hr:Room j X.A)(hk:RpE.k α<=40):OpR X (compareOp .NotIn) (Lo K α true):=by
 subst hK;intro pins s σ H x y v u Q I rx ry h;obtain ⟨p,xs,a,as,rfl,hq,hx,pr,q⟩:=h;cases ry;obtain ⟨its,r,pl,hz⟩:=I.list hq;refine SeqAt.notIn_listAt (eqW X.K H a) pl.isList (fun w hw=>Il I (by have:=hr.un;rw [Around.in1_units];omega) rx hx r pr w (by simpa using hw)) ⟨.bl _,H,I,rfl,?_⟩;rw [show its.toArray.any (eqW X.K H a)=its.any (eqW X.K H a) by simp,JO I r pr];exact q
section
variable {K:FZ9}{σ:St}{G H:Hp}{ta tb te td ti:TE}{α:Type}[Rp α]
theorem ev_inE [DecidableEq α]{ma:Option α}{ml:Option (List α)}(ea:EV K ta σ G ma)(eb:EV K tb σ G ml):EV K (tOp (Lo K α false) ta tb) σ G (ma.bind fun a=>ml.bind fun l=>some (decide (a∈l))) :=
 BV (fun {G' H' x y a b c} s ra rb e Q k=>by
  cases e;obtain ⟨l,xs,rfl,h,z,p⟩:=rb
  exact ⟨l,xs,a,b,rfl,.inl (s.rd h),Rp.mono s ra,Paired.imp' (fun _ _ r=>Rp.mono s r) p,k _ _ _ (.refl s) rfl⟩) ea eb
theorem MD [DecidableEq α]{ma:Option α}{ml:Option (List α)}(ea:EV K ta σ G ma)(eb:EV K tb σ G ml):EV K (tOp (Lo K α true) ta tb) σ G (ma.bind fun a=>ml.bind fun l=>some (!decide (a∈l))) :=
 BV (fun {G' H' x y a b c} s ra rb e Q k=>by
  cases e;obtain ⟨l,xs,rfl,h,z,p⟩:=rb
  exact ⟨l,xs,a,b,rfl,.inl (s.rd h),Rp.mono s ra,Paired.imp' (fun _ _ r=>Rp.mono s r) p,k _ _ _ (.refl s) rfl⟩) ea eb
theorem K9 {la:Option (Tp α)}(ea:EV K ta σ G la):FV K (tCB (fun xs H Q=>∃ p ys,xs=[.ref p]/\(SqL K H p ys\/SqT K H p ys)/\∀ l,H l=none->Q (.ref l) (upd H l (.lst ys))) (AS ta BS)) σ G (la.bind fun a=>some a.l):=by
 clear 7;obtain ⟨a,ha,hc⟩:=qaA.mp hc;cases hc;clear 8 ea a ha;obtain ⟨l,xs,rfl,h,z,p⟩:=r2;exact ⟨l,xs,rfl,.inr (x2.gh.tup h),Gj x2.gh z p (FV.mono x2 k)⟩
end
theorem Cq {K:FZ9}{H:Hp}:∀ {xs:List V}{ns:List Int},Paired (Rp.rel K H) xs ns->xs=ns.map V.int
 | _,_,.nil=>rfl
 | _,_,.cons h t=>by
  cases h;rw [qwA,Cq t]
structure Mp (α:Type) where
 l:List (Int × α)
section
variable {K:FZ9}{σ:St}{G H:Hp}{ta tb te:TE}{rest:TS}{D:Ends}{i:Nat}{v:V}{p:Addr}{vs:List V}
theorem Fh {G:Hp}:∀ {xs:List V}{ys:List Str},Paired (Rp.rel K G) xs ys->xs=ys.map V.str
 | _,_,.nil=>rfl
 | _,_,.cons h t=>by
  obtain ⟨rfl,_⟩:=h;rw [qwA,Fh t]
end
def leS (a b:Str):Bool:=!decide (b.cps.toList<a.cps.toList)
theorem leS_iff {a b:Str}:leS a b=true ↔ a.cps.toList<=b.cps.toList:=by
 unfold leS;rw [Bool.not_eq_true',decide_eq_false_iff_not];exact List.not_lt
theorem GC (a b c:Str)(h1:leS a b=true)(h2:leS b c=true):leS a c=true:=leS_iff.mpr (List.le_trans (leS_iff.mp h1) (leS_iff.mp h2))
theorem IC (a b:Str):(leS a b || leS b a)=true:=by
 rw [Bool.or_eq_true,leS_iff,leS_iff];exact List.le_total _ _
theorem K6 {a b:Str}(h1:leS a b=true)(h2:leS b a=true):a=b:=by
 have:=List.le_antisymm (leS_iff.mp h1) (leS_iff.mp h2);cases a;cases b
 congr 1
 exact Array.toList_inj.mp this
def Gn (ys:List Str):List Str:=ys.mergeSort leS
theorem DD (ys:List Str):(Gn ys).Perm ys:=List.mergeSort_perm ys leS
theorem IQ:∀ (p:Str) (l:List Str),risingS p l=true->(p::l).Pairwise fun a b=>leS a b=true
 | p,[],_=>by simp
 | p,x::r,h=>by
  have h:(!ltCps x.cps.toList p.cps.toList && risingS x r)=true:=h;rw [Bool.and_eq_true,ltCps_eq] at h;have h1:leS p x=true:=h.1;have ih:=IQ x r h.2;refine List.pairwise_cons.mpr ⟨fun y hy=>?_,ih⟩;rcases qmA.mp hy with rfl|hy
  ·exact h1
  ·exact GC _ _ _ h1 (List.rel_of_pairwise_cons ih hy)
theorem sortS_of {ss ss':List Str}(hp:ss'.Perm ss)(hs:sortedS ss'=true):ss'=Gn ss:=by
 have pw:ss'.Pairwise fun a b=>leS a b=true:=by
  cases ss' with
  | nil=>exact .nil
  | cons x r=>exact IQ x r hs
 exact List.Perm.eq_of_pairwise (fun a b _ _ h1 h2=>K6 h1 h2) pw (List.pairwise_mergeSort GC IC ss) (hp.trans (DD ss).symm)
def L5 (ys:List Str):Option (List Str):=if ys.length<64 then some (Gn ys) else none
theorem Ia:∀ {vs:List Value}{ss:List Str},StrsAre vs ss->Vals (ss.map V.str) vs
 | _,_,.nil=>.nil
 | _,_,.cons x t r=>.cons ⟨t,rfl⟩ (Ia r)
def rSortS (K:FZ9):List V->Hp->VK->Prop:=fun vs H Q=>∃ (l:Addr) (ys:List Str),vs=[.ref l]/\SqL K H l (ys.map V.str)/\ys.length<64/\∀ p,H p=none->Q (.ref p) (upd H p (.lst ((Gn ys).map V.str)))
theorem JJ {X:Cx}{K:FZ9}(h:X.K=K):CC X (.builtin "sorted") (rSortS K):=by
 subst h;intro pins s σ H vs us Q I r h;obtain ⟨l,ys,rfl,hl,h64,q⟩:=h;obtain ⟨u,rfl,ru⟩:=DI r;cases ru;obtain ⟨its,rv,pl,_⟩:=I.list hl;have hlen:=rv.length;rw [qeA] at hlen;refine sorted_strs pl.isList (Kl rv) (by omega) fun out ss' a1 a2 a3=>?_;have e:=sortS_of a2 a3;subst e;obtain ⟨n,he⟩:=sortedAll_at s.heap its out;refine ⟨.ref (s.heap.objs.size+1),_,I.laid (a:=s.heap.objs.size+1) (t':=s.toks) (o:=.lst ((Gn ys).map V.str)) (fun b ob q=>sortedAll_old q) (Nat.le_succ _) ?_,rfl,q _ (I.hok.fresh (Nat.le_succ _))⟩;refine ⟨?_,out.toList,n,Ia a1,he⟩;rw [qeA,(DD ys).length_eq,qeB];omega
theorem HQ {K:FZ9}{G:Hp}:∀ {xs:List V}{ys:List Str},Paired (Rp.rel K G) xs ys->∀ y∈ys,y.length<=sizeLine
 | _,_,.nil=>fun y hy=>by cases hy
 | _,_,.cons h t=>fun y hy=>by
  rcases qmA.mp hy with rfl|hy
  ·exact h.2
  ·exact HQ t y hy
section
variable {K:FZ9}{σ:St}{G:Hp}{ta:TE}
theorem fv_sortS {la:Option (List Str)}(ea:EV K ta σ G la):FV K (tCB (rSortS K) (AS ta BS)) σ G (la.bind fun ys=>L5 ys):=by
 clear 7;obtain ⟨a,ha,hc⟩:=qaA.mp hc;obtain ⟨h64,rfl⟩:=BI hc;clear 8 ea a ha;obtain ⟨l,xs,rfl,h,z,p⟩:=r2;have e:=Fh p;subst e;refine ⟨l,a,rfl,.inl (x2.gh.rd h),h64,?_⟩;refine Gj x2.gh ?_ ?_ (FV.mono x2 k)
 ·rw [qeA,(DD a).length_eq,qeB];omega
 ·have hl:∀ y∈a,y.length<=sizeLine:=fun y hy=>by
   have:=HQ p y hy;exact this
  have:∀ zs:List Str,(∀ y∈zs,y.length<=sizeLine)->Paired (Rp.rel K G2) (zs.map V.str) zs:=fun zs=>by
   induction zs with
   | nil=>intro _;exact .nil
   | cons y zs ih=>intro h;exact .cons ⟨rfl,h y qpA⟩ (ih fun w hw=>h w (qqA _ hw))
  exact this _ fun y hy=>hl y ((DD a).mem_iff.mp hy)
end
def Ris (xs:Array Nat):Prop:=∀ i j,i<j->(hj:j<xs.size)->xs.getD i 0<xs.getD j 0
theorem below_go (xs:Array Nat)(j:Nat)(hr:Ris xs):∀ fuel lo hi,lo<=hi->hi<=xs.size->hi - lo<=fuel->(∀ i,i<lo->xs.getD i 0<j)->(∀ i,hi<=i->i<xs.size->j<=xs.getD i 0) ->
  (SetTable.below.go xs j fuel lo hi<=xs.size/\(∀ i,i<SetTable.below.go xs j fuel lo hi->xs.getD i 0<j)/\∀ i,SetTable.below.go xs j fuel lo hi<=i->i<xs.size->j<=xs.getD i 0):=by
 intro fuel
 induction fuel with
 | zero =>
  intro lo hi h1 h2 h3 h4 h5;have e:lo=hi:=by omega
  subst e;exact ⟨h2,h4,h5⟩
 | succ fuel ih =>
  intro lo hi h1 h2 h3 h4 h5;unfold SetTable.below.go;by_cases hlt:lo<hi
  ·rw [if_pos hlt];dsimp only;have hm1:lo<=(lo+hi) / 2:=by omega
   have hm2:(lo+hi) / 2<hi:=by omega
   generalize (lo+hi) / 2=mid at hm1 hm2 ⊢;have hms:mid<xs.size:=by omega
   have e1:xs.getD mid j=xs.getD mid 0:=by simp [Array.getD,hms]
   rw [e1]
   have mono:∀ a b,a<=b->b<xs.size->xs.getD a 0<=xs.getD b 0:=fun a b hab hb=>by
    rcases Nat.lt_or_eq_of_le hab with h|h
    ·exact Nat.le_of_lt (hr a b h hb)
    ·rw [h];exact qxA _
   by_cases hc:xs.getD mid 0<j
   ·rw [if_pos hc];refine ih (mid+1) hi (by omega) h2 (by omega) (fun i hi'=>?_) h5;exact Nat.lt_of_le_of_lt (mono i mid (by omega) hms) hc
   ·rw [if_neg hc];refine ih lo mid hm1 (by omega) (by omega) h4 fun i hi' hs=>?_;exact qyA (Nat.le_of_not_lt hc) (mono mid i hi' hs)
  ·rw [if_neg hlt];have e:lo=hi:=by omega
   subst e;exact ⟨h2,h4,h5⟩
theorem below_ok {xs:Array Nat}(hr:Ris xs)(j:Nat):SetTable.below xs j<=xs.size/\(∀ i,i<SetTable.below xs j->xs.getD i 0<j)/\∀ i,SetTable.below xs j<=i->i<xs.size->j<=xs.getD i 0 :=
 below_go xs j hr xs.size 0 xs.size (qsB _) (qxA _) (qxA _) (fun i h=>absurd h (Nat.not_lt_zero _)) fun i h h'=>absurd h' (Nat.not_lt.mpr h)
theorem GI {xs:Array Nat}(h:xs.toList.Pairwise (· < ·)):Ris xs:=fun i j hij hj=>by
 have:=List.pairwise_iff_getElem.mp h i j (by simpa using Nat.lt_trans hij hj) (by simpa using hj) hij
 simpa [Array.getD,hj,Nat.lt_trans hij hj] using this
theorem MG {xs:Array Nat}(h:Ris xs):xs.toList.Pairwise (· < ·):=by
 rw [List.pairwise_iff_getElem];intro i j hi hj hij;have hi':i<xs.size:=by simpa using hi
 have hj':j<xs.size:=by simpa using hj
 have:=h i j hij hj'
 simpa [Array.getD,hj',hi'] using this
theorem KM {xs:Array Nat}(hr:Ris xs){j:Nat}(hn:xs[SetTable.below xs j]?≠some j):Ris (SetTable.insertAt xs (SetTable.below xs j) j):=by
 apply GI;rw [SetTable.toList_insertAt];obtain ⟨a,b,c⟩:=below_ok hr j;have pw:=MG hr;generalize hp:SetTable.below xs j=p at a b c hn
 have hA:∀ x∈xs.toList.take p,x<j:=fun x hx=>by
  obtain ⟨i,hi,rfl⟩:=List.mem_iff_getElem.mp hx;rw [qjA] at hi;have h1:i<p:=by omega
  have h2:i<xs.size:=by rw [qnB] at hi;omega
  have:=b i h1;rw [List.getElem_take]
  simpa [Array.getD,h2] using this
 have hB:∀ x∈xs.toList.drop p,j<x:=fun x hx=>by
  obtain ⟨i,hi,rfl⟩:=List.mem_iff_getElem.mp hx;rw [List.length_drop,qnB] at hi;have h2:p+i<xs.size:=by omega
  have hp2:p<xs.size:=by omega
  have h3:=c (p+i) (Nat.le_add_right _ _) h2;rw [List.getElem_drop]
  have h4:xs.getD (p+i) 0≠j:=fun e=>by
   have h5:=c p (qxA _) hp2
   have h6:xs.getD p 0<=xs.getD (p+i) 0:=by
    cases i with
    | zero=>exact qxA _
    | succ i=>exact Nat.le_of_lt (hr p (p+(i+1)) (by omega) h2)
   have h7:xs.getD p 0=j:=by omega
   apply hn;simp only [Array.getD,hp2,dite_true] at h7;rw [Array.getElem?_eq_getElem hp2];exact congrArg some h7
  simp only [Array.getD,h2,dite_true] at h3 h4;have e:xs.toList[p+i]'(by simpa using h2)=xs[p+i]:=by simp
  rw [e];have h3':j<=xs[p+i]:=by simpa using h3
  have h4':xs[p+i]≠j:=by simpa using h4
  omega
 rw [List.pairwise_append];refine ⟨pw.take,List.pairwise_cons.mpr ⟨hB,pw.drop⟩,fun x hx y hy=>?_⟩;have h1:=hA x hx;rcases qmA.mp hy with rfl|hy
 ·exact h1
 ·exact Nat.lt_trans h1 (hB y hy)
structure RT (t:SetTable):Prop where
 ris:Ris t.place
 dum:t.dummies = #[]
theorem IJ (j:Nat):SetTable.has #[] j=false:=by
 unfold SetTable.has;simp
theorem probe_go {t:SetTable}(hd:t.dummies = #[])(f:Nat->Int)(h:Int):∀ fuel p j d,p.dummy=none->SetTable.probe.go t f h fuel p=some (.empty j d)->d=none/\t.place[SetTable.below t.place j]?≠some j:=by
 intro fuel
 induction fuel with
 | zero=>intro p j d _ e;cases e
 | succ fuel ih =>
  intro p j d hp e;unfold SetTable.probe.go at e
  have hadv:(t.advance p).dummy=none:=by
   unfold SetTable.advance;split
   ·exact hp
   ·exact hp
  cases hs:t.slot p.j with
  | empty =>
   rw [hs] at e;dsimp only at e;cases e;refine ⟨hp,fun hc=>?_⟩;unfold SetTable.slot at hs;dsimp only at hs;rw [hc] at hs;simp at hs
  | dummy =>
   unfold SetTable.slot at hs;dsimp only at hs;rw [hd,IJ] at hs;split at hs<;>simp at hs
  | live i =>
   rw [hs] at e;dsimp only at e;split at e
   ·cases e
   ·exact ih _ _ _ hadv e
theorem K7 {t:SetTable}(hd:t.dummies = #[]){h:Int}{j:Nat}{b:Bool}(e:t.freeSlot h=some (j,b)):b=false/\t.place[SetTable.below t.place j]?≠some j:=by
 unfold SetTable.freeSlot at e
 cases hp:t.probe (fun _=>h+1) h (t.probeStart h) with
 | none=>rw [hp] at e;cases e
 | some m =>
  rw [hp] at e
  cases m with
  | candidate _ _ _=>cases e
  | empty j' d =>
   obtain ⟨rfl,h2⟩:=probe_go hd _ _ _ _ _ _ rfl hp;simp only [Option.getD_none,Option.isSome_none,Option.some.injEq,Prod.mk.injEq] at e;obtain ⟨rfl,rfl⟩:=e;exact ⟨rfl,h2⟩
theorem EF (t:SetTable)(n:Nat):RT (t.standIn n):=⟨GI (by show (Array.range n).toList.Pairwise _;rw [Array.toList_range];exact List.pairwise_lt_range),rfl⟩
theorem Iu {t:SetTable}(h:RT t)(n:Nat):RT (t.orStandIn n):=by
 unfold SetTable.orStandIn;split
 ·exact h
 ·exact EF t n
theorem Hm (t:SetTable)(n:Nat):(t.orStandIn n).led=t.led:=by
 unfold SetTable.orStandIn;split<;>rfl
theorem MA {t:SetTable}(ht:RT t)(es:Array (Int × Value))(h:Int)(x:Value):RT (layNew t es h x).2.1/\(layNew t es h x).2.1.led=t.led:=by
 unfold layNew;split
 ·rename_i slot wd e;obtain ⟨_,h2⟩:=K7 ht.dum e;refine ⟨Iu ⟨?_,?_⟩ _,Hm _ _⟩
  ·exact KM ht.ris h2
  ·show (if SetTable.has t.dummies slot then _ else t.dummies) = #[];rw [ht.dum,IJ]
   rfl
 ·exact ⟨EF _ _,rfl⟩
theorem FX {β:Type}(f:Nat->Option β):∀ l:List Nat,l.Pairwise (· < ·)->((l.filterMap fun j=>(f j).map (j,·)).map (·.1)).Pairwise (· < ·)
 | [],_=>.nil
 | a::l,h=>by
  have ih:=FX f l h.tail
  cases hf:f a with
  | none=>rw [List.filterMap_cons_none (by rw [hf];rfl)];exact ih
  | some b =>
   rw [List.filterMap_cons_some (b:=(a,b)) (by rw [hf];rfl),qwA];refine List.pairwise_cons.mpr ⟨fun y hy=>?_,ih⟩;obtain ⟨⟨j,c⟩,hq,rfl⟩:=qnA.mp hy;obtain ⟨j',hj',e⟩:=List.mem_filterMap.mp hq
   cases hf':f j' with
   | none=>rw [hf'] at e;cases e
   | some c' =>
    rw [hf'] at e;cases e;exact List.rel_of_pairwise_cons h hj'
theorem laid_rt {mask finger moves:Nat}{led plain:Bool}{hs:Array Int}{t:SetTable}{o:Array Nat}(e:SetTable.laid mask finger moves led plain hs=some (t,o)):RT t/\t.led=led/\t.plain=plain/\t.mask=mask:=by
 unfold SetTable.laid at e
 cases hl:SetTable.layClean mask hs with
 | none=>rw [hl] at e;cases e
 | some ow =>
  rw [hl] at e;simp only [Option.pure_def,Option.bind_eq_bind,Option.bind_some,Option.some.injEq,Prod.mk.injEq] at e;obtain ⟨rfl,rfl⟩:=e;refine ⟨⟨GI ?_,rfl⟩,rfl,rfl,rfl⟩;exact FX (fun j=>ow.getD j none) _ List.pairwise_lt_range
theorem Jt (t:SetTable)(ht:RT t)(es:Array (Int × Value))(wanted:Nat):RT (relayAll t es wanted).2.1/\(relayAll t es wanted).2.1.led=t.led:=by
 unfold relayAll;split
 ·rename_i t' order e;dsimp only;split
  ·unfold SetTable.relaid at e;obtain ⟨a,b,_⟩:=laid_rt e;exact ⟨a,b⟩
  ·exact ⟨EF _ _,rfl⟩
 ·exact ⟨EF _ _,rfl⟩
def byT (w:World):Bool:=w.params.followText "set-order"
def Ent (w:World)(e:Int × Value)(k:Key):Prop:=DC k e.2=true/\e.1=Jn w k
theorem Js {k:Key}{v:Value}(h:DC k v=true):v.scannable=true:=by
 rcases BF h with ⟨i,t,rfl,rfl⟩ | ⟨x,t,rfl,rfl⟩<;>rfl
structure SObj (w:World)(o:Obj)(es:Array (Int × Value))(ep:Nat)(t:SetTable)(ks:List Key):Prop where
 exact':o.ExactSet
 data:o.data = .set es ep t
 ent:Paired (Ent w) es.toList ks
 few:ks.length<scanBound
 fit:t.fits es.size=true
 rt:RT t
 led:t.led = !byT w
def SetIs (w:World)(h:Heap)(a:Addr)(ks:List Key):Prop:=∃ o es ep t,h.get? a=some o/\SObj w o es ep t ks
theorem CH {α β:Type}{F:α->β->Prop}:∀ {l₁:List α}{l₂:List β},Paired F l₁ l₂->l₁.length=l₂.length
 | _,_,.nil=>rfl
 | _,_,.cons _ t=>congrArg (· + 1) (CH t)
theorem SObj.size {w:World}{o es ep t ks}(S:SObj w o es ep t ks):es.size=ks.length:=by
 have:=CH S.ent
 rwa [qnB] at this
theorem SObj.elems {prog:Program}{w:World}{o es ep t ks}(S:SObj w o es ep t ks):ElemsOf (C6 prog w) es.toList:=by
 have:∀ {l:List (Int × Value)}{ks:List Key},Paired (Ent w) l ks->ElemsOf (C6 prog w) l:=by
  intro l ks p
  induction p with
  | nil=>intro e he;cases he
  | cons hd _ ih =>
   intro e he;rcases qmA.mp he with rfl|he
   ·exact ⟨⟨_,hd.1,hd.2⟩,Js hd.1⟩
   ·exact ih e he
 exact this S.ent
theorem GX {α β:Type}{F:α->β->Prop}{l l':List α}(hp:l'.Perm l):∀ {m:List β},Paired F l m->∃ m',m'.Perm m/\Paired F l' m':=by
 have:=hp.symm;clear hp
 induction this with
 | nil=>intro m p;exact ⟨m,.rfl,p⟩
 | cons x _ ih =>
  intro m p
  cases p with
  | cons h t =>
   obtain ⟨m',e,q⟩:=ih t;exact ⟨_,e.cons _,.cons h q⟩
 | swap x y l =>
  intro m p
  cases p with
  | cons h t=>cases t with
   | cons h2 t2=>exact ⟨_,List.Perm.swap _ _ _,.cons h2 (.cons h t2)⟩
 | trans _ _ ih1 ih2 =>
  intro m p;obtain ⟨m1,e1,q1⟩:=ih1 p;obtain ⟨m2,e2,q2⟩:=ih2 q1;exact ⟨m2,e2.trans e1,q2⟩
theorem JZ {w:World}{k:Key}:∀ {l:List (Int × Value)}{ks:List Key},Paired (Ent w) l ks->((∃ e∈l,DC k e.2=true) ↔ k∈ks)
 | _,_,.nil=>by simp
 | _,_,.cons (a:=e) (b:=k') h t=>by
  have ih:=JZ (k:=k) t;have hk:DC k e.2=true ↔ k=k':=⟨fun q=>(C6 default w).inj _ _ _ q h.1,fun q=>q ▸ h.1⟩;constructor
  ·rintro ⟨x,hx,q⟩;rcases qmA.mp hx with rfl|hx
   ·exact qmA.mpr (.inl (hk.mp q))
   ·exact qmA.mpr (.inr (ih.mp ⟨x,hx,q⟩))
  ·intro hm;rcases qmA.mp hm with rfl|hm
   ·exact ⟨e,qpA,h.1⟩
   ·obtain ⟨x,hx,q⟩:=ih.mpr hm;exact ⟨x,qqA _ hx,q⟩
def F0 (ks:List Key)(k:Key):List Key:=if ks.any (fun y=>decide (y=k)) then ks else ks++[k]
theorem any_mem {ks:List Key}{k:Key}:ks.any (fun y=>decide (y=k))=true ↔ k∈ks:=by
 rw [List.any_eq_true];exact ⟨fun ⟨y,hy,e⟩=>(of_decide_eq_true e) ▸ hy,fun h=>⟨k,h,decide_eq_true rfl⟩⟩
theorem JR {ks:List Key}{k:Key}(h:k∈ks):F0 ks k=ks:=by unfold F0;rw [if_pos (any_mem.mpr h)]
theorem Hb {ks:List Key}{k:Key}(h:k ∉ ks):F0 ks k=ks++[k]:=by unfold F0;rw [if_neg (fun q=>h (any_mem.mp q))]
theorem Ie {t:SetTable}(h:RT t):RT { t with plain:=false }:=⟨h.ris,h.dum⟩
section
variable {prog:Program}{w:World}{A:Around}{E:Value->Shared->Prop}{s:Shared}
theorem Ez {a:Addr}{o:Obj}{es:Array (Int × Value)}{ep:Nat}{t:SetTable}{es':Array (Int × Value)}{t':SetTable}(ho:s.heap.get? a=some o)(hd:o.data = .set es ep t) :
  (s.heap.update a (Obj.putSet es' t')).get? a=some { o with data:=.set es' (ep+1) t' }:=by
 have:=Heap.get?_update_self (Obj.putSet es' t') ho (by rw [putSet_of es' t' hd];rfl)
 rwa [putSet_of es' t' hd] at this
theorem Jx {n:Nat}(h:n<scanBound):n<=sizeLine:=fits_of_scanBound h
theorem K4 {g:Bool->Sem Unit}(hg:∀ (b:Bool) (s₁:Shared) (Q':Unit->Shared->Prop),Q' () s₁->wpAny (model prog w) A (g b) Q' E s₁)
  {a:Addr}{o:Obj}{es:Array (Int × Value)}{ep:Nat}{t:SetTable}(gA:s.heap.get? a=some o) (xA:o.ExactSet) (dA:o.data = .set es ep t)
  {es1:Array (Int × Value)}{t2:SetTable}{ks:List Key}(p1:Paired (Ent w) es1.toList ks) (f1:ks.length<scanBound) (ft:t2.fits es1.size=true) (r2:RT t2) (l2:t2.led = !byT w) {wd:Bool}{R:Option Bool->Shared->Prop}
  (h:∀ h' ks',Heap.SameBut a s.heap h'->SetIs w h' a ks'->ks'.Perm ks->R (some true) { s with heap:=h' }) :
  wpAny (model prog w) A (do
    storeSet a es1 t2
    if (!wd && t2.tooFull)=true then do
      g (relayAll t2 es1 (SetTable.grown es1.size)).2.2;storeSet a (relayAll t2 es1 (SetTable.grown es1.size)).1 (relayAll t2 es1 (SetTable.grown es1.size)).2.1
      pure (some true)
     else pure (some true)) R E s:=by
 have z1:es1.size=ks.length:=by have:=CH p1;rwa [qnB] at this
 refine qbA (wpAny_storeSet_of gA dA ?_ (Jx (by rw [z1];exact f1)));have g1:=Ez (es':=es1) (t':=t2) gA dA;have b1:=Heap.SameBut.update s.heap a (Obj.putSet es1 t2);split
 ·have hp:=relayAll_perm t2 es1 (SetTable.grown es1.size);have hfr:=relayAll_fits t2 es1 (SetTable.grown es1.size);obtain ⟨hrt,hld⟩:=Jt t2 r2 es1 (SetTable.grown es1.size);generalize relayAll t2 es1 (SetTable.grown es1.size)=Rl at hp hfr hrt hld ⊢;obtain ⟨es2,t3,gave2⟩:=Rl;dsimp only at hp hfr hrt hld ⊢;obtain ⟨ks',e',p2⟩:=GX hp p1;have f2:ks'.length<scanBound:=by rw [e'.length_eq];exact f1
  have z2:es2.size=ks'.length:=by have:=CH p2;rwa [qnB] at this
  refine qbA (hg _ _ _ (qbA (wpAny_storeSet_of (o:={ o with data:=.set es1 (ep+1) t2 }) g1 rfl ?_ (Jx (by rw [z2];exact f2)))));have g2:=Ez (s:={ s with heap:=s.heap.update a (Obj.putSet es1 t2) }) (es':=es2) (t':=t3) g1 rfl;exact qcA (h _ ks' (b1.trans (Heap.SameBut.update _ a _)) ⟨_,es2,_,t3,g2,⟨xA,rfl,p2,f2,hfr,hrt,hld.trans l2⟩⟩ e')
 ·exact qcA (h _ ks b1 ⟨_,es1,_,t2,g1,⟨xA,rfl,p1,f1,ft,r2,l2⟩⟩ .rfl)
theorem add_ok {a:Addr}{ks:List Key}{k:Key}{x:Value}{Q:Bool->Shared->Prop}(hk:DC k x=true)(hS:SetIs w s.heap a ks)(hroom:ks.length+1<scanBound)
  (h:∀ h' ks',Heap.SameBut a s.heap h'->SetIs w h' a ks'->ks'.Perm (F0 ks k)->∀ b,Q b { s with heap:=h' }) :
  wpAny (model prog w) A (setAddHashed a x (Jn w k)) Q E s:=by
 obtain ⟨o,es,ep,t,gA,S⟩:=hS;have hel:=S.elems (prog:=prog);have hsz:=S.size;have hsc:=Js hk;unfold setAddHashed setAddHashedIn;refine qdA (qbA (wpAny_setState_of gA S.data S.fit ?_));dsimp only;rw [byScan_of hsc (by rw [hsz];exact S.few) hel];simp only [↓reduceIte];unfold setAddByScan;refine qbA (qbA (wpAny_rule (qbA (wpAny_setScan_of (knd:=C6 prog w) (k:=k) hk gA S.data S.fit hel ?_))));have hf:=JZ (k:=k) S.ent
 cases hr:List.findIdx? (fun e=>(C6 prog w).is k e.2) es.toList with
 | some j =>
  dsimp only;obtain ⟨hj,hpj,_⟩:=List.findIdx?_eq_some_iff_getElem.mp hr;have hm:k∈ks:=hf.mp ⟨es.toList[j],List.getElem_mem hj,hpj⟩;refine qcA (qcA ?_);have e:s = { s with heap:=s.heap }:=by cases s;rfl
  have q:=h s.heap ks (Heap.SameBut.refl a s.heap) ⟨o,es,ep,t,gA,S⟩ (by rw [JR hm]) false;rw [<- e] at q;exact q
 | none =>
  dsimp only
  have hm:k ∉ ks:=fun hm=>by
   obtain ⟨e,he,q⟩:=hf.mpr hm;have:=List.findIdx?_eq_none_iff.mp hr e he;have q':(C6 prog w).is k e.2=true:=q;rw [q'] at this;exact Bool.noConfusion this
  have hgw:∀ (b:Bool) {s₁:Shared}{Q':Unit->Shared->Prop},Q' () s₁->wpAny (model prog w) A (match b with|true=>rule "set.scan.the-table-gave-way" | false=>pure ()) Q' E s₁:=by
   intro b s₁ Q' hq;cases b
   ·exact qcA hq
   ·exact wpAny_rule hq
  have hperm:=layNew_perm t es (Jn w k) x;have hfits:=layNew_fits t es (Jn w k) x;obtain ⟨hrt,hld⟩:=MA S.rt es (Jn w k) x;generalize hL:layNew t es (Jn w k) x=L at hperm hfits hrt hld;obtain ⟨es1,t1,wd,gave⟩:=L;dsimp only at hperm hfits hrt hld ⊢;rw [Array.toList_push] at hperm;obtain ⟨ks1,e1,p1⟩:=GX hperm (S.ent.snoc (b:=k) (show Ent w (Jn w k,x) k from ⟨hk,rfl⟩));have f1:ks1.length<scanBound:=by rw [e1.length_eq,qfA];exact hroom
  have fin:∀ (h':Heap) (ks':List Key),Heap.SameBut a s.heap h'->SetIs w h' a ks'->ks'.Perm ks1->Q true { s with heap:=h' }:=fun h' ks' b1 b2 b3=>h h' ks' b1 b2 (by rw [Hb hm];exact b3.trans e1) true;refine qbA (hgw _ ?_);split
  ·refine qbA ?_;rw [hashByValue_scannable 8 hsc];refine qcA (K4 (fun b s₁ Q' hq=>by cases b<;>first|exact qcA hq|exact wpAny_rule hq) gA S.exact' S.data p1 f1 ?_ ?_ ?_ fun h' ks' b1 b2 b3=>?_)
   ·split
    ·exact hfits
    ·exact SetTable.fits_plain_off hfits
   ·split
    ·exact hrt
    ·exact Ie hrt
   ·split
    ·exact hld.trans S.led
    ·exact hld.trans S.led
   ·exact qcA (fin h' ks' b1 b2 b3)
  ·refine qbA (qcA ?_);simp only [↓reduceIte];refine K4 (fun b s₁ Q' hq=>by cases b<;>first|exact qcA hq|exact wpAny_rule hq) gA S.exact' S.data p1 f1 hfits hrt (hld.trans S.led) fun h' ks' b1 b2 b3=>?_;exact qcA (fin h' ks' b1 b2 b3)
end
def FY (ks:List Key):List Key:=ks.foldl F0 []
theorem M1 {a b:List Key}(h:a.Perm b)(k:Key):(F0 a k).Perm (F0 b k):=by
 by_cases hk:k∈b
 ·rw [JR hk,JR (h.mem_iff.mpr hk)];exact h
 ·rw [Hb hk,Hb (fun q=>hk (h.mem_iff.mp q))];exact h.append_right _
theorem addK_len (a:List Key)(k:Key):(F0 a k).length<=a.length+1:=by
 unfold F0;split
 ·exact Nat.le_succ _
 ·rw [qfA];exact qxA _
theorem Ls (ks:List Key):∀ a:List Key,(ks.foldl F0 a).length<=a.length+ks.length:=by
 induction ks with
 | nil=>intro a;exact qxA _
 | cons k ks ih =>
  intro a;have h1:=ih (F0 a k);have h2:=addK_len a k;rw [List.foldl_cons,qgA];omega
theorem dedK_len (ks:List Key):(FY ks).length<=ks.length:=by
 have:=Ls ks [];rw [List.length_nil] at this;unfold FY;omega
theorem ME (ks:List Key)(k:Key):FY (ks++[k])=F0 (FY ks) k:=by
 unfold FY;rw [List.foldl_append]
 rfl
def SetP (w:World)(h:Heap)(a:Addr)(ks:List Key):Prop:=∃ ks',SetIs w h a ks'/\ks'.Perm ks
theorem SetIs.at {w:World}{h h':Heap}{a:Addr}{ks:List Key}(x:SetIs w h a ks)(k:∀ o,h.get? a=some o->h'.get? a=some o):SetIs w h' a ks:=by
 obtain ⟨o,es,ep,t,g,S⟩:=x;exact ⟨o,es,ep,t,k _ g,S⟩
theorem SetP.at {w:World}{h h':Heap}{a:Addr}{ks:List Key}(x:SetP w h a ks)(k:∀ o,h.get? a=some o->h'.get? a=some o):SetP w h' a ks:=by
 obtain ⟨ks',g,e⟩:=x;exact ⟨ks',g.at k,e⟩
def Aq (w:World):Obj:={ cls:=.type "set",dict:=none,data:=.set #[] 0 (.fresh 0 0 (!byT w)) }
theorem fresh_is {w:World}{h:Heap}{a:Addr}(g:h.get? a=some (Aq w)):SetIs w h a [] :=
 ⟨_,#[],0,_,g,⟨⟨rfl,rfl,rfl⟩,rfl,.nil,by decide,rfl,⟨fun i j _ hj=>absurd hj (Nat.not_lt_zero _),rfl⟩,rfl⟩⟩
section
variable {prog:Program}{w:World}{A:Around}{R:Result->Shared->Prop}{I:Addr}{fp wr:List Addr}{G:Array GenState->Array GenState->Prop}{n:Nat}{P:Nat->Value->Prop}{St:Nat->Shared->Prop}
theorem upd_loop (W:WalksS prog w A.in1 I fp wr G n P St)(S:Addr)(nS:S ∉ fp)(val:List Key)(hn:val.length=n)(hv:∀ i v,P i v->∃ k,val[i]? = some k/\DC k v=true)(hb:n+1<scanBound) :
  ∀ (k i:Nat) (s:Shared),n - i=k->i<=n->St i s->SetP w s.heap S (FY (val.take i)) ->
   (∀ s',Moved (S::wr) G s s'->SetP w s'.heap S (FY val)->R (.ok (.ret .none)) s') ->
   codeAny (model prog w) A (.builtin "set.update.loop" ⟨[.ref S,.ref I],[]⟩) R s:=by
 have nW:S ∉ wr:=fun h=>nS (W.sub _ h);have up:∀ b∈wr,b∈S::wr:=fun b hb=>qqA _ hb;intro k
 induction k with
 | zero =>
  intro i s e1 e2 st hS hR;have ei:i=n:=by omega
  subst ei;refine codeAny_builtin PyProof.Rows.F.entry_set_update_loop ?_;rw [Around.under_plainId PyProof.Rows.F.plain_set_update_loop _];show wpAny _ A.in1 (pyNext (.ref I) >>= _) _ _ s;refine qbA (W.done s _ _ st fun s' hm=>?_);show wpAny _ A.in1 (ret Value.none) _ _ s';refine qcA (hR s' (hm.mono up) ?_);rw [List.take_of_length_le (Nat.le_of_eq hn)] at hS;exact hS.at fun o e=>hm.heap S _ nW e
 | succ k ih =>
  intro i s e1 e2 st hS hR;have hlt:i<n:=by omega
  refine codeAny_builtin PyProof.Rows.F.entry_set_update_loop ?_;rw [Around.under_plainId PyProof.Rows.F.plain_set_update_loop _];show wpAny _ A.in1 (pyNext (.ref I) >>= _) _ _ s;refine qbA (W.item i s _ _ hlt st fun v s' hP st' hm=>?_);obtain ⟨kk,hkk,hi⟩:=hv i v hP;obtain ⟨ks',hS',ep⟩:SetP w s'.heap S (FY (val.take i)):=hS.at fun o e=>hm.heap S _ nW e;show wpAny _ A.in1 (holding [v] (setAdd S v) >>= _) _ _ s';refine qbA (qdA ?_);unfold setAdd;refine qdA (qbA ((C6 prog w).pyHash (k:=kk) hi ?_))
  have hl:ks'.length<=i:=by
   rw [ep.length_eq];exact qyA (dedK_len _) (by rw [qjA];exact Nat.min_le_left _ _)
  refine add_ok (s:={ s' with toks:=s'.toks+1 }) hi hS' (by omega) fun h' ks2 hsb hS2 e2' b=>?_
  have hnext:SetP w h' S (FY (val.take (i+1))):=by
   refine ⟨ks2,hS2,?_⟩;rw [List.take_add_one,hkk];show ks2.Perm (FY (val.take i++[kk]));rw [ME];exact e2'.trans (M1 ep kk)
  refine qcA ⟨plainId_quiet PyProof.Rows.F.plain_set_update_loop _,ih (i+1) _ (by omega) hlt (W.frame _ s' _ _ st' (Nat.le_succ _) fun b hb o e=>?_) hnext fun s'' hm'' hS''=>?_⟩
  ·exact (hsb.2 b (fun h:b=S=>nS (by rw [<- h];exact hb))).trans e
  ·refine hR s'' (Moved.trans W.gtrans ((hm.mono up).then_heap (Nat.le_succ _) fun b o hb e=>?_) hm'') hS'';exact (hsb.2 b (fun h:b=S=>hb (by rw [h];exact qpA))).trans e
end
def Src (prog:Program)(w:World)(x:Value)(h0:Heap)(n:Nat)(P:Nat->Value->Prop):Prop :=
 ∀ s₁:Shared,(∀ b o,h0.get? b=some o->s₁.heap.get? b=some o)->∃ (oI:Obj) (fp:List Addr) (St:Nat->Heap->Prop),oI.isFreed=false/\(∀ b∈fp,b=s₁.heap.objs.size\/b<h0.objs.size)/\St 0 (s₁.heap.push oI) /\
  (∀ (A':Around) (Q:Value->Shared->Prop) (E:Value->Shared->Prop),A'.handled=none->Q (.ref s₁.heap.objs.size) { s₁ with heap:=s₁.heap.push oI }->wpAny (model prog w) A' (pyIter x) Q E s₁) /\
  ∀ A':Around,A'.handled=none->Walks prog w A' s₁.heap.objs.size fp [s₁.heap.objs.size] n P St
section
variable {prog:Program}{w:World}{A:Around}{E:Value->Shared->Prop}{s:Shared}
theorem JX {l:Addr}{items:Array Value}(hl:s.heap.IsList l items):Src prog w (.ref l) s.heap items.size (fun i v=>items[i]? = some v):=fun s₁ hk=>by
 have hl1:s₁.heap.IsList l items:=hl.at fun o e=>hk _ _ e;obtain ⟨o0,ho0,_⟩:=hl;have ne:l≠s₁.heap.objs.size:=qoB (qbB (hk _ _ ho0));refine ⟨{ cls:=.type "list_iterator",data:=.fields #[.ref l,.int 0 0] },[s₁.heap.objs.size,l],_,rfl,fun b hb=>?_,?_,fun A' Q E' hh q=>wpAny_pyIter_list hl1 q,fun A' hh=>Walks.list hh _ l ne items⟩
 ·rcases qmA.mp hb with e|e
  ·exact .inl e
  ·rw [qoA.mp e];exact .inr (qbB ho0)
 ·exact ⟨⟨_,qdB _ rfl,rfl,rfl⟩,hl1.push _⟩
theorem Fj (a:Value){Q₁:Value->Shared->Prop}(h:Q₁ (.ref s.heap.objs.size) { s with heap:=s.heap.push (Aq w) }) :
  codeAny (model prog w) A (.call (.builtin "set.__new__") ⟨[.type "set",a],[]⟩) (wants Q₁ E) s:=by
 refine codeAny_of_tree ?_;show wpAny _ A.in1 (checkBuiltinCall "set.__new__" ⟨[.type "set",a],[]⟩ >>= fun _=>again (.builtin "set.__new__" ⟨[.type "set",a],[]⟩)) _ _ s;refine qbA (wpAny_of_eq (PySem.F.newCall_set_1 a) (qcA ⟨plainId_quiet F.plain_set_new _,codeAny_builtin F.entry_set_new ?_⟩));rw [Around.under_plainId F.plain_set_new _];unfold Builtin.«set.__new__» Builtin.Frozenset.newClass;have hsub:=sub_set_self;obtain ⟨hp,g,d,tk,os⟩:=s;dsimp only
 wp_walk
 refine wpAny_askSetting (qcA ?_);dsimp only;simp only [newObj];exact qbA (wpAny_alloc (qcA (qcA h)))
end
section
variable {prog:Program}{w:World}{A:Around}{E:Value->Shared->Prop}{s:Shared}
theorem J5 {x:Value}{T:String}{n:Nat}{P:Nat->Value->Prop}{val:List Key}{Q:Value->Shared->Prop}(hh:A.handled=none)(hx:Src prog w x s.heap n P)
  (tx:∀ s₁:Shared,(∀ b o,s.heap.get? b=some o->s₁.heap.get? b=some o)->s₁.TypeIs x T) (n1:isSubtype (.type T) (.type "set")=pure false) (n2:isSubtype (.type T) (.type "frozenset")=pure false) (n3:(Value.type T == Value.type "dict")=false)
  (hn:val.length=n) (hv:∀ i v,P i v->∃ k,val[i]? = some k/\DC k v=true) (hb:n+1<scanBound)
  (h:∀ (h':Heap) (tk:Nat),SetP w h' s.heap.objs.size (FY val)->(∀ b o,s.heap.get? b=some o->h'.get? b=some o)->Q (.ref s.heap.objs.size) { s with heap:=h',toks:=tk }) :
  wpAny (model prog w) A (call (.type "set") [x]) Q E s:=by
 obtain ⟨c,tl,hmro⟩:=F.called_set.mro;have hmade:=F.called_set.made;have hsub:=F.called_set.sub;refine wpAny_call (codeAny_of_tree ?_);show wpAny _ _ (callAny (.type "set") _) _ _ _;refine qcA ⟨Code.quiet_builtin _ (by decide +kernel),codeAny_builtin F.entry_type_call ?_⟩;rw [Around.under_plain (weight_type_call_type "set" [x] []) rfl];have h1:=F.called_set.notType;have h2:=F.called_set.canCreate;have hct:=PySem.F.typeCall_set_1 x
 repeat (any_goals (first|assumption|wp_step))
 refine codeAny_mono (Fj x (E:=E) (Q₁:=fun obj s₁=>obj = .ref s.heap.objs.size/\s₁ = { s with heap:=s.heap.push (Aq w) }) ⟨rfl,rfl⟩) fun r s₁ hr=>?_
 cases r with
 | error e=>exact hr
 | ok fl=>cases fl with
  | ret obj =>
   obtain ⟨rfl,rfl⟩:=hr;have gS:(s.heap.push (Aq w)).get? s.heap.objs.size=some (Aq w):=qdB _ rfl;have hT:Shared.TypeIs { s with heap:=s.heap.push (Aq w) } (.ref s.heap.objs.size) "set" := ⟨_,gS,rfl⟩;have hli:=F.called_set.init.lookup;have hbi:=F.called_set.init.bind (.ref s.heap.objs.size)
   repeat (any_goals (first|assumption|wp_step))
   refine codeAny_mono (codeAny_call_builtin (R:=wants (fun r s₂=>r = .none/\∃ h' tk,s₂ = { s with heap:=h',toks:=tk }/\SetP w h' s.heap.objs.size (FY val)/\(∀ b o,s.heap.get? b=some o->h'.get? b=some o)) E) F.called_set.init.plain F.entry_set_init (check_set_init_1 hT ?_)) fun r₂ s₂ hr₂=>?_
   ·obtain ⟨hp,g,d,tk0,os⟩:=s;dsimp only at *;have kp:∀ b o,hp.get? b=some o->(hp.push (Aq w)).get? b=some o:=fun b o e=>qcB _ e;have hTx:Shared.TypeIs { heap:=hp.push (Aq w),gens:=g,drawn:=d,toks:=tk0,os:=os } x T:=tx _ kp;unfold Builtin.«set.__init__» noKeywords Builtin.Frozenset.updateFrom;generalize hPI:pyIter=PI;unfold Aq at *
    wp_walk
    subst hPI;obtain ⟨oI,fp,St,hf,hfp,st0,hit,hW⟩:=hx { heap:=hp.push (Aq w),gens:=g,drawn:=d,toks:=tk0,os:=os } kp;refine hit _ _ _ (by simp [hh]) (qbA (wpAny_runValue ?_));have eS:(hp.push (Aq w)).objs.size=hp.objs.size+1:=size_push' _ _
    have nS:hp.objs.size ∉ fp:=fun hm=>by
     rcases hfp _ hm with e|e
     ·rw [eS] at e;exact absurd e (qoB (Nat.lt_succ_self _))
     ·exact qzA _ e
    refine upd_loop (hW _ (by simp [hh])).toS hp.objs.size nS val hn hv hb n 0 _ rfl (qsB _) st0 ?_ fun s' hm hS'=>?_
    ·exact ⟨[],fresh_is (qcB _ gS),.rfl⟩
    ·obtain ⟨h',g',d',tk',os'⟩:=s';obtain rfl:g'=g:=hm.gens;obtain rfl:d'=d:=hm.drawn;obtain rfl:os'=os:=hm.os;refine qcA ?_;show wpAny _ _ (ret Value.none) _ _ _;refine qcA ⟨rfl,h',tk',rfl,hS',fun b o e=>?_⟩;have lb:b<hp.objs.size:=qbB e;refine hm.heap b o (fun hmem=>?_) (qcB _ (kp b o e));rcases qmA.mp hmem with q|q
     ·exact absurd q (qoB lb)
     ·have q:=qoA.mp q;rw [eS] at q;exact absurd q (qoB (Nat.lt_succ_of_lt lb))
   ·cases r₂ with
    | error e=>exact hr₂
    | ok fl₂=>cases fl₂ with
     | ret r =>
      obtain ⟨rfl,h',tk,rfl,hS',hk'⟩:=hr₂
      repeat (any_goals (first|assumption|wp_step))
      exact h _ _ hS' hk'
     | _=>exact hr₂.elim
  | _=>exact hr.elim
end
def SetO (w:World)(p:Addr)(ks:List Key):HO:=.ext fun h=>SetP w h p ks
theorem setO_ok {P:Program}{w:World}{H:Hp}{h:Heap}{p:Addr}{ks:List Key}(x:SetP w h p ks):ObjOk P w H h p (SetO w p ks):=by
 refine ⟨x,?_,fun h1 h2 a b=>a.at b⟩;obtain ⟨_,⟨o,_,_,_,g,_⟩,_⟩:=x;exact ⟨o,g⟩
theorem setO_get {P:Program}{w:World}{H:Hp}{h:Heap}{p:Addr}{ks:List Key}(x:HOk P w H h)(e:H p=some (SetO w p ks)):SetP w h p ks:=(x p _ e).1
section
variable {X:Cx}{pins:List (Addr × Obj)}{σ:List (Option V)}{H:Hp}{s s':Shared}
theorem Inv.same (I:Inv X pins σ H s)(e1:s'.heap=s.heap)(e2:s'.gens=s.gens)(e3:s'.os=s.os):Inv X pins σ H s':=by
 obtain ⟨h,g,d,t,o⟩:=s;obtain ⟨h',g',d',t',o'⟩:=s';dsimp only at e1 e2 e3;subst e1;subst e2;subst e3;exact ⟨I.ok,I.os,I.bare,I.base,I.loc,I.cell,I.free,I.freeC,I.pin,I.hok,I.len⟩
theorem Inv.laid' {a:Addr}{o:HO}(I:Inv X pins σ H s)(k:∀ b u,s.heap.get? b=some u->s'.heap.get? b=some u)(hp:s.heap.objs.size<=a)(new:ObjOk X.prog X.w (upd H a o) s'.heap a o)(e2:s'.gens=s.gens)(e3:s'.os=s.os) :
  Inv X pins σ (upd H a o) s':=(I.laid (t':=s.toks) k hp new).same rfl e2 e3
end
theorem rel_key:∀ {k:Key}{u:Value},RelV (kV k) u->DC k u=true
 | .inl i,u,h=>by obtain ⟨t,rfl⟩:=h;exact Fy i t
 | .inr x,u,h=>by obtain ⟨t,rfl⟩:=h;exact Lb x t
theorem vals_key {ks:List Key}:∀ {us:List Value},Vals (ks.map kV) us->∀ (i:Nat) (v:Value),us[i]? = some v->∃ k,ks[i]? = some k/\DC k v=true:=by
 induction ks with
 | nil=>intro us r i v e;cases r;cases e
 | cons k ks ih =>
  intro us r i v e;rw [qwA] at r
  cases r with
  | cons h t=>cases i with
   | zero =>
    cases e;exact ⟨k,rfl,rel_key h⟩
   | succ i=>exact ih t i v e
def rSetK (w:World)(K:FZ9):List V->Hp->VK->Prop:=fun vs H Q=>∃ (l:Addr) (ks:List Key),vs=[.ref l]/\SqL K H l (ks.map kV)/\ks.length<4000/\∀ p,H p=none->Q (.ref p) (upd H p (SetO w p (FY ks)))
theorem Lf {X:Cx}{w:World}{K:FZ9}(hc:X.calm=true)(hw:X.w=w)(hK:X.K=K):CC X (.type "set") (rSetK w K):=by
 subst hK;subst hw;intro pins s σ H vs us Q I r h;obtain ⟨l,ks,rfl,hl,hz,q⟩:=h;obtain ⟨u,rfl,ru⟩:=DI r;cases ru;obtain ⟨its,rv,pl,_⟩:=I.list hl;have hlen:=rv.length;rw [qeA] at hlen;have il:=pl.isList;refine J5 (val:=ks) (T := "list") (I.ok.hd hc) (JX il) (fun s1 k=>(il.at fun o e=>k _ _ e).typeIs) PySem.F.sub_list_set PySem.F.sub_list_frozenset (by decide) ?_ (fun i v e=>vals_key rv i v (by rw [List.getElem?_toArray] at e;exact e)) ?_ fun h' tk hS hk=>?_
 ·rw [qkB];exact hlen
 ·rw [qkB,<- hlen];unfold scanBound;omega
 ·exact ⟨.ref s.heap.objs.size,_,I.laid' (s':={ s with heap:=h',toks:=tk }) (fun b o e=>hk b o e) (qxA _) (setO_ok hS) rfl rfl,rfl,q _ (I.hok.fresh (qxA _))⟩
def leZ (a b:Int):Bool:=decide (a<=b)
def Gz (ys:List Int):List Int:=ys.mergeSort leZ
theorem sortZ_of {ss ss':List Int}(hp:ss'.Perm ss)(hs:ss'.Pairwise (· <= ·)):ss'=Gz ss:=by
 refine List.Perm.eq_of_pairwise (le:=fun a b=>leZ a b=true) (fun a b _ _ h1 h2=>Int.le_antisymm (of_decide_eq_true h1) (of_decide_eq_true h2)) (hs.imp fun h=>decide_eq_true h) (List.pairwise_mergeSort (le:=leZ) (fun a b c h1 h2=>decide_eq_true (Int.le_trans (of_decide_eq_true h1) (of_decide_eq_true h2))) (fun a b=>?_) ss) (hp.trans (List.mergeSort_perm ss leZ).symm);unfold leZ;rcases Int.le_total a b with h|h<;>simp [h]
def Jv {α:Type}[DecidableEq α](ks:List α)(k:α):List α:=if ks.any (fun y=>decide (y=k)) then ks else ks++[k]
def Le {α:Type}[DecidableEq α](ks:List α):List α:=ks.foldl Jv []
theorem addA_map {α:Type}[DecidableEq α]{f:α->Key}(hf:∀ a b,f a=f b->a=b)(ks:List α)(k:α):F0 (ks.map f) (f k)=(Jv ks k).map f:=by
 have e:(ks.map f).any (fun y=>decide (y=f k))=ks.any (fun y=>decide (y=k)):=by
  rw [List.any_map]
  congr 1
  funext y
  show decide (f y=f k)=decide (y=k);by_cases h:y=k
  ·rw [h,decide_eq_true rfl,decide_eq_true rfl]
  ·rw [decide_eq_false h,decide_eq_false (fun q=>h (hf _ _ q))]
 unfold F0 Jv;rw [e];split
 ·rfl
 ·rw [List.map_append];rfl
theorem dedA_map {α:Type}[DecidableEq α]{f:α->Key}(hf:∀ a b,f a=f b->a=b)(ks:List α):FY (ks.map f)=(Le ks).map f:=by
 have:∀ (ks acc:List α),(ks.map f).foldl F0 (acc.map f)=(ks.foldl Jv acc).map f:=by
  intro ks
  induction ks with
  | nil=>intro acc;rfl
  | cons k ks ih=>intro acc;rw [qwA,List.foldl_cons,List.foldl_cons,addA_map hf,ih]
 exact this ks []
theorem inl_inj (a b:Int)(h:(Sum.inl a:Key)=Sum.inl b):a=b:=Sum.inl.inj h
theorem dedA_len {α:Type}[DecidableEq α](ks:List α):(Le ks).length<=ks.length:=by
 have:∀ (ks acc:List α),(ks.foldl Jv acc).length<=acc.length+ks.length:=by
  intro ks
  induction ks with
  | nil=>intro acc;exact qxA _
  | cons k ks ih =>
   intro acc;have h1:=ih (Jv acc k)
   have h2:(Jv acc k).length<=acc.length+1:=by
    unfold Jv;split
    ·exact Nat.le_succ _
    ·rw [qfA];exact qxA _
   rw [List.foldl_cons,qgA];omega
 have:=this ks [];rw [List.length_nil] at this;unfold Le;omega
section
variable {K:FZ9}{σ:St}{G:Hp}{ta tb:TE}{w:World}
theorem LY (a:List Int):a.map V.int=(a.map (Sum.inl:Int->Key)).map kV:=by rw [List.map_map];rfl
theorem JW {G2:Hp}:∀ zs:List Int,Paired (Rp.rel K G2) (zs.map V.int) zs
 | []=>.nil
 | z::zs=>.cons rfl (JW zs)
theorem Hy (ys:List Int):(Gz ys).length=ys.length:=(List.mergeSort_perm ys leZ).length_eq
end
structure MpS (α:Type) where
 l:List (Str × α)
section
variable {prog:Program}{w:World}{A:Around}{E:Value->Shared->Prop}{s:Shared}
def HL (f0 f1:Value)(TI TO:Addr):Obj:={ cls:=.type "zip",dict:=none,data:=.fields #[f0,f1,.bool false,.ref TI,.ref TO],slots:=#[] }
structure ZAp (z TI TO i1 i2 l t:Addr):Prop where
 a:TI≠z/\TO≠z/\i1≠z/\i2≠z
 b:TI≠TO/\TI≠i1/\TI≠i2/\TO≠i1/\TO≠i2/\i1≠i2
 c:l≠z/\l≠TO/\l≠i1/\l≠i2
 d:t≠z/\t≠TO/\t≠i1/\t≠i2
theorem wp_alive {a:Addr}{Q:Option Obj->Shared->Prop}(h:Q (s.heap.get? a) s):wpAny (model prog w) A (loadIfAlive a) Q E s:=fun Γ p hΓ=>by
 show Sem.wp _ _ (.loadIfAlive a .pure) _ _ _ _;rw [Sem.wp_loadIfAlive];exact h
theorem Go {z TI TO T:Addr}{f1:Value}{oT:Obj}{Q:Bool->Shared->Prop}(gz:s.heap.get? z=some (HL (rawInt T) f1 TI TO))(gT:s.heap.get? T=some oT)
  (h:∀ f1' h₁,h₁.get? z=some (HL (rawInt T) f1' TI TO)->Heap.SameBut z s.heap h₁->Q false { s with heap:=h₁ }):wpAny (model prog w) A (Builtin.SmallTypes.ownedTupleIsFree (.ref z)) Q E s:=by
 unfold Builtin.SmallTypes.ownedTupleIsFree;refine qbA (wpAny_field gz rfl (x:=rawInt T) rfl ?_);show wpAny _ _ (loadIfAlive ((T:Nat):Int).toNat >>= _) _ _ _;refine qbA (wp_alive ?_);rw [Int.toNat_natCast,gT];rw [if_neg (by simp)];refine qbA (wpAny_field gz rfl (x:=f1) rfl ?_);dsimp only;refine wpAny_ite_split (fun _=>?_) fun _=>?_
 ·exact qbA (wpAny_setField_rec gz (by simp) fun h₁ z₁ s₁=>qcA (h _ h₁ z₁ s₁))
 ·have e:s = { s with heap:=s.heap }:=by cases s;rfl
  have q:=h f1 s.heap gz (Heap.SameBut.refl z s.heap);rw [<- e] at q;exact qcA q
end
section
variable {prog:Program}{w:World}{A:Around}{E:Value->Shared->Prop}{s:Shared}
theorem iter_zip {z TI TO:Addr}{f0 f1:Value}{Q:Value->Shared->Prop}(hz:s.heap.get? z=some (HL f0 f1 TI TO))(h:Q (.ref z) s):wpAny (model prog w) A (pyIter (.ref z)) Q E s:=by
 have hT:s.TypeIs (.ref z) "zip" := ⟨_,hz,rfl⟩;refine wpAny_pyIter_slot hT F.slot_zip_iter (wpAny_call_entry F.slot_zip_iter hT F.entry_zip_iter ?_ (F.args_zip_iter_1 _));exact qcA ⟨_,rfl,"zip",_,hT,F.slot_zip_next.lookup,h⟩
end
theorem zap_new {n l t:Nat}(h1:l<n)(h2:t<n):ZAp (n+4) (n+2) (n+3) n (n+1) l t:=by
 refine ⟨⟨?_,?_,?_,?_⟩,⟨?_,?_,?_,?_,?_,?_⟩,⟨?_,?_,?_,?_⟩,⟨?_,?_,?_,?_⟩⟩<;>(intro e;replace e:@Eq Nat _ _:=e;omega)
end L2
namespace HT
open PySem PySem.Spec PyProof.Rows
end HT
namespace L2
open PySem PySem.Spec PyProof.Rows
section
variable {prog:Program}{w:World}{A:Around}{E:Value->Shared->Prop}{s:Shared}
structure ZL (h:Heap)(z TI TO i1 i2 l t:Addr)(xs ys:Array Value)(k:Nat):Prop where
 z:∃ f0 f1,h.get? z=some (HL f0 f1 TI TO)/\(f0 = .none\/∃ (T:Addr) (o:Obj),f0=rawInt T/\h.get? T=some o)
 ti:IsPair h TI (.ref i1) (.ref i2)
 to:∃ a b,IsPair h TO a b
 i1:h.IsListIter i1 l k
 i2:h.IsListIter i2 t k
 l:h.IsList l xs
 t:h.IsList t ys
theorem Ld {z TI TO i1 i2 l t:Addr}{xs ys:Array Value}{k:Nat}{x y:Value}{Q:Option Value->Shared->Prop}(D:ZAp z TI TO i1 i2 l t)(Z:ZL s.heap z TI TO i1 i2 l t xs ys k)(hx:xs[k]? = some x)(hy:ys[k]? = some y)
  (hQ:∀ h',ZL h' z TI TO i1 i2 l t xs ys (k+1)->IsPair h' s.heap.objs.size x y->(∀ c o,c ∉ [z,TO,i1,i2]->s.heap.get? c=some o->h'.get? c=some o)->Q (some (.ref s.heap.objs.size)) { s with heap:=h' }) :
  wpAny (model prog w) A (pyNext (.ref z)) Q E s:=by
 obtain ⟨⟨f0,f1,gz,hf⟩,ti,⟨a,b,to⟩,j1,j2,hl,ht⟩:=Z;obtain ⟨⟨d1,d2,d3,d4⟩,⟨d5,d6,d7,d8,d9,d10⟩,⟨d11,d12,d13,d14⟩,⟨d15,d16,d17,d18⟩⟩:=D;have hT:s.TypeIs (.ref z) "zip" := ⟨_,gz,rfl⟩;have tk:∀ {h h':Heap}{c:Addr}{j:Nat},h.IsListIter i2 t j->Heap.SameBut c h h'->i2≠c->h'.IsListIter i2 t j:=fun ⟨o,g,r⟩ e n=>⟨o,(e.2 _ n).trans g,r⟩;have tt:∀ {h h':Heap}{c:Addr},h.IsList t ys->Heap.SameBut c h h'->t≠c->h'.IsList t ys:=fun ⟨o,g,r⟩ e n=>⟨o,(e.2 _ n).trans g,r⟩;unfold pyNext;refine qbA (wpAny_attempt (wpAny_callSpecial?_slot (name:=Str.ofString "__next__") hT F.slot_zip_next (wpAny_call_entry F.slot_zip_next hT F.entry_zip_next ?_ (F.args_zip_next_1 _))));show wpAny _ _ (field (.ref z) 2 >>= _) _ _ _;refine qbA (wpAny_field gz rfl (x:=.bool false) rfl ?_);show wpAny _ _ (field (.ref z) 3 >>= _) _ _ _;refine qbA (wpAny_field gz rfl (x:=.ref TI) rfl ?_);refine qbA (wpAny_seqItems ti rfl ?_);show wpAny _ _ (Builtin.SmallTypes.ownedTupleIsFree (.ref z) >>= _) _ _ _;rcases hf with rfl | ⟨T,oT,rfl,gT⟩
 ·refine qbA ?_;unfold Builtin.SmallTypes.ownedTupleIsFree;refine qbA (wpAny_field gz rfl (x:=.none) rfl (qcA ?_));simp only [if_true];refine qbA (wpAny_rule (qbA (wpAny_field gz rfl (x:=.ref TO) rfl ?_)));refine qbA (wpAny_setField_rec gz (by simp) fun h₁ z₁ s₁=>?_);replace z₁:h₁.get? z=some (HL .ellipsis f1 TI TO):=z₁;refine qbA ?_;simp only [List.zipIdx_cons,List.zipIdx_nil,List.forIn_cons,List.forIn_nil];refine qbA (qbA (wpAny_onRaise ?_));show wpAny _ _ (Builtin.SmallTypes.nextOf (.ref i1) >>= _) _ _ _;refine qbA (wpAny_nextOf_list_item (s:={ s with heap:=h₁ }) (j1.extBut s₁.extBut d3) (hl.extBut s₁.extBut d11) hx fun h₂ j₂ s₂=>qcA ?_);replace s₂:Heap.SameBut i1 h₁ h₂:=s₂;have to₂:IsPair h₂ TO a b:=s₂.extBut _ _ d8 (s₁.extBut _ _ d2 to);refine qbA (wpAny_seqItems (s:={ s with heap:=h₂ }) to₂ rfl (qbA (wpAny_updateSeq_pair (s:={ s with heap:=h₂ }) to₂ fun h₃ to₃ s₃=>?_)));replace to₃:IsPair h₃ TO x b:=to₃;replace s₃:Heap.SameBut TO h₂ h₃:=s₃;refine qbA (wpAny_letGo (qcA ?_));refine qbA (qbA (wpAny_onRaise ?_));show wpAny _ _ (Builtin.SmallTypes.nextOf (.ref i2) >>= _) _ _ _;refine qbA (wpAny_nextOf_list_item (s:={ s with heap:=h₃ }) (tk (tk (tk j2 s₁ d4) s₂ (Ne.symm d10)) s₃ (Ne.symm d9)) (tt (tt (tt ht s₁ d15) s₂ d17) s₃ d16) hy fun h₄ j₄ s₄=>qcA ?_);replace s₄:Heap.SameBut i2 h₃ h₄:=s₄;have to₄:IsPair h₄ TO x b:=s₄.extBut _ _ d9 to₃;refine qbA (wpAny_seqItems (s:={ s with heap:=h₄ }) to₄ rfl (qbA (wpAny_updateSeq_pair (s:={ s with heap:=h₄ }) to₄ fun h₅ to₅ s₅=>?_)));replace to₅:IsPair h₅ TO x y:=to₅;replace s₅:Heap.SameBut TO h₄ h₅:=s₅;refine qbA (wpAny_letGo (qcA (qcA ?_)));refine qbA (wpAny_seqItems (s:={ s with heap:=h₅ }) to₅ rfl (qbA (wpAny_newTuple ?_)));have hsz:h₅.objs.size=s.heap.objs.size:=by rw [s₅.1,s₄.1,s₃.1,s₂.1,s₁.1]
  have z₅:h₅.get? z=some (HL .ellipsis f1 TI TO):=s₅.extBut _ _ (Ne.symm d2) (s₄.extBut _ _ (Ne.symm d4) (s₃.extBut _ _ (Ne.symm d2) (s₂.extBut _ _ (Ne.symm d3) z₁)));have zl:z<h₅.objs.size:=qbB z₅;show wpAny _ _ (Builtin.SmallTypes.ownedTupleHandOut (.ref z) (.ref h₅.objs.size) >>= _) _ _ _;refine qbA ?_;unfold Builtin.SmallTypes.ownedTupleHandOut;have z₆:(h₅.push { cls:=.type "tuple",data:=.seq #[x,y] }).get? z=some (HL .ellipsis f1 TI TO):=qcB _ z₅;refine qbA (wpAny_setField_rec (s:={ s with heap:=h₅.push { cls:=.type "tuple",data:=.seq #[x,y] } }) z₆ (by simp) fun h₇ z₇ s₇=>?_);replace s₇:Heap.SameBut z (h₅.push { cls:=.type "tuple",data:=.seq #[x,y] }) h₇:=s₇;refine wpAny_setField_rec (s:={ s with heap:=h₇ }) z₇ (by simp) fun h₈ z₈ s₈=>?_;replace z₈:h₈.get? z=some (HL (rawInt h₅.objs.size) (.bool false) TI TO):=z₈;replace s₈:Heap.SameBut z h₇ h₈:=s₈;have up:∀ c o,c≠z->h₅.get? c=some o->h₈.get? c=some o:=fun c o c1 e=>s₈.extBut _ _ c1 (s₇.extBut _ _ c1 (qcB _ e));have T₈:IsPair h₈ h₅.objs.size x y:=s₈.extBut _ _ (Nat.ne_of_gt zl) (s₇.extBut _ _ (Nat.ne_of_gt zl) (qdB _ rfl));refine qcA ⟨_,rfl,qcA ?_⟩;show Q (some (.ref h₅.objs.size)) _;rw [hsz] at z₈ T₈ ⊢
  have kp:∀ c o,c ∉ [z,TO,i1,i2]->s.heap.get? c=some o->h₈.get? c=some o:=fun c o hc e=>by
   simp only [qmA,qpB,or_false,not_or] at hc;exact up c o hc.1 (s₅.extBut _ _ hc.2.1 (s₄.extBut _ _ hc.2.2.2 (s₃.extBut _ _ hc.2.1 (s₂.extBut _ _ hc.2.2.1 (s₁.extBut _ _ hc.1 e)))))
  refine hQ h₈ ⟨⟨_,_,z₈,.inr ⟨_,_,rfl,T₈⟩⟩,kp _ _ (by simp [d1,d5,d6,d7]) ti,⟨x,y,up _ _ d2 to₅⟩,?_,?_,?_,?_⟩ T₈ kp
  ·exact (((j₂.extBut s₃.extBut (Ne.symm d8)).extBut s₄.extBut d10).extBut s₅.extBut (Ne.symm d8)).at fun o e=>up _ o d3 e
  ·obtain ⟨o,g,r⟩:=tk j₄ s₅ (Ne.symm d9);exact ⟨o,up _ _ d4 g,r⟩
  ·exact hl.at fun o e=>kp _ _ (by simp [d11,d12,d13,d14]) e
  ·obtain ⟨o,g,r⟩:=ht;exact ⟨o,kp _ _ (by simp [d15,d16,d17,d18]) g,r⟩
 ·refine qbA (Go gz gT fun f1' h₁ z₁ s₁=>?_);simp only [Bool.false_eq_true,if_false];rw [<- Array.forIn_toList];simp only [List.forIn_cons,List.forIn_nil];refine qbA (qbA (qbA (qdA ?_)));show wpAny _ _ (Builtin.SmallTypes.nextOf (.ref i1) >>= _) _ _ _;refine qbA (wpAny_nextOf_list_item (s:={ s with heap:=h₁ }) (j1.extBut s₁.extBut d3) (hl.extBut s₁.extBut d11) hx fun h₂ j₂ s₂=>qcA (qcA ?_));replace s₂:Heap.SameBut i1 h₁ h₂:=s₂;dsimp only;refine qbA (qbA (qdA ?_));show wpAny _ _ (Builtin.SmallTypes.nextOf (.ref i2) >>= _) _ _ _;refine qbA (wpAny_nextOf_list_item (s:={ s with heap:=h₂ }) (tk (tk j2 s₁ d4) s₂ (Ne.symm d10)) (tt (tt ht s₁ d15) s₂ d17) hy fun h₃ j₃ s₃=>qcA (qcA ?_));replace s₃:Heap.SameBut i2 h₂ h₃:=s₃;dsimp only;refine qcA (qbA (wpAny_newTuple ?_ (by show 2<=sizeLine;rw [qeB];omega)));have hsz:h₃.objs.size=s.heap.objs.size:=by rw [s₃.1,s₂.1,s₁.1]
  refine qcA ⟨_,rfl,qcA ?_⟩;show Q (some (.ref h₃.objs.size)) _;have T₄:IsPair (h₃.push { cls:=.type "tuple",data:=.seq #[x,y] }) h₃.objs.size x y:=qdB _ rfl;have up:∀ c o,h₃.get? c=some o->(h₃.push { cls:=.type "tuple",data:=.seq #[x,y] }).get? c=some o:=fun c o e=>qcB _ e;have z₃:h₃.get? z=some (HL (rawInt T) f1' TI TO):=s₃.extBut _ _ (Ne.symm d4) (s₂.extBut _ _ (Ne.symm d3) z₁)
  have kp:∀ c o,c ∉ [z,TO,i1,i2]->s.heap.get? c=some o->(h₃.push { cls:=.type "tuple",data:=.seq #[x,y] }).get? c=some o:=fun c o hc e=>by
   simp only [qmA,qpB,or_false,not_or] at hc;exact up c o (s₃.extBut _ _ hc.2.2.2 (s₂.extBut _ _ hc.2.2.1 (s₁.extBut _ _ hc.1 e)))
  have any:∀ c o,s.heap.get? c=some o->∃ o',h₃.get? c=some o':=fun c o e=>by
   have e1:∃ o',h₁.get? c=some o':=by
    by_cases q:c=z
    ·rw [q];exact ⟨_,z₁⟩
    ·exact ⟨o,s₁.extBut _ _ q e⟩
   obtain ⟨o1,e1⟩:=e1
   have e2:∃ o',h₂.get? c=some o':=by
    by_cases q:c=i1
    ·rw [q];obtain ⟨o',g,_⟩:=j₂;exact ⟨o',g⟩
    ·exact ⟨o1,s₂.extBut _ _ q e1⟩
   obtain ⟨o2,e2⟩:=e2;by_cases q:c=i2
   ·rw [q];obtain ⟨o',g,_⟩:=j₃;exact ⟨o',g⟩
   ·exact ⟨o2,s₃.extBut _ _ q e2⟩
  obtain ⟨oT',gT'⟩:=any T _ gT;rw [hsz] at T₄ ⊢;refine hQ _ ⟨⟨_,_,up _ _ z₃,.inr ⟨T,oT',rfl,up _ _ gT'⟩⟩,kp _ _ (by simp [d1,d5,d6,d7]) ti,⟨a,b,?_⟩,?_,?_,?_,?_⟩ T₄ kp
  ·exact up _ _ (s₃.extBut _ _ d9 (s₂.extBut _ _ d8 (s₁.extBut _ _ d2 to)))
  ·exact (j₂.extBut s₃.extBut d10).at fun o e=>up _ o e
  ·obtain ⟨o,g,r⟩:=j₃;exact ⟨o,up _ _ g,r⟩
  ·exact hl.at fun o e=>kp _ _ (by simp [d11,d12,d13,d14]) e
  ·obtain ⟨o,g,r⟩:=ht;exact ⟨o,kp _ _ (by simp [d15,d16,d17,d18]) g,r⟩
theorem zip_endL {z TI TO i1 i2 l t:Addr}{xs ys:Array Value}{k:Nat}{Q:Option Value->Shared->Prop}(hh:A.handled=none)(D:ZAp z TI TO i1 i2 l t)(Z:ZL s.heap z TI TO i1 i2 l t xs ys k)(hx:xs[k]? = none)
  (hQ:∀ h',(∀ c o,c ∉ [z,TO,i1,i2]->s.heap.get? c=some o->h'.get? c=some o)->Q none { s with heap:=h' }):wpAny (model prog w) A (pyNext (.ref z)) Q E s:=by
 obtain ⟨⟨f0,f1,gz,hf⟩,ti,⟨a,b,to⟩,j1,j2,hl,ht⟩:=Z;obtain ⟨⟨d1,d2,d3,d4⟩,⟨d5,d6,d7,d8,d9,d10⟩,⟨d11,d12,d13,d14⟩,⟨d15,d16,d17,d18⟩⟩:=D;have hT:s.TypeIs (.ref z) "zip" := ⟨_,gz,rfl⟩;unfold pyNext;refine qbA (wpAny_attempt (wpAny_callSpecial?_slot (name:=Str.ofString "__next__") hT F.slot_zip_next (wpAny_call_entry F.slot_zip_next hT F.entry_zip_next ?_ (F.args_zip_next_1 _))));show wpAny _ _ (field (.ref z) 2 >>= _) _ _ _;refine qbA (wpAny_field gz rfl (x:=.bool false) rfl ?_);show wpAny _ _ (field (.ref z) 3 >>= _) _ _ _;refine qbA (wpAny_field gz rfl (x:=.ref TI) rfl ?_);refine qbA (wpAny_seqItems ti rfl ?_);show wpAny _ _ (Builtin.SmallTypes.ownedTupleIsFree (.ref z) >>= _) _ _ _;rcases hf with rfl | ⟨T,oT,rfl,gT⟩
 ·refine qbA ?_;unfold Builtin.SmallTypes.ownedTupleIsFree;refine qbA (wpAny_field gz rfl (x:=.none) rfl (qcA ?_));simp only [if_true];refine qbA (wpAny_rule (qbA (wpAny_field gz rfl (x:=.ref TO) rfl ?_)));refine qbA (wpAny_setField_rec gz (by simp) fun h₁ z₁ s₁=>?_);replace z₁:h₁.get? z=some (HL .ellipsis f1 TI TO):=z₁;refine qbA ?_;simp only [List.zipIdx_cons,List.zipIdx_nil,List.forIn_cons,List.forIn_nil];refine qbA (qbA (wpAny_onRaise ?_));show wpAny _ _ (Builtin.SmallTypes.nextOf (.ref i1) >>= _) _ _ _;refine qbA (wpAny_nextOf_list_end (s:={ s with heap:=h₁ }) hh (j1.extBut s₁.extBut d3) (hl.extBut s₁.extBut d11) hx fun h₂ e s₂ he=>?_);replace s₂:Heap.ExtBut i1 h₁ h₂:=s₂;obtain ⟨oe,ge,ce⟩:=he;have z₂:h₂.get? z=some (HL .ellipsis f1 TI TO):=s₂ _ _ (Ne.symm d3) z₁;have ez:e≠z:=fun q=>by subst q;rw [z₂] at ge;cases ge;have ce:Value.type "zip" = Value.type "StopIteration" := ce;simp at ce
  refine wpAny_setField_rec (s:={ s with heap:=h₂ }) z₂ (by simp) fun h₃ _ s₃=>?_;replace s₃:Heap.SameBut z h₂ h₃:=s₃;refine qbA (wpAny_isInstance (T := "StopIteration") (b:=true) ⟨oe,s₃.extBut _ _ ez ge,ce⟩ isSubtype_stop (qcA (hQ h₃ fun c o hc q=>?_)));simp only [qmA,qpB,or_false,not_or] at hc;exact s₃.extBut _ _ hc.1 (s₂ _ _ hc.2.2.1 (s₁.extBut _ _ hc.1 q))
 ·refine qbA (Go gz gT fun f1' h₁ z₁ s₁=>?_);simp only [Bool.false_eq_true,if_false];rw [<- Array.forIn_toList];simp only [List.forIn_cons,List.forIn_nil];refine qbA (qbA (qbA (qdA ?_)));show wpAny _ _ (Builtin.SmallTypes.nextOf (.ref i1) >>= _) _ _ _;refine qbA (wpAny_nextOf_list_end (s:={ s with heap:=h₁ }) hh (j1.extBut s₁.extBut d3) (hl.extBut s₁.extBut d11) hx fun h₂ e s₂ he=>?_);replace s₂:Heap.ExtBut i1 h₁ h₂:=s₂;obtain ⟨oe,ge,ce⟩:=he;refine qbA (wpAny_isInstance (s:={ s with heap:=h₂ }) (T := "StopIteration") (b:=true) ⟨oe,ge,ce⟩ isSubtype_stop (qcA (hQ h₂ fun c o hc q=>?_)));simp only [qmA,qpB,or_false,not_or] at hc;exact s₂ _ _ hc.2.2.1 (s₁.extBut _ _ hc.1 q)
end
inductive PairsAt (h:Heap):List Addr->List Value->List Value->Prop where
 | nil:PairsAt h [] [] []
 | cons {T:Addr}{x y:Value}{Ts:List Addr}{xs ys:List Value}:IsPair h T x y->PairsAt h Ts xs ys->PairsAt h (T::Ts) (x::xs) (y::ys)
def LObj (acc:Array Value)(c:Nat):Obj:={ cls:=.type "list",dict:=none,data:=.seq acc c,slots:=#[] }
section
variable {prog:Program}{w:World}{A:Around}{E:Value->Shared->Prop}{s:Shared}
theorem ZL.size {h:Heap}{z TI TO i1 i2 l t:Addr}{xs ys:Array Value}{k:Nat}(Z:ZL h z TI TO i1 i2 l t xs ys k):∀ c∈[z,TI,TO,i1,i2,l,t],c<h.objs.size:=by
 intro c hc;have a1:z<h.objs.size:=by obtain ⟨_,_,g,_⟩:=Z.z;exact qbB g
 have a2:TI<h.objs.size:=qbB Z.ti;have a3:TO<h.objs.size:=by obtain ⟨_,_,g⟩:=Z.to;exact qbB g
 have a4:i1<h.objs.size:=by obtain ⟨_,g,_⟩:=Z.i1;exact qbB g
 have a5:i2<h.objs.size:=by obtain ⟨_,g,_⟩:=Z.i2;exact qbB g
 have a6:l<h.objs.size:=by obtain ⟨_,g,_⟩:=Z.l;exact qbB g
 have a7:t<h.objs.size:=by obtain ⟨_,g,_⟩:=Z.t;exact qbB g
 simp only [qmA,qpB,or_false] at hc;rcases hc with q|q|q|q|q|q|q<;>(rw [q];assumption)
theorem ZL.but {h h':Heap}{z TI TO i1 i2 l t S:Addr}{xs ys:Array Value}{k:Nat}(Z:ZL h z TI TO i1 i2 l t xs ys k)(hS:S ∉ [z,TI,TO,i1,i2,l,t])(e:∀ c o,c≠S->h.get? c=some o->h'.get? c=some o)(eS:∃ o,h'.get? S=some o):ZL h' z TI TO i1 i2 l t xs ys k:=by
 obtain ⟨⟨f0,f1,gz,hf⟩,ti,⟨a,b,to⟩,j1,j2,hl',ht'⟩:=Z;have kk:∀ c,c∈[z,TI,TO,i1,i2,l,t]->∀ o,h.get? c=some o->h'.get? c=some o:=fun c hc o q=>e c o (fun z=>hS (z ▸ hc)) q
 have hf':f0 = .none\/∃ (T:Addr) (o:Obj),f0=rawInt T/\h'.get? T=some o:=by
  rcases hf with q | ⟨T,o,q1,q2⟩
  ·exact .inl q
  ·by_cases q:T=S
   ·obtain ⟨o',g'⟩:=eS;exact .inr ⟨T,o',q1,by rw [q];exact g'⟩
   ·exact .inr ⟨T,o,q1,e T o q q2⟩
 exact ⟨⟨f0,f1,kk _ (by simp) _ gz,hf'⟩,kk _ (by simp) _ ti,⟨a,b,kk _ (by simp) _ to⟩,j1.at fun o q=>kk _ (by simp) _ q,j2.at fun o q=>kk _ (by simp) _ q,hl'.at fun o q=>kk _ (by simp) _ q,ht'.at fun o q=>kk _ (by simp) _ q⟩
theorem el_loop {R:Result->Shared->Prop}{z TI TO i1 i2 l t S:Addr}{xs ys:Array Value}{res:Value}(hh:A.handled=none)(D:ZAp z TI TO i1 i2 l t)(hS:S ∉ [z,TI,TO,i1,i2,l,t])(hxy:xs.size=ys.size)(hb:xs.size<=4000) :
  ∀ (n i:Nat) (s:Shared) (acc:Array Value) (c:Nat),xs.size - i=n->i<=xs.size->ZL s.heap z TI TO i1 i2 l t xs ys i->s.heap.get? S=some (LObj acc c)->acc.size=i ->
   (∀ h' tk acc' c' (Ts:List Addr),(∀ c o,c ∉ [z,TO,i1,i2,S]->s.heap.get? c=some o->h'.get? c=some o)->h'.get? S=some (LObj acc' c')->acc'.toList=acc.toList++Ts.map Value.ref->Ts.Pairwise (· < ·)->(∀ T∈Ts,s.heap.objs.size<=T) ->
    PairsAt h' Ts (xs.toList.drop i) (ys.toList.drop i)->R (.ok (.ret res)) { s with heap:=h',toks:=tk }) ->
   codeAny (model prog w) A (.builtin "list.extend.loop" ⟨[.ref S,.ref z,res],[]⟩) R s:=by
 have hs:sizeLine=16777216:=qeB;intro n
 induction n with
 | zero =>
  intro i s acc c e1 e2 Z gS e3 hR;have ei:i=xs.size:=by omega
  subst ei;refine codeAny_builtin PySem.F.entry_extend_loop ?_;rw [Around.under_plainId PySem.F.plain_extend_loop _];show wpAny _ A.in1 (pyNext (.ref z) >>= _) _ _ s;refine qbA (zip_endL (by simpa using hh) D Z (Array.getElem?_eq_none (qxA _)) fun h' kp=>?_)
  have kp':∀ c o,c ∉ [z,TO,i1,i2,S]->s.heap.get? c=some o->h'.get? c=some o:=fun c o hc e=>kp c o (fun q=>hc (by
   simp only [qmA,qpB,or_false] at q ⊢
   rcases q with q|q|q|q<;>simp [q])) e
  refine qcA (hR h' s.toks acc c [] kp' (kp S _ (fun q=>hS (by
   simp only [qmA,qpB,or_false] at q ⊢
   rcases q with q|q|q|q<;>simp [q])) gS) (by simp) .nil (fun T hT=>by cases hT) ?_)
  have q1:xs.toList.drop xs.size=[]:=List.drop_of_length_le (Nat.le_of_eq rfl);have q2:ys.toList.drop xs.size=[]:=List.drop_of_length_le (Nat.le_of_eq hxy.symm);rw [q1,q2];exact .nil
 | succ n ih =>
  intro i s acc c e1 e2 Z gS e3 hR;have hi:i<xs.size:=by omega
  have hx:xs[i]? = some xs[i]:=Array.getElem?_eq_getElem (by omega);have hy:ys[i]? = some ys[i]:=Array.getElem?_eq_getElem (by omega);have szs:=Z.size;have lS:S<s.heap.objs.size:=qbB gS;refine codeAny_builtin PySem.F.entry_extend_loop ?_;rw [Around.under_plainId PySem.F.plain_extend_loop _];show wpAny _ A.in1 (pyNext (.ref z) >>= _) _ _ s;refine qbA (Ld D Z hx hy fun h₁ Z₁ P₁ kp=>?_)
  have gS₁:h₁.get? S=some (LObj acc c):=kp S _ (fun q=>hS (by
   simp only [qmA,qpB,or_false] at q ⊢
   rcases q with q|q|q|q<;>simp [q])) gS
  have l₁:s.heap.objs.size<h₁.objs.size:=qbB P₁;show wpAny _ A.in1 (updateSeq S (·.push (Value.ref s.heap.objs.size)) >>= _) _ _ _;refine qbA ?_;have oth:∀ c o,c≠S->h₁.get? c=some o->(h₁.update S (Obj.mapSeq (·.push (Value.ref s.heap.objs.size)))).get? c=some o:=fun c o hc e=>(Heap.get?_update_other _ _ (Ne.symm hc)).trans e;have gS₂:=Heap.get?_update_self (Obj.mapSeq (·.push (Value.ref s.heap.objs.size))) gS₁ rfl;refine wpAny_updateSeq (s:={ s with heap:=h₁ }) gS₁ rfl (qcA ⟨plainId_quiet PySem.F.plain_extend_loop _,ih (i+1) _ (acc.push (Value.ref s.heap.objs.size)) _ (by omega) hi (Z₁.but hS oth ⟨_,gS₂⟩) gS₂ (by rw [Array.size_push,e3]) fun h' tk acc' c' Ts k1 k2 k3 k4 k5 k6=>?_⟩) (by omega) (by show (acc.push _).size<=sizeLine+1;rw [Array.size_push];omega)
  replace k5:∀ T∈Ts,h₁.objs.size<=T:=fun T hT=>by
   have:=k5 T hT
   rwa [Heap.size_update] at this
  have fresh:s.heap.objs.size ∉ [z,TO,i1,i2,S]:=fun q=>by
   simp only [qmA,qpB,or_false] at q;rcases q with q|q|q|q|q
   ·exact absurd (szs z (by simp)) (by rw [q];exact qzA _)
   ·exact absurd (szs TO (by simp)) (by rw [q];exact qzA _)
   ·exact absurd (szs i1 (by simp)) (by rw [q];exact qzA _)
   ·exact absurd (szs i2 (by simp)) (by rw [q];exact qzA _)
   ·exact absurd lS (by rw [q];exact qzA _)
  have nS:s.heap.objs.size≠S:=fun q=>fresh (by simp [q])
  refine hR h' tk acc' c' (s.heap.objs.size::Ts) (fun c o hc e=>k1 c o hc (oth c o (fun q=>hc (by simp [q])) (kp c o (fun q=>hc (by
   simp only [qmA,qpB,or_false] at q ⊢
   rcases q with q|q|q|q<;>simp [q])) e))) k2 (by rw [k3];simp) (.cons (fun T hT=>qqB l₁ (k5 T hT)) k4) (fun T hT=>?_) ?_
  ·rcases qmA.mp hT with q|q
   ·rw [q];exact qxA _
   ·exact qyA (Nat.le_of_lt l₁) (k5 T q)
  ·have q1:xs.toList.drop i=xs[i]::xs.toList.drop (i+1):=by
    rw [List.drop_eq_getElem_cons (by simpa using hi)];simp
   have q2:ys.toList.drop i=ys[i]::ys.toList.drop (i+1):=by
    rw [List.drop_eq_getElem_cons (by simpa using (by omega:i<ys.size))];simp
   rw [q1,q2];exact .cons (k1 _ _ fresh (oth _ _ nS P₁)) k6
end
theorem KH:typeLookup (.type "zip") "__len__" = pure none:=by rw [typeLookup_type,builtinLookup_eq_fast];kernel_rfl
theorem K1:typeLookup (.type "zip") "__length_hint__" = pure none:=by rw [typeLookup_type,builtinLookup_eq_fast];kernel_rfl
section
variable {prog:Program}{w:World}{A:Around}{E:Value->Shared->Prop}{s:Shared}
theorem MF {l t:Addr}{xs ys:Array Value}{Q:Value->Shared->Prop}(hl:s.heap.IsList l xs)(ht:s.heap.IsList t ys)
  (h:∀ h',ZL h' (s.heap.objs.size+4) (s.heap.objs.size+2) (s.heap.objs.size+3) s.heap.objs.size (s.heap.objs.size+1) l t xs ys 0->h'.objs.size=s.heap.objs.size+5->(∀ c o,s.heap.get? c=some o->h'.get? c=some o)->Q (.ref (s.heap.objs.size+4)) { s with heap:=h' }) :
  wpAny (model prog w) A (call (.type "zip") [.ref l,.ref t]) Q E s :=
 call_zip_2 hl ht fun h' z ti to i1 i2 sz kp=>h h' ⟨⟨.none,.bool false,z,.inl rfl⟩,ti,⟨_,_,to⟩,i1,i2,hl.at fun o q=>kp _ _ q,ht.at fun o q=>kp _ _ q⟩ sz kp
theorem JH {Q:Value->Shared->Prop}{z TI TO i1 i2 l t:Addr}{xs ys:Array Value}(hh:A.handled=none)(D:ZAp z TI TO i1 i2 l t)(Z:ZL s.heap z TI TO i1 i2 l t xs ys 0)(hxy:xs.size=ys.size)(hb:xs.size<=4000)
  (h:∀ h' tk acc' c' (Ts:List Addr),(∀ c o,c ∉ [z,TO,i1,i2]->s.heap.get? c=some o->h'.get? c=some o)->h'.get? s.heap.objs.size=some (LObj acc' c')->acc'.toList=Ts.map Value.ref->Ts.Pairwise (· < ·)->(∀ T∈Ts,s.heap.objs.size<T) ->
   PairsAt h' Ts xs.toList ys.toList->Q (.ref s.heap.objs.size) { s with heap:=h',toks:=tk }) :
  wpAny (model prog w) A (call (.type "list") [.ref z]) Q E s:=by
 refine callType_codes (Q₁:=fun obj s₁=>obj = .ref s.heap.objs.size/\s₁ = { s with heap:=s.heap.push { cls:=.type "list",data:=.seq #[] } }) PySem.F.called_list (PySem.F.typeCall_list_1 _) PySem.F.entry_list_init (code_list_new _ ⟨rfl,rfl⟩) fun obj s₁ h₁=>?_;obtain ⟨rfl,rfl⟩:=h₁;have hS:(s.heap.push { cls:=.type "list",data:=.seq #[] }).get? s.heap.objs.size=some (LObj #[] 0):=qdB _ rfl;have Z1:=Z.size;have nS:s.heap.objs.size ∉ [z,TI,TO,i1,i2,l,t]:=fun q=>absurd (Z1 _ q) (qzA _);have up:∀ c o,s.heap.get? c=some o->(s.heap.push { cls:=.type "list",data:=.seq #[] }).get? c=some o:=fun c o q=>qcB _ q;have Zp:ZL (s.heap.push { cls:=.type "list",data:=.seq #[] }) z TI TO i1 i2 l t xs ys 0:=Z.but nS (fun c o _ q=>up c o q) ⟨_,hS⟩;have ne:s.heap.objs.size≠z:=fun q=>nS (by simp [q]);refine ⟨⟨_,hS,rfl⟩,PySem.F.args_list_init_2 _ _,?_⟩;show wpAny _ _ (do let old <- Builtin.List.listItems (.ref s.heap.objs.size);Builtin.List.listUpdate (.ref s.heap.objs.size) (fun _=>#[]);letGo old.toList.reverse;Builtin.List.listExtendWith (.ref s.heap.objs.size) (.ref z) .none) _ _ _;refine qbA ?_;unfold Builtin.List.listItems;refine qbA (wpAny_seqItems hS rfl (qcA ?_));show wpAny _ _ (updateSeq s.heap.objs.size (fun _=>#[]) >>= fun _=>letGo (#[]:Array Value).toList.reverse >>= fun _=>Builtin.List.listExtendWith (.ref s.heap.objs.size) (.ref z) .none) _ _ _;refine qbA (wpAny_updateSeq (s:={ s with heap:=s.heap.push { cls:=.type "list",data:=.seq #[] } }) hS rfl ?_);have hS₂:=Heap.get?_update_self (Obj.mapSeq (fun _=>(#[]:Array Value))) hS rfl;have oth₂:∀ b o,b≠s.heap.objs.size->(s.heap.push { cls:=.type "list",data:=.seq #[] }).get? b=some o->((s.heap.push { cls:=.type "list",data:=.seq #[] }).update s.heap.objs.size (Obj.mapSeq (fun _=>(#[]:Array Value)))).get? b=some o:=fun b o hb e=>(Heap.get?_update_other _ _ (Ne.symm hb)).trans e;have Z₂:=Zp.but nS oth₂ ⟨_,hS₂⟩;refine qbA (wpAny_letGo ?_);obtain ⟨f0,f1,gz,_⟩:=Z₂.z;unfold Builtin.List.listExtendWith;refine qbA (wpAny_typeOf (T := "zip") ⟨_,gz,rfl⟩ ?_);have h1:Builtin.List.listSameRef (.ref s.heap.objs.size) (.ref z)=false:=by simp [Builtin.List.listSameRef,ne]
 have h2:(Value.type "zip" == Value.type "list")=false:=by decide
 have h3:(Value.type "zip" == Value.type "tuple")=false:=by decide
 simp only [h1,h2,h3,Bool.or_false,Bool.false_eq_true,if_false];refine qbA (iter_zip (s:=_) gz ?_);refine qbA (qdA ?_);unfold Builtin.List.listLengthHint;refine qbA (wpAny_specialOf (T := "zip") ⟨_,gz,rfl⟩ KH ?_);show wpAny _ _ (specialOf (Value.ref z) (Str.ofString "__length_hint__") >>= _) _ _ _;refine qbA (wpAny_specialOf (T := "zip") ⟨_,gz,rfl⟩ K1 ?_);refine qcA ?_;show wpAny _ _ (rule "list.extend.makes-room" >>= fun _=>Builtin.List.listTouch (.ref s.heap.objs.size) >>= fun _=>again (.builtin "list.extend.loop" ⟨[.ref s.heap.objs.size,.ref z,.none],[]⟩)) _ _ _;refine qbA (wpAny_rule ?_);refine qbA ?_;show wpAny _ _ (updateSeq s.heap.objs.size (·.push .none) >>= fun _=>updateSeq s.heap.objs.size (·.pop)) _ _ _;refine qbA (wpAny_updateSeq hS₂ rfl ?_);have hS₃:=Heap.get?_update_self (Obj.mapSeq (·.push Value.none)) hS₂ rfl;refine wpAny_updateSeq (hz:=by seq_fits) hS₃ rfl ?_;have hS₄:=Heap.get?_update_self (Obj.mapSeq (·.pop)) hS₃ rfl
 have oth₄:∀ b o,b≠s.heap.objs.size->((s.heap.push { cls:=.type "list",data:=.seq #[] }).update s.heap.objs.size (Obj.mapSeq (fun _=>(#[]:Array Value)))).get? b=some o->((((s.heap.push { cls:=.type "list",data:=.seq #[] }).update s.heap.objs.size (Obj.mapSeq (fun _=>(#[]:Array Value)))).update s.heap.objs.size (Obj.mapSeq (·.push Value.none))).update s.heap.objs.size (Obj.mapSeq (·.pop))).get? b=some o :=
  fun b o hb e=>(Heap.get?_update_other _ _ (Ne.symm hb)).trans ((Heap.get?_update_other _ _ (Ne.symm hb)).trans e)
 refine qcA ⟨plainId_quiet PySem.F.plain_extend_loop _,el_loop (by simpa using hh) D nS hxy hb _ 0 _ #[] _ rfl (qsB _) (Z₂.but nS oth₄ ⟨_,hS₄⟩) hS₄ rfl fun h' tk acc' c' Ts k1 k2 k3 k4 k5 k6=>?_⟩;refine ⟨rfl,h h' tk acc' c' Ts (fun c o hc e=>k1 c o (fun q=>?_) (oth₄ c o ?_ (oth₂ c o ?_ (up c o e)))) k2 (by simpa using k3) k4 (fun T hT=>?_) (by simpa using k6)⟩
 ·simp only [qmA,qpB,or_false] at q;rcases q with q|q|q|q|q
  ·exact hc (by simp [q])
  ·exact hc (by simp [q])
  ·exact hc (by simp [q])
  ·exact hc (by simp [q])
  ·rw [q] at e;exact absurd (qbB e) (qzA _)
 ·intro q;rw [q] at e;exact absurd (qbB e) (qzA _)
 ·intro q;rw [q] at e;exact absurd (qbB e) (qzA _)
 ·have:=k5 T hT;simp only [Heap.size_update,Heap.size_push] at this;exact this
end
theorem Inv.lays {X:Cx}{pins:List (Addr × Obj)}{σ:List (Option V)}{H H':Hp}{s:Shared}{h':Heap}{t':Nat}(I:Inv X pins σ H s)(k:∀ b u,s.heap.get? b=some u->h'.get? b=some u)(lo:∀ b,b<s.heap.objs.size->H' b=H b)
  (new:∀ b u,s.heap.objs.size<=b->H' b=some u->ObjOk X.prog X.w H' h' b u):Inv X pins σ H' { s with heap:=h',toks:=t' }:=by
 have lt:∀ b u,H b=some u->b<s.heap.objs.size:=fun b u e=>Nat.lt_of_not_le fun z=>by rw [I.hok.fresh z] at e;cases e
 have same:∀ b u,H b=some u->H' b=some u:=fun b u e=>(lo b (lt b u e)).trans e;refine I.un ⟨fun b o q _ _ _=>k b o q,fun b o q _ _ _=>⟨o.slots,k b o q⟩,fun b o q n _=>(lo b (qbB q)).trans n,fun b o q _=>⟨o,k b o q⟩,fun b xs q=>same b _ q,fun b o u q=>same b _ q,fun b ps q=>⟨#[],by rw [same b _ q];simp⟩⟩ fun b u e=>?_;by_cases hb:b<s.heap.objs.size
 ·rw [lo b hb] at e;exact (I.hok b u e).stay (fun c v _ q=>k c v q) (fun c q=>same c _ q) fun c xs q=>same c _ q
 ·exact new b u (Nat.le_of_not_lt hb) e
def upT:Hp->List Addr->List (V × V)->Hp
 | H,t::ts,p::ps=>upT (upd H t (.tup [p.1,p.2])) ts ps
 | H,_,_=>H
theorem Iz:∀ {ts:List Addr}{ps:List (V × V)}{H:Hp}{b:Addr},b ∉ ts->upT H ts ps b=H b
 | [],_,_,_,_=>by cases ‹List (V × V)›<;>rfl
 | t::ts,[],_,_,_=>rfl
 | t::ts,p::ps,H,b,h=>by
  show upT (upd H t _) ts ps b=_;rw [Iz (fun z=>h (qqA _ z)),Ak (fun z:b=t=>h (by rw [z];exact qpA))]
theorem upT_in:∀ {ts:List Addr}{ps:List (V × V)}{H:Hp}{b:Addr}{u:HO},upT H ts ps b=some u->(∃ p,(b,p)∈ts.zip ps/\u = .tup [p.1,p.2])\/H b=some u
 | [],ps,H,b,u,h=>.inr (by rwa [Iz (by simp)] at h)
 | t::ts,[],H,b,u,h=>.inr h
 | t::ts,p::ps,H,b,u,h=>by
  rcases upT_in (ts:=ts) (ps:=ps) (H:=upd H t (.tup [p.1,p.2])) h with ⟨q,hq,e⟩|h
  ·exact .inl ⟨q,qqA _ hq,e⟩
  ·by_cases e:b=t
   ·subst e;rw [AM] at h;cases h;exact .inl ⟨p,qpA,rfl⟩
   ·rw [Ak e] at h;exact .inr h
theorem Ib:∀ {h:Heap}{Ts:List Addr}{xs ys:List Value}{vs ws:List V},PairsAt h Ts xs ys->Vals vs xs->Vals ws ys->∀ b p,(b,p)∈Ts.zip (vs.zip ws)->∃ x y,RelV p.1 x/\RelV p.2 y/\IsPair h b x y
 | _,_,_,_,_,_,.nil,.nil,.nil,b,p,h=>by cases h
 | _,_,_,_,_,_,.cons i r,.cons h1 r1,.cons h2 r2,b,p,h=>by
  rcases qmA.mp h with e|e
  ·cases e;exact ⟨_,_,h1,h2,i⟩
  ·exact Ib r r1 r2 b p e
theorem Hx:∀ {h:Heap}{Ts:List Addr}{xs ys:List Value},PairsAt h Ts xs ys->Ts.length=xs.length
 | _,_,_,_,.nil=>rfl
 | _,_,_,_,.cons _ r=>by rw [qgA,qgA,Hx r]
theorem IB:∀ Ts:List Addr,Vals (Ts.map V.ref) (Ts.map Value.ref)
 | []=>.nil
 | t::ts=>.cons rfl (IB ts)
def tListZ (K:FZ9)(ta:TA):TE:=fun σ H Q=>ta σ H fun us H1=>∃ (a b:Addr) (xs ys:List V),us=[.ref a,.ref b]/\SqL K H1 a xs/\SqL K H1 b ys/\xs.length=ys.length/\xs.length<=4000 /\
 ∀ (ts:List Addr) (l:Addr),ts.Nodup->l ∉ ts->(∀ t∈l::ts,H1 t=none)->ts.length=xs.length->Q (.ref l) (upd (upT H1 ts (xs.zip ys)) l (.lst (ts.map V.ref)))
theorem pe_listZ {X:Cx}{K:FZ9}{a b:Expr}{ta:TA}{p p2 pos pos2:Pos}(hc:X.calm=true)(hK:X.K=K)(hg:Gl X "list")(hm:X.mg "list" = none)(hg2:Gl X "zip")(hm2:X.mg "zip" = none)(ha:PA X [a,b] ta)
  (hs:starEach [a,b] X.env=[(false,eval a X.env),(false,eval b X.env)]:=by rfl) (hs2:starEach [b] X.env=[(false,eval b X.env)]:=by rfl)
  (hs3:starEach [.Call (.Name "zip" p2) [a,b] [] pos2] X.env=[(false,eval (.Call (.Name "zip" p2) [a,b] [] pos2) X.env)]:=by rfl) :
  PE X (.Call (.Name "list" p) [.Call (.Name "zip" p2) [a,b] [] pos2] [] pos) (tListZ K ta):=by
 subst hK;intro pins s σ H R I h;refine Call_ (EZ I hg hm Bw (PyProof.Rows.callWith_type1 ?_ (by rw [hs3];rfl) rfl));rw [hs3];refine Calls.spliced_cons ?_;refine Call_ (EZ I hg2 hm2 boot_zip (PyProof.Rows.callWith_type1 (thn (ha pos2 pins s σ H _ I h) fun us s1 ⟨vs,H1,I1,r1,q1⟩=>?_) (by rw [hs,hs2]) (by rw [hs2];rfl)));obtain ⟨l,t,xs,ys,e,hq1,hq2,hle,hlt,q⟩:=q1;subst e;obtain ⟨u1,u2,rfl,r1,r2⟩:=Jh r1;cases r1;cases r2;obtain ⟨its1,rv1,pl1,_⟩:=I1.list hq1;obtain ⟨its2,rv2,pl2,_⟩:=I1.list hq2;have lt1:l<s1.heap.objs.size:=by obtain ⟨_,e,_⟩:=pl1.isList;exact qbB e
 have lt2:t<s1.heap.objs.size:=by obtain ⟨_,e,_⟩:=pl2.isList;exact qbB e
 refine MF pl1.isList pl2.isList fun h' Z sz kp=>?_;refine Calls.spliced_nil ?_;have e1:its1.length=xs.length:=rv1.length.symm;have e2:its2.length=ys.length:=rv2.length.symm;refine JH (s:={ s1 with heap:=h' }) (I1.ok.hd hc) (zap_new lt1 lt2) Z (by simp only [qkB];omega) (by simp only [qkB];omega) fun h2 tk acc' c' Ts k1 k2 k3 k4 k5 k6=>?_;have g0:s1.heap.objs.size<=h'.objs.size:=by rw [sz];exact Nat.le_add_right _ 5
 have k6':PairsAt h2 Ts its1 its2:=by simpa using k6
 have tl:Ts.length=xs.length:=(Hx k6').trans e1;have hS:h'.objs.size ∉ Ts:=fun z=>absurd (k5 _ z) (qzA _);have nd:Ts.Nodup:=k4.imp fun h=>qoB h
 have fr:∀ T∈h'.objs.size::Ts,s1.heap.objs.size<=T:=fun T hT=>by
  rcases qmA.mp hT with z|z
  ·rw [z];exact g0
  ·exact qyA g0 (Nat.le_of_lt (k5 T z))
 refine ⟨.ref h'.objs.size,_,?_,rfl,q Ts h'.objs.size nd hS (fun T hT=>I1.hok.fresh (fr T hT)) tl⟩;refine I1.lays (t':=tk) (fun b u e=>k1 b u (fun z=>?_) (kp b u e)) (fun b hb=>?_) fun b u hb e=>?_
 ·have lt:=qbB e;simp only [qmA,qpB,or_false] at z;rcases z with z|z|z|z
  ·rw [z] at lt;exact absurd lt (Nat.not_lt.mpr (Nat.le_add_right _ 4))
  ·rw [z] at lt;exact absurd lt (Nat.not_lt.mpr (Nat.le_add_right _ 3))
  ·rw [z] at lt;exact absurd lt (Nat.not_lt.mpr (qxA _))
  ·rw [z] at lt;exact absurd lt (Nat.not_lt.mpr (Nat.le_add_right _ 1))
 ·rw [Ak (fun z=>absurd hb (by rw [z];exact Nat.not_lt.mpr g0)),Iz (fun z=>absurd hb (Nat.not_lt.mpr (fr b (qqA _ z))))]
 ·by_cases z:b=h'.objs.size
  ·subst z;rw [AM] at e;cases e;have hz:(Ts.map V.ref).length<=sizeLine:=by rw [qeA,tl];exact qyA hlt (by decide)
   exact ⟨hz,acc'.toList,c',by rw [k3];exact IB Ts,k2⟩
  ·rw [Ak z] at e;rcases upT_in e with ⟨p,hp,rfl⟩|e
   ·obtain ⟨x,y,rx,ry,ip⟩:=Ib k6' rv1 rv2 b p hp;exact ⟨by show 2<=sizeLine;decide,[x,y],.cons rx (.cons ry .nil),⟨_,ip,rfl,_,rfl⟩⟩
   ·rw [I1.hok.fresh hb] at e;cases e
def zipO {α β:Type}(a:List α)(b:List β):Option (List (α × β)):=if a.length=b.length/\a.length<=4000 then some (a.zip b) else none
section
variable {K:FZ9}{σ:St}{G H:Hp}{α β:Type}[Rp α][Rp β]{ta tb:TE}
theorem JQ:∀ {ts:List Addr}{ps:List (V × V)}{G H:Hp},Same G H->ts.Nodup->(∀ t∈ts,H t=none)->Ext G H (upT G ts ps) (upT H ts ps)
 | [],ps,G,H,s,_,_=>by cases ps<;>exact Ext.refl s
 | t::ts,[],G,H,s,_,_=>Ext.refl s
 | t::ts,p::ps,G,H,s,nd,h=>by
  rw [List.nodup_cons] at nd;refine (Ext.new (o:=.tup [p.1,p.2]) s (h t qpA)).trans (JQ s.both nd.2 fun t' ht=>?_);rw [Ak (fun z:t'=t=>nd.1 (by rw [<- z];exact ht))];exact h t' (qqA _ ht)
theorem LP:∀ {ts:List Addr}{xs ys:List V}{as:List α}{bs:List β}{G:Hp},ts.Nodup->(∀ t∈ts,G t=none)->ts.length=xs.length->Paired (Rp.rel K G) xs as->Paired (Rp.rel K G) ys bs->xs.length=ys.length->Paired (Rp.rel K (upT G ts (xs.zip ys))) (ts.map V.ref) (as.zip bs)
 | [],[],[],_,_,_,_,_,_,.nil,.nil,_=>.nil
 | t::ts,x::xs,y::ys,a::as,b::bs,G,nd,hn,hl,.cons ra pa,.cons rb pb,he=>by
  rw [List.nodup_cons] at nd;have g:G t=none:=hn t qpA;have s1:Same G (upd G t (.tup [x,y])):=Same.new g
  have hn':∀ t'∈ts,upd G t (.tup [x,y]) t'=none:=fun t' ht=>by
   rw [Ak (fun z:t'=t=>nd.1 (by rw [<- z];exact ht))];exact hn t' (qqA _ ht)
  have s2:Same (upd G t (.tup [x,y])) (upT (upd G t (.tup [x,y])) ts (xs.zip ys)):=(JQ (ps:=xs.zip ys) (Same.refl (upd G t (.tup [x,y]))) nd.2 hn').gg;refine .cons ⟨t,x,y,rfl,.inl (.inl (s2 _ _ AM)),Rp.mono (s1.trans s2) ra,Rp.mono (s1.trans s2) rb⟩ ?_;exact LP nd.2 hn' (by simpa using hl) (Paired.imp' (fun _ _ r=>Rp.mono s1 r) pa) (Paired.imp' (fun _ _ r=>Rp.mono s1 r) pb) (by simpa using he)
end
def idxZ (xs:List Int)(y:Int):Option Int:=if y∈xs/\xs.length<=1000 then some ((xs.idxOf y:Nat):Int) else none
def LU (K:FZ9):V->List V->Hp->VK->Prop:=fun x vs H Q=>∃ (l:Addr) (ys:List Int) (y:Int) (k:Int),x = .ref l/\vs=[.int y]/\SqL K H l (ys.map V.int)/\idxZ ys y=some k/\Q (.int k) H
theorem IK:∀ ys:List Int,(ys.map V.int).all Eo=true
 | []=>rfl
 | y::ys=>by rw [qwA,List.all_cons,IK ys];rfl
theorem LO {ys:List Int}{its:List Value}(r:Vals (ys.map V.int) its)(y:Int)(j:Nat)(hj:j<its.length)(hy:j<ys.length):eqU (V.int y) its[j]=(ys[j] == y):=by
 obtain ⟨u,hu,ru⟩:=r.get (i:=j) (x:=V.int ys[j]) (by simp [hy]);have:its[j]=u:=by rw [quA hj] at hu;exact qaB hu
 rw [this,Kc ru rfl]
 rfl
theorem M8 {X:Cx}{K:FZ9}(h:X.K=K):MtR X "list.index" (LU K):=by
 subst h;intro pins s σ H x vs v us Q I rx rv h;obtain ⟨l,ys,y,k,rfl,rfl,hl,hk,q⟩:=h;obtain ⟨⟨hm,hn⟩,rfl⟩:=BI hk;cases rx;obtain ⟨u,rfl,ru⟩:=DI rv;obtain ⟨its,r,pl,_⟩:=I.list hl;have hlen:=r.length;rw [qeA] at hlen;have hj:ys.idxOf y<ys.length:=List.idxOf_lt_length_iff.mpr hm;obtain ⟨⟨cls,dd,data,sl⟩,ho,hc,n,hd⟩:=pl.isList;simp only at hc hd;subst hc hd;refine call_meets PySem.F.slot_list_index ⟨_,ho,rfl⟩ PySem.F.entry_list_index (PySem.F.args_list_index_2 _ _) (SeqAt.list_indexAt l its.toArray n dd sl u (eqU (V.int y)) (ys.idxOf y) (by rw [qkB];omega) (by omega) ?_ ?_) ⟨ho,fun w hw=>Fm ru rfl r (IK ys) w (by simpa using hw),?_⟩
 ·show eqU (V.int y) its[ys.idxOf y]=true;rw [LO r y _ (by omega) hj]
  simpa using List.getElem_idxOf hj
 ·intro j hjs hlt;show eqU (V.int y) its[j]=false;rw [LO r y j (by simpa using hjs) (by omega)];have:=List.not_of_lt_findIdx (p:=(· == y)) (xs:=ys) hlt
  simpa using this
 ·exact ⟨.int _,H,I.tok _,⟨_,rfl⟩,q⟩
def sortRO (ys:List Int):Option (List Int):=if ys.length<64 then some (Gz ys).reverse else none
def tSortR (K:FZ9)(ta:TA):TE:=fun σ H Q=>ta σ H fun us H1=>∃ (l:Addr) (ns:List Int),us=[.ref l]/\SqL K H1 l (ns.map V.int)/\ns.length<64/\∀ p,H1 p=none->Q (.ref p) (upd H1 p (.lst ((Gz ns).reverse.map V.int)))
theorem sortR_of {ns ns':List Int}(hp:ns'.Perm ns)(ho:Ordered true ns'):ns'=(Gz ns).reverse:=by
 have h1:ns'.reverse.Pairwise (· <= ·):=List.pairwise_reverse.mpr (by unfold Ordered at ho;simpa using ho);have h2:=sortZ_of (ss:=ns) (ss':=ns'.reverse) ((List.reverse_perm ns').trans hp) h1;rw [<- h2,List.reverse_reverse]
theorem pe_sortR {X:Cx}{K:FZ9}{a:Expr}{ta:TA}{p pos cp kp:Pos}(hK:X.K=K)(hg:Gl X "sorted")(hm:X.mg "sorted" = none)(ha:PA X [a] ta)
  (hs:starEach [a] X.env=[(false,eval a X.env)]:=by rfl) :
  PE X (.Call (.Name "sorted" p) [a] [⟨some "reverse",.Constant (.bool true) 0 cp,kp⟩] pos) (tSortR K ta):=by
 subst hK;intro pins s σ H R I h;refine wpAny_Call_Name_kw (EZ I hg hm IR ?_);refine PyProof.Rows.callWith_kw (thn (ha pos pins s σ H _ I h) fun us s1 ⟨vs,H1,I1,r1,q1⟩=>?_) (by rw [hs];rfl) (by rw [hs];rfl);refine PyProof.Rows.kwAll_cons (thn (Bh (b:=true) pins s1 σ H1 (fun v H'=>v = .bl true/\H'=H1) I1 ⟨rfl,rfl⟩) fun u s2 ⟨x,H2,I2,r2,e1,e2⟩=>?_);subst e1 e2;cases r2;refine PyProof.Rows.kwAll_nil ?_;obtain ⟨l,ns,e,hq,hl,q⟩:=q1;subst e;obtain ⟨u1,rfl,ru⟩:=DI r1;cases ru;obtain ⟨its,r,pl,_⟩:=I2.list hq;have hlen:=r.length;rw [qeA] at hlen;refine sorted_ints_rev (b:=true) pl.isList (KS r) (by omega) fun out ns' a1 a2 a3=>?_;have e:=sortR_of a2 a3;subst e;obtain ⟨c,hc⟩:=sortedAll_at s2.heap its out;refine ⟨.ref (s2.heap.objs.size+1),_,I2.laid (t':=s2.toks) (o:=.lst ((Gz ns).reverse.map V.int)) (fun b o e=>sortedAll_old e) (Nat.le_succ _) ⟨?_,out.toList,c,GB a1,by simpa using hc⟩,rfl,q _ (I2.hok.fresh (Nat.le_succ _))⟩;rw [qeA,List.length_reverse,Hy,qeB];omega
section
variable {K:FZ9}{σ:St}{G H:Hp}{ta tb te:TE}{rest:TS}{D:Ends}{i:Nat}{v:V}{p:Addr}{vs:List V}{β:Type}[Rp β]
theorem Lv {la:Option (List Int)}{sb:Option Int}(ea:EV K ta σ G la)(eb:EV K tb σ G sb):EV K (tBM K "list" (LU K) ta (AS tb BS)) σ G (la.bind fun xs=>sb.bind fun y=>idxZ xs y):=by
 clear 7;obtain ⟨a,ha,hc⟩:=qaA.mp hc;obtain ⟨b,hb,hc⟩:=qaA.mp hc;clear 8 ea a ha;obtain ⟨l,xs,rfl,h,z,p⟩:=r2;refine ⟨.inl ⟨rfl,xs,.inl (x2.gh.rd h)⟩,?_⟩;refine eb G2 (s1.trans x2.gg) b hb H2 x2.gh _ fun w G3 H3 x3 r3=>?_;cases r3;have e:=Cq p;subst e;exact ⟨l,a,b,c,rfl,rfl,.inl (x3.gh.rd (x3.gg.rd h)),hc,k _ _ _ (x2.trans x3) rfl⟩
theorem fv_sortR {la:Option (List Int)}(ea:EV K ta σ G la):FV K (tSortR K (AS ta BS)) σ G (la.bind fun ys=>sortRO ys):=by
 clear 7;obtain ⟨a,ha,hc⟩:=qaA.mp hc;obtain ⟨hl,rfl⟩:=BI hc;clear 8 ea a ha;obtain ⟨l,xs,rfl,h,z,p⟩:=r2;have e:=Cq p;subst e;refine ⟨l,a,rfl,.inl (x2.gh.rd h),hl,Gj x2.gh ?_ (JW _) (FV.mono x2 k)⟩;rw [qeA,List.length_reverse,Hy,qeB];omega
theorem sv_setFB {δ:Type}[Rp δ][Imm δ]{b:List δ}{m:Option (List δ)}{as:List β}(o:Own K G H v p vs as)(e:FV K te σ (upd G p (.lst vs)) m)(hm:m=some b)(s:Same G H)(k:∀ w G2 H2,Ext G H G2 H2->Rp.rel K G2 w b->rest D (σ.set i (some w)) H2):Dc (HG te (De i)) rest D σ H:=by
 refine e _ (.refl _) b hm H (o.same s) _ fun l ys G2 H2 x h0 hg hh hz hpr=>?_;have gp:G2 p=some (.lst vs):=x.gg _ _ AM
 have gl:L2.del G2 p l=none:=by
  unfold L2.del;split
  ·rfl
  ·exact hg
 have x3:Ext G H (upd (L2.del G2 p) l (.lst ys)) H2:=(x.del o.g).frz h0 gl hh;exact k (.ref l) _ H2 x3 ⟨l,ys,rfl,.inl AM,hz,Paired.imp' (fun _ _ r=>Rp.mono (Same.new gl) (Imm.del gp r)) hpr⟩
end
def memE {α:Type}[DecidableEq α](a:α)(l:List α):Bool:=decide (a∈l)
section
variable {K:FZ9}{σ:St}{G:Hp}{α:Type}[Rp α][DecidableEq α]{ta tb:TE}{ma:Option α}{ml:Option (List α)}
theorem L9 (ea:EV K ta σ G ma)(eb:EV K tb σ G ml):EV K (tOp (Lo K α false) ta tb) σ G (ma.bind fun a=>ml.bind fun l=>some (memE a l)):=ev_inE ea eb
theorem Km (ea:EV K ta σ G ma)(eb:EV K tb σ G ml):EV K (tOp (Lo K α true) ta tb) σ G (ma.bind fun a=>ml.bind fun l=>some (!memE a l)):=MD ea eb
end
structure Rk where
 l:List SI
section
variable {K:FZ9}{σ:St}{G:Hp}{te ta tb:TE}
theorem fv_lstR1 {ia:Option Int}(ea:EV K ta σ G ia):FV K (tCB rLstR (AS (tCB rRng1 (AS ta BS)) BS)) σ G (ia.bind fun j=>Fe 0 j):=by
 clear 7;obtain ⟨j,hj,hc⟩:=qaA.mp hc;obtain ⟨hb,rfl⟩:=BI hc;clear 8 ea j hj;cases r2;refine ⟨j,rfl,fun p hp=>⟨p,0,j,rfl,AM,hb,fun t ht=>?_⟩⟩;have x4:Ext G2 H2 G2 (upd H2 p (.rng 0 j)):=.own x2.gh hp;have x5:Ext G2 (upd H2 p (.rng 0 j)) G2 (upd (upd H2 p (.rng 0 j)) t (.lst (GT 0 j))):=.own x4.gh ht;have y:=(x2.trans x4).trans x5;refine k t (GT 0 j) _ _ y ((x2.trans x4).hh.free ht) ?_ AM (by rw [GU];exact hb.2) (DM _ (fun n=>(0:Int)+(n:Int)) _);exact (x2.trans x4).gh.free ht
end
def Iv:D->Option (Tp D)
 | .tup l=>some ⟨l⟩
 | _=>none
section
variable {K:FZ9}{σ:St}{G:Hp}{te ta:TE}
theorem IS {md:Option D}(e:EV K te σ G md):EV K te σ G (md.bind fun d=>Iv d):=by
 clear 7;obtain ⟨d,hd,hc⟩:=qaA.mp hc;refine e G1 s1 d hd H sH Q fun v G2 H2 x r=>?_
 cases d with
 | tup l =>
  cases hc
  cases r with
  | tup h z r=>exact k _ _ _ x ⟨_,_,rfl,h,z,Ep r⟩
 | _=>cases hc
end
section
variable {κ:PyProof.Rows.KeyKind}
def ky (κ:PyProof.Rows.KeyKind)(p:Keyed):κ.α:=(κ.keyOf p.1).getD κ.dflt
variable {prog:Program}{w:World}{A:Around}{E:Value->Shared->Prop}{s:Shared}
end
section
variable {κ:PyProof.Rows.KeyKind}
def kl (κ:PyProof.Rows.KeyKind)(x y:Keyed):Prop:=κ.kle (ky κ x) (ky κ y)
end
def sg (st:SortSt)(g:Nat):SortSt:=SortSt.mk' (kindOf st) (arrOf st) (pendingOf st) g (failedOf st)
end L2
set_option maxHeartbeats 2000000
namespace L2
open PySem PySem.Spec PyProof.Rows
end L2
set_option maxHeartbeats 2000000
namespace L2
open PySem PySem.Spec PyProof.Rows
end L2
set_option maxHeartbeats 2000000
namespace L2
open PySem PySem.Spec PyProof.Rows
end L2
set_option maxHeartbeats 2000000
namespace L2
open PySem PySem.Spec PyProof.Rows
end L2
set_option maxHeartbeats 2000000
namespace L2
open PySem PySem.Spec PyProof.Rows
end L2
set_option maxHeartbeats 2000000
namespace L2
open PySem PySem.Spec PyProof.Rows
end L2
set_option maxHeartbeats 2000000
namespace L2
open PySem PySem.Spec PyProof.Rows
end L2
set_option maxHeartbeats 2000000
namespace L2
open PySem PySem.Spec PyProof.Rows
section
variable {κ:PyProof.Rows.KeyKind}{prog:Program}{w:World}{A:Around}{E:Value->Shared->Prop}{s:Shared}
abbrev mk (X:Array Keyed)(p:Array (Nat × Nat × Nat))(g:Nat):SortSt:=SortSt.mk' oneType' X p g none
end
end L2
set_option maxHeartbeats 2000000
namespace L2
open PySem PySem.Spec PyProof.Rows
end L2
set_option maxHeartbeats 2000000
namespace L2
open PySem PySem.Spec PyProof.Rows
structure MpR (α:Type) where
 l:List (Rk × α)
class RpC (γ:Type) [Rp γ] where
 P:FZ9->Hp->HO->γ->Prop
 mono:∀ {K:FZ9}{G G':Hp}{ho:HO}{a:γ},Same G G'->P K G ho a->P K G' ho a
 rel:∀ {K:FZ9}{G:Hp}{ho:HO}{a:γ}{q:Addr},P K G ho a->G q=some ho->Rp.rel K G (.ref q) a
def L6 (w:World):List V->Hp->VK->Prop:=fun vs H Q=>∃ (l:Addr) (ks:List Key),vs=[.ref l]/\H l=some (SetO w l ks)/\ks.length<4000/\Q (.int ks.length) H
theorem Jk {X:Cx}{w:World}(hw:X.w=w):CC X (.builtin "len") (L6 w):=by
 subst hw;intro pins s σ H vs us Q I r h;obtain ⟨l,ks,rfl,hl,hz,q⟩:=h;obtain ⟨u,rfl,ru⟩:=DI r;cases ru;obtain ⟨ks',⟨o,es,ep,t,g,S⟩,pm⟩:=setO_get I.hok hl;have e:es.size=ks.length:=S.size.trans pm.length_eq;refine call_len_set g S.exact' S.data S.fit (by omega) ⟨.int ks.length,H,I.tok _,⟨s.toks+1,by rw [e]⟩,q⟩
def LI (ys:List Int):Option Int:=if ys.length<4000 then some ((Le ys).length:Int) else none
section
variable {K:FZ9}{σ:St}{G:Hp}{ta:TE}{w:World}
theorem Ln {la:Option (List Int)}(ea:EV K ta σ G la):EV K (tCB (L6 w) (AS (tCB (rSetK w K) (AS ta BS)) BS)) σ G (la.bind fun ys=>LI ys):=by
 clear 7;obtain ⟨a,ha,hc⟩:=qaA.mp hc;obtain ⟨h4,rfl⟩:=BI hc;have hl:=dedA_len a;clear 8 ea a ha;obtain ⟨l,xs,rfl,h,z,p⟩:=r2;have e:=Cq p;subst e;refine ⟨l,a.map Sum.inl,rfl,?_,by rw [qeA];exact h4,fun q hq=>?_⟩
 ·rw [<- LY];exact .inl (x2.gh.rd h)
 ·rw [dedA_map inl_inj];refine ⟨q,(Le a).map Sum.inl,rfl,AM,by rw [qeA];omega,?_⟩;have x3:Ext G2 H2 G2 (upd H2 q (SetO w q ((Le a).map Sum.inl))):=.own x2.gh hq;rw [qeA];exact k _ _ _ (x2.trans x3) rfl
end
section
variable {K:FZ9}{σ:St}{G H G1 H1 G0 H0:Hp}{α β γ δ:Type}[Rp α][Rp β][Rp γ][Rp δ]{ta tb tc td te:TE}{rest:TS}{D:Ends}{i:Nat}{a:T4 α β (List γ) δ}{v:V}{p q:Addr}{vs:List V}
theorem LA {la:Option (T4 α β γ δ)}(ea:EV K ta σ G la):EV K (tCB (Jo K) (AS ta BS)) σ G (la.bind fun _=>some (4:Int)):=by
 clear 7;obtain ⟨a,ha,hc⟩:=qaA.mp hc;cases hc;clear 8 ea a ha;obtain ⟨t,x,y,z,u,rfl,h,_⟩:=r2;exact ⟨_,.inr (x2.gh.tup h),k _ _ _ x2 rfl⟩
end
structure MpRF (α:Type) where
 l:List (Rk × α)
structure DIn (K:FZ9)(mg:Str->Option Value)(x:Str)(st:Stmt):Prop where
 ex:∃ f fd,mg x=some (.ref f)/\Fun K x x st f fd
def BnO (x:Str)(st:Stmt)(ps:List Str):Prop:=∀ (kV doc pm:Value) (an:Option Addr) (cdv ct:Value) (us:List Value),us.length=ps.length->bindArgs (qmB x x (CY st) (BQ st) (AE st) .none kV doc pm an cdv ct) ⟨us,[]⟩=pure (ps.zip us)
abbrev Nn (K:FZ9)(x:Str):Prop:=PySem.W.nsIn K mainGlobals x=some none
theorem scm {N ps:List Str}{sc:Scope}(a:sc.kind = .function:=by rfl)(b:sc.isCoroutine=false:=by rfl)(c:sc.isGenerator=false:=by rfl)(d:N.Nodup:=by decide +kernel)(e:N.take ps.length=ps:=by rfl)(f:∀ x∈ps,sc.names.lookup x=some .local \/ sc.names.lookup x=some .cell:=by decide +kernel)(g:∀ y∈sc.names,y.2 ≠ .free:=by decide +kernel):FnScope N ps sc:=⟨a,b,c,d,e,f,g⟩
theorem din {K:FZ9}{h:Heap}{mg:Str->Option Value}{x:Str}{st:Stmt}{f:Addr}{oc:Value}{od an:Option Addr}{osl:Array (Option Value)}{kV doc pm cdv ct:Value}(X:K.In h)(G:h.Ns mainGlobals mg)(a:PySem.W.nsIn K mainGlobals x=some (some (.ref f)))
  (l:K.lookup f=some ⟨oc,od,.func (qmB x x (CY st) (BQ st) (AE st) .none kV doc pm an cdv ct),osl⟩) (c:PySem.W.codeIn K cdv x=true) (k:PySem.W.keepIn K (.ref f)=true):DIn K mg x st:=⟨f,_,PySem.W.mg_of X G a,fun_mk l c k⟩
section
variable {P:Program}{w:World}{K:FZ9}{mg:Str->Option Value}{base:Heap}{x:Str}{st:Stmt}{N ps:List Str}{k:Nat}{sp:Sp}{ρ:Type}[Rp ρ]
theorem DIn.ok (Z:DIn K mg x st)(S:FnScope N ps (AE st))(b:BnO x st ps)(len:∀ vs H Q E,sp vs H Q E->vs.length=ps.length)
  (hbody:∀ (f:Addr) (cdv:Value) (A:Around) (outer:List Env) (s:Shared) (H:Hp) (vs:List V) (Q:VK) (E:XK),Room k (A.deeper (envOfC x (AE st) s.heap.objs.size f cdv))->sp vs H Q E ->
   ∃ t,PSs (Hi CX0 P w K mg base N x (AE st) f cdv A outer s H E).nox (BQ st) t/\t { nx:=fun _ H'=>Q .non H',rt:=Q } (start N vs) H):DefOk P w K mg base x (k+1) ps sp:=by
 obtain ⟨f,fd,a,F⟩:=Z.ex;exact KD F a (F.binds b) (F.ok S len fun cdv A outer s H vs Q E hr h=>hbody f cdv A outer s H vs Q E hr h)
theorem bn1 {p0:Str}(h:∀ (kV doc pm:Value) (an:Option Addr) (cdv ct:Value) (a0:Value),bindArgs (qmB x x (CY st) (BQ st) (AE st) .none kV doc pm an cdv ct) ⟨[a0],[]⟩=pure (List.zip [p0] [a0]):=by intros;rfl):BnO x st [p0]:=fun kV doc pm an cdv ct us hl=>match us,hl with | [a0],_=>h kV doc pm an cdv ct a0
theorem DIn.okM1 {α0:Type}[Rp α0]{p0:Str}{m:α0->Option ρ}(Z:DIn K mg x st)(S:FnScope N [p0] (AE st))
  (hbody:∀ (f:Addr) (cdv:Value) (A:Around) (outer:List Env) (s:Shared) (H:Hp) (Q:VK) (E:XK),Room k (A.deeper (envOfC x (AE st) s.heap.objs.size f cdv))->∀ G a0 res v0,Ext G H G H->Rp.rel K G v0 a0->m a0=some res->(∀ v G2 H2,Ext G H G2 H2->Rp.rel K G2 v res->Q v H2) ->
   ∃ t,PSs (Hi CX0 P w K mg base N x (AE st) f cdv A outer s H E).nox (BQ st) t/\t { nx:=fun _ H'=>Q .non H',rt:=Q } (start N [v0]) H)
  (b:BnO x st [p0]:=by exact bn1):DefOk P w K mg base x (k+1) [p0] (spM K fun x:α0 × Unit=>m x.1) :=
 Z.ok S b (fun vs H Q E h=>(Dx h).trans rfl) fun f cdv A outer s H vs Q E hr h=>by
  obtain ⟨G,⟨a0,⟨⟩⟩,res,sg,⟨v0,_,rfl,r0,rfl⟩,hm,q⟩:=h;exact hbody f cdv A outer s H Q E hr G a0 res v0 (Ext.refl sg) r0 hm q
theorem bn2 {p0 p1:Str}(h:∀ (kV doc pm:Value) (an:Option Addr) (cdv ct:Value) (a0 a1:Value),bindArgs (qmB x x (CY st) (BQ st) (AE st) .none kV doc pm an cdv ct) ⟨[a0,a1],[]⟩=pure (List.zip [p0,p1] [a0,a1]):=by intros;rfl):BnO x st [p0,p1]:=fun kV doc pm an cdv ct us hl=>match us,hl with | [a0,a1],_=>h kV doc pm an cdv ct a0 a1
theorem DIn.okM2 {α0 α1:Type}[Rp α0][Rp α1]{p0 p1:Str}{m:α0->α1->Option ρ}(Z:DIn K mg x st)(S:FnScope N [p0,p1] (AE st))
  (hbody:∀ (f:Addr) (cdv:Value) (A:Around) (outer:List Env) (s:Shared) (H:Hp) (Q:VK) (E:XK),Room k (A.deeper (envOfC x (AE st) s.heap.objs.size f cdv))->∀ G a0 a1 res v0 v1,Ext G H G H->Rp.rel K G v0 a0->Rp.rel K G v1 a1->m a0 a1=some res->(∀ v G2 H2,Ext G H G2 H2->Rp.rel K G2 v res->Q v H2) ->
   ∃ t,PSs (Hi CX0 P w K mg base N x (AE st) f cdv A outer s H E).nox (BQ st) t/\t { nx:=fun _ H'=>Q .non H',rt:=Q } (start N [v0,v1]) H)
  (b:BnO x st [p0,p1]:=by exact bn2):DefOk P w K mg base x (k+1) [p0,p1] (spM K fun x:α0 × α1 × Unit=>m x.1 x.2.1) :=
 Z.ok S b (fun vs H Q E h=>(Dx h).trans rfl) fun f cdv A outer s H vs Q E hr h=>by
  obtain ⟨G,⟨a0,a1,⟨⟩⟩,res,sg,⟨v0,_,rfl,r0,⟨v1,_,rfl,r1,rfl⟩⟩,hm,q⟩:=h;exact hbody f cdv A outer s H Q E hr G a0 a1 res v0 v1 (Ext.refl sg) r0 r1 hm q
theorem bn3 {p0 p1 p2:Str}(h:∀ (kV doc pm:Value) (an:Option Addr) (cdv ct:Value) (a0 a1 a2:Value),bindArgs (qmB x x (CY st) (BQ st) (AE st) .none kV doc pm an cdv ct) ⟨[a0,a1,a2],[]⟩=pure (List.zip [p0,p1,p2] [a0,a1,a2]):=by intros;rfl):BnO x st [p0,p1,p2]:=fun kV doc pm an cdv ct us hl=>match us,hl with | [a0,a1,a2],_=>h kV doc pm an cdv ct a0 a1 a2
theorem DIn.okM3 {α0 α1 α2:Type}[Rp α0][Rp α1][Rp α2]{p0 p1 p2:Str}{m:α0->α1->α2->Option ρ}(Z:DIn K mg x st)(S:FnScope N [p0,p1,p2] (AE st))
  (hbody:∀ (f:Addr) (cdv:Value) (A:Around) (outer:List Env) (s:Shared) (H:Hp) (Q:VK) (E:XK),Room k (A.deeper (envOfC x (AE st) s.heap.objs.size f cdv))->∀ G a0 a1 a2 res v0 v1 v2,Ext G H G H->Rp.rel K G v0 a0->Rp.rel K G v1 a1->Rp.rel K G v2 a2->m a0 a1 a2=some res->(∀ v G2 H2,Ext G H G2 H2->Rp.rel K G2 v res->Q v H2) ->
   ∃ t,PSs (Hi CX0 P w K mg base N x (AE st) f cdv A outer s H E).nox (BQ st) t/\t { nx:=fun _ H'=>Q .non H',rt:=Q } (start N [v0,v1,v2]) H)
  (b:BnO x st [p0,p1,p2]:=by exact bn3):DefOk P w K mg base x (k+1) [p0,p1,p2] (spM K fun x:α0 × α1 × α2 × Unit=>m x.1 x.2.1 x.2.2.1) :=
 Z.ok S b (fun vs H Q E h=>(Dx h).trans rfl) fun f cdv A outer s H vs Q E hr h=>by
  obtain ⟨G,⟨a0,a1,a2,⟨⟩⟩,res,sg,⟨v0,_,rfl,r0,⟨v1,_,rfl,r1,⟨v2,_,rfl,r2,rfl⟩⟩⟩,hm,q⟩:=h;exact hbody f cdv A outer s H Q E hr G a0 a1 a2 res v0 v1 v2 (Ext.refl sg) r0 r1 r2 hm q
theorem bn4 {p0 p1 p2 p3:Str}(h:∀ (kV doc pm:Value) (an:Option Addr) (cdv ct:Value) (a0 a1 a2 a3:Value),bindArgs (qmB x x (CY st) (BQ st) (AE st) .none kV doc pm an cdv ct) ⟨[a0,a1,a2,a3],[]⟩=pure (List.zip [p0,p1,p2,p3] [a0,a1,a2,a3]):=by intros;rfl):BnO x st [p0,p1,p2,p3]:=fun kV doc pm an cdv ct us hl=>match us,hl with | [a0,a1,a2,a3],_=>h kV doc pm an cdv ct a0 a1 a2 a3
theorem DIn.okM4 {α0 α1 α2 α3:Type}[Rp α0][Rp α1][Rp α2][Rp α3]{p0 p1 p2 p3:Str}{m:α0->α1->α2->α3->Option ρ}(Z:DIn K mg x st)(S:FnScope N [p0,p1,p2,p3] (AE st))
  (hbody:∀ (f:Addr) (cdv:Value) (A:Around) (outer:List Env) (s:Shared) (H:Hp) (Q:VK) (E:XK),Room k (A.deeper (envOfC x (AE st) s.heap.objs.size f cdv))->∀ G a0 a1 a2 a3 res v0 v1 v2 v3,Ext G H G H->Rp.rel K G v0 a0->Rp.rel K G v1 a1->Rp.rel K G v2 a2->Rp.rel K G v3 a3->m a0 a1 a2 a3=some res->(∀ v G2 H2,Ext G H G2 H2->Rp.rel K G2 v res->Q v H2) ->
   ∃ t,PSs (Hi CX0 P w K mg base N x (AE st) f cdv A outer s H E).nox (BQ st) t/\t { nx:=fun _ H'=>Q .non H',rt:=Q } (start N [v0,v1,v2,v3]) H)
  (b:BnO x st [p0,p1,p2,p3]:=by exact bn4):DefOk P w K mg base x (k+1) [p0,p1,p2,p3] (spM K fun x:α0 × α1 × α2 × α3 × Unit=>m x.1 x.2.1 x.2.2.1 x.2.2.2.1) :=
 Z.ok S b (fun vs H Q E h=>(Dx h).trans rfl) fun f cdv A outer s H vs Q E hr h=>by
  obtain ⟨G,⟨a0,a1,a2,a3,⟨⟩⟩,res,sg,⟨v0,_,rfl,r0,⟨v1,_,rfl,r1,⟨v2,_,rfl,r2,⟨v3,_,rfl,r3,rfl⟩⟩⟩⟩,hm,q⟩:=h;exact hbody f cdv A outer s H Q E hr G a0 a1 a2 a3 res v0 v1 v2 v3 (Ext.refl sg) r0 r1 r2 r3 hm q
end
section
variable {X:Cx}{K:FZ9}{N ps:List Str}{sc:Scope}{i:Nat}{x:Str}{e a b:Expr}{te ta tb:TE}{pos pos':Pos}{σ:St}{G:Hp}{α:Type}[Rp α]{v:V}{c:α}
theorem AI (S:FnScope N ps sc)(he:PE X e te)(hN:X.N=N:=by rfl)(hi:X.N[i]? = some x:=by rfl)(hx:Loc X.env.scope x:=by first|exact Or.inl rfl|exact Or.inr rfl)(hs:swapsWith e (some (.Name x pos')) pos.line X.env=pure false:=by rfl)(hf:X.fn x=true\/X.env.scope.names.lookup x=some .local := by first|exact .inl rfl|exact .inr rfl|assumption) :
  PS X (.Assign [.Name x pos'] e pos) (HG te (De i)):=ps_set (hN ▸ S.nd) hi hx he hs hf
theorem Ch (S:FnScope N ps sc)(hN:X.N=N:=by rfl)(hi:X.N[i]? = some x:=by rfl)(hx:Loc X.env.scope x:=by first|exact Or.inl rfl|exact Or.inr rfl)(hf:X.fn x=true\/X.env.scope.names.lookup x=some .local := by first|exact .inl rfl|exact .inr rfl|assumption):PG X (.Name x pos) (De i):=pg_name (hN ▸ S.nd) hi hx hf
theorem AG (K:FZ9)(ha:PE X a ta)(hb:PE X b tb)(hs:L1 b:=by exact fun _ _=>rfl)(h:X.K=K:=by rfl):PE X (.Subscript a b pos) (tOp (rAt K) ta tb):=pe_ix (ix_anyK h) ha hb hs
theorem Ag (K:FZ9)(ha:PE X a ta)(hb:PE X b tb)(h:X.K=K:=by rfl):PE X (.BinOp a .Add b pos) (tOp (IV K) ta tb):=Ai (op_plusK h) ha hb
theorem AZ (K:FZ9)(hm:X.mg "len" = none)(ha:PE X e te)(hg:Gl X "len" := by rfl)(h:X.K=K:=by rfl)(he:starEach [e] X.env=(false,eval e X.env)::starEach [] X.env:=by rfl):PE X (.Call (.Name "len" pos') [e] [] pos) (tCB (Jo K) (AS te BS)):=AW (Ll h) hg hm Ka (A4 ha A8 he) (by decide) (by decide) he rfl
theorem AU (K:FZ9)(ha:PE X a ta)(he:∀ whole,isTrue a X.env whole=(do let v <- whole;standAt a.pos;holding [v] (truthy v)):=by exact fun _=>rfl)(h:X.K=K:=by rfl):PT X a (fun σ H Q=>ta σ H fun x H'=>∃ k,TruV K x H' k/\Q k H'):=M6 h ha he
theorem BM (K:FZ9)(ha:PE X a ta)(hb:PE X e te)(h:X.K=K:=by rfl)(hbase:attributeBase a "append" X.env (eval a X.env)=eval a X.env:=by rfl)
  (hfew:((backTo pos (starEach [e] X.env)).all (fun x=>!x.1) && (backToKw pos (keywordEach [] X.env)).all (fun x=>x.1.isSome) && decide ([e].length+([]:List Keyword).length+(if ([]:List Keyword).isEmpty then 0 else 1)<30))=true:=by rfl)
  (hline:(pos'.endLine == pos.line)=true:=by rfl) (hs:starEach [e] X.env=(false,eval e X.env)::starEach [] X.env:=by rfl) (hplain:(backTo pos (starEach [] X.env)).any (·.1)=false:=by rfl) :
  PE X (.Call (.Attribute a "append" pos') [e] [] pos) (tBM K "list" Gd ta (AS te BS)):=pe_bmK h PySem.F.plainAttrs_list PySem.F.slot_list_append PySem.F.type_list_append ID ha (A4 hb A8 hs) hbase hfew hline hs hplain
theorem Ku (S:FnScope N ps sc):N.Nodup:=S.nd
theorem A7 (r:Rp.rel K G v c)(h:σ[i]? = some (some v):=by rfl):EV K (Ii i) σ G (some c):=ev_var h r
end
def pairH (a b:Int):Int:=reduceHash (Builtin.Tuple.tupleHashOf [hashInt a,hashInt b])
def tbAdd (b:SetTable × Array Int)(h:Int):Option (SetTable × Array Int) :=
 if b.2.size<1000/\b.1.gaveWay=false then
  match b.1.probe (fun i=>(b.2[i]?).getD 0) h (b.1.probeStart h) with
  | some (.empty j none) =>
   let t1:=(b.1.put j).1
   let h1:=SetTable.insertAt b.2 (b.1.put j).2 h
   if t1.fits h1.size=true/\h1.size=b.2.size+1 then
    if t1.tooFull=true then
     match t1.relaid h1 (SetTable.grown (b.2.size+1)) with
     | some (t2,od) =>
      let h2:=od.filterMap (h1[·]?)
      if h2.size=h1.size/\t2.fits h2.size=true/\SetTable.sizeAbove (SetTable.grown (b.2.size+1))<=100000 then some (t2,h2) else none
     | none=>none
    else some (t1,h1)
   else none
  | _=>none
 else none
def SetQ (h:Heap)(a:Addr)(b:SetTable × Array Int):Prop :=
 ∃ o es ep,h.get? a=some o/\o.ExactSet/\o.data = .set es ep b.1/\es.map (·.1)=b.2/\b.1.fits es.size=true
theorem SetQ.at {h h':Heap}{a:Addr}{b:SetTable × Array Int}(x:SetQ h a b)(k:∀ o,h.get? a=some o->h'.get? a=some o):SetQ h' a b:=by
 obtain ⟨o,es,ep,g,S⟩:=x;exact ⟨o,es,ep,k _ g,S⟩
theorem SetQ.size {h:Heap}{a:Addr}{b:SetTable × Array Int}(x:SetQ h a b):∃ o es ep,h.get? a=some o/\o.ExactSet/\o.data = .set es ep b.1/\b.1.fits es.size=true/\es.size=b.2.size:=by
 obtain ⟨o,es,ep,g,e,d,m,f⟩:=x;exact ⟨o,es,ep,g,e,d,f,by rw [<- m,Array.size_map]⟩
theorem JF {α β:Type}(f:α->β)(xs:Array α)(p:Nat)(x:α):(SetTable.insertAt xs p x).map f=SetTable.insertAt (xs.map f) p (f x):=by
 unfold SetTable.insertAt;simp [Array.map_append,Array.map_push,Array.map_extract]
theorem FD {α β:Type}(f:α->β)(es:Array α)(od:Array Nat):(od.filterMap (es[·]?)).map f=od.filterMap ((es.map f)[·]?):=by
 rw [Array.map_filterMap]
 congr 1
 funext i
 simp
section
variable {prog:Program}{w:World}{A:Around}{E:Value->Shared->Prop}{s:Shared}
def IsP (h:Heap)(a:Addr)(x y:Int):Prop:=∃ o n t u,h.get? a=some o/\o.cls = .type "tuple" /\ o.data = .seq #[.int x t,.int y u] n
theorem IsP.key {h:Heap}{a:Addr}{x y:Int}(k:IsP h a x y):IsTupleKey (C6 prog w) h [.inl x,.inl y] a:=by
 obtain ⟨o,n,t,u,g,c,d⟩:=k;exact ⟨o,_,n,g,c,d,.cons (Fy x t) (.cons (Fy y u) .nil)⟩
theorem hbv {a:Addr}{x y:Int}{Q:Bool->Shared->Prop}(k:IsP s.heap a x y)(h:Q true s):wpAny (model prog w) A (hashByValue 8 (.ref a)) Q E s:=by
 have hT:=(k.key (prog:=prog) (w:=w)).typeIs;obtain ⟨o,n,t,u,g,c,d⟩:=k;unfold hashByValue;refine qbA (wpAny_specialOf hT F.slot_tuple_hash.lookup ?_);dsimp only;refine qbA (wpAny_seqItems g d ?_);refine qbA ?_;rw [<- Array.forIn_toList];show wpAny _ _ (forIn [Value.int x t,Value.int y u] _ _) _ _ _;simp only [List.forIn_cons,List.forIn_nil,hashByValue,pure_bind,Bool.not_true,Bool.false_eq_true,if_false];exact qcA (qcA h)
theorem addQ {a c:Addr}{x y:Int}{b b':SetTable × Array Int}{hh:Int}{Q:Bool->Shared->Prop}(k:IsP s.heap c x y)(S:SetQ s.heap a b)(e:tbAdd b hh=some b')
  (h:∀ h',Heap.SameBut a s.heap h'->SetQ h' a b'->∀ bb,Q bb { s with heap:=h' }):wpAny (model prog w) A (setAddHashed a (.ref c) hh) Q E s:=by
 obtain ⟨t,hs⟩:=b;obtain ⟨o,es,ep,g,ex,d,m,f⟩:=S;dsimp only at d m f;subst m;unfold tbAdd at e;dsimp only at e;split at e
 case isFalse=>cases e
 rename_i hc;obtain ⟨hz,hg⟩:=hc;rw [Array.size_map] at hz;split at e
 case h_2=>cases e
 rename_i j hp
 have hp':t.probe (fun i=>((es[i]?).map (·.1)).getD 0) hh (t.probeStart hh)=some (.empty j none):=by
  rw [<- hp]
  congr 1
  funext i
  rw [Array.getElem?_map]
 unfold setAddHashed setAddHashedIn;refine qdA (qbA (wpAny_setState_of g d f ?_));dsimp only;rw [show byScan (.ref c) es=false from rfl];simp only [Bool.false_eq_true,if_false];unfold setSearch setSearchFrom;refine qbA (qbA (wpAny_setState_of g d f ?_));dsimp only;rw [hg];simp only [Bool.false_eq_true,if_false];generalize hr:SetTable.probe t _ _ _=r;have er:r=some (.empty j none):=hr.symm.trans hp';subst er;dsimp only;refine qcA ?_;dsimp only;refine qbA (wpAny_setState_of g d f ?_);dsimp only;rw [<- JF (·.1) es (t.put j).2 (hh,Value.ref c)] at e;generalize hes:SetTable.insertAt es (t.put j).2 (hh,Value.ref c)=es1 at e ⊢;split at e
 case isFalse=>cases e
 rename_i hf;obtain ⟨hf1,hf2⟩:=hf;rw [Array.size_map] at hf1 hf2;rw [Array.size_map] at hf2;have hpl:(t.put j).1.plain=t.plain:=rfl;have few:es1.size<=sizeLine:=by rw [qeB];omega
 have go:wpAny (model prog w) A (do
   storeSet a es1 (t.put j).1
   if (!false && (t.put j).1.tooFull)=true then do
     setRelay a (SetTable.grown (es.size+1))
     pure true
    else pure true) Q E s:=by
  refine qbA (wpAny_storeSet_of g d ?_ few);have g1:=Ez (es':=es1) (t':=(t.put j).1) g d;have b1:=Heap.SameBut.update s.heap a (Obj.putSet es1 (t.put j).1);split at e
  ·rename_i tf;rw [if_pos (by rw [tf];rfl)];rw [Array.size_map] at e;split at e
   case h_2=>cases e
   rename_i t2 od hrl;split at e
   case isFalse=>cases e
   rename_i h3;cases e;rw [<- FD,Array.size_map,Array.size_map] at h3;obtain ⟨z1,z2,z3⟩:=h3;unfold setRelay;refine qbA (qbA (wpAny_setState_of g1 rfl hf1 ?_));dsimp only;rw [if_neg (Nat.not_lt.mpr (qyA z3 (by rw [qeB];decide)))];rw [hrl];refine qbA ?_;show wpAny _ _ (if ((od.filterMap (es1[·]?)).size != es1.size)=true then unsupported "internal:set-table-lost-an-element" >>= fun _=>pure (od.filterMap (es1[·]?),t2) else pure (od.filterMap (es1[·]?),t2)) _ _ _;rw [if_neg (by rw [z1];simp)];refine qcA ?_;dsimp only;refine wpAny_storeSet_of g1 rfl ?_ (by rw [z1];exact few);have g2:=Ez (s:={ s with heap:=s.heap.update a (Obj.putSet es1 (t.put j).1) }) (es':=od.filterMap (es1[·]?)) (t':=t2) g1 rfl;exact qcA (h _ (b1.trans (Heap.SameBut.update _ a _)) ⟨_,_,_,g2,ex,rfl,FD _ _ _,z2⟩ true)
  ·rename_i tf;rw [if_neg (by rw [Bool.not_eq_true] at tf;rw [tf];exact Bool.noConfusion)];cases e;exact qcA (h _ b1 ⟨_,_,_,g1,ex,rfl,rfl,hf1⟩ true)
 split
 ·refine qbA (hbv k ?_);simp only [if_true];exact go
 ·refine qbA (qcA ?_);simp only [if_true];exact go
end
def IL (b:SetTable × Array Int):List (Int × Int)->Option (SetTable × Array Int)
 | []=>some b
 | p::ps=>(tbAdd b (pairH p.1 p.2)).bind fun c=>IL c ps
def tb0 (led:Bool):SetTable × Array Int:=(.fresh 0 0 led,#[])
theorem IsP.at {h h':Heap}{a:Addr}{x y:Int}(k:IsP h a x y)(q:∀ o,h.get? a=some o->h'.get? a=some o):IsP h' a x y:=by
 obtain ⟨o,n,t,u,g,c,d⟩:=k;exact ⟨o,n,t,u,q _ g,c,d⟩
def Prs (P:Nat->Value->Prop)(ps:List (Int × Int))(no:List Addr)(h:Heap):Prop:=∀ i v,P i v->∃ c p,v = .ref c/\ps[i]? = some p/\c ∉ no/\IsP h c p.1 p.2
theorem Prs.at {P:Nat->Value->Prop}{ps:List (Int × Int)}{no:List Addr}{h h':Heap}(k:Prs P ps no h)(q:∀ a o,a ∉ no->h.get? a=some o->h'.get? a=some o):Prs P ps no h':=fun i v e=>by
 obtain ⟨c,p,e1,e2,e3,e4⟩:=k i v e;exact ⟨c,p,e1,e2,e3,e4.at fun o=>q c o e3⟩
theorem freshQ {w:World}{h:Heap}{a:Addr}(g:h.get? a=some (Aq w)):SetQ h a (tb0 (!byT w)):=⟨_,#[],0,g,⟨rfl,rfl,rfl⟩,rfl,Array.map_empty,rfl⟩
section
variable {prog:Program}{w:World}{A:Around}{R:Result->Shared->Prop}{I:Addr}{fp wr:List Addr}{G:Array GenState->Array GenState->Prop}{n:Nat}{P:Nat->Value->Prop}{St:Nat->Shared->Prop}
theorem Lg (W:WalksS prog w A.in1 I fp wr G n P St)(S:Addr)(nS:S ∉ fp)(ps:List (Int × Int))(hn:ps.length=n)(hu:A.units+1<cLine){b':SetTable × Array Int} :
  ∀ (k i:Nat) (s:Shared) (b:SetTable × Array Int),n - i=k->i<=n->St i s->SetQ s.heap S b->IL b (ps.drop i)=some b'->Prs P ps (S::wr) s.heap ->
   (∀ s',Moved (S::wr) G s s'->SetQ s'.heap S b'->R (.ok (.ret .none)) s') ->
   codeAny (model prog w) A (.builtin "set.update.loop" ⟨[.ref S,.ref I],[]⟩) R s:=by
 have nW:S ∉ wr:=fun h=>nS (W.sub _ h);have up:∀ b∈wr,b∈S::wr:=fun b hb=>qqA _ hb;intro k
 induction k with
 | zero =>
  intro i s b e1 e2 st hS hb hv hR;have ei:i=n:=by omega
  subst ei;refine codeAny_builtin PyProof.Rows.F.entry_set_update_loop ?_;rw [Around.under_plainId PyProof.Rows.F.plain_set_update_loop _];show wpAny _ A.in1 (pyNext (.ref I) >>= _) _ _ s;refine qbA (W.done s _ _ st fun s' hm=>?_);show wpAny _ A.in1 (ret Value.none) _ _ s';refine qcA (hR s' (hm.mono up) ?_);rw [List.drop_of_length_le (Nat.le_of_eq hn)] at hb;cases hb;exact hS.at fun o e=>hm.heap S _ nW e
 | succ k ih =>
  intro i s b e1 e2 st hS hb hv hR;have hlt:i<n:=by omega
  refine codeAny_builtin PyProof.Rows.F.entry_set_update_loop ?_;rw [Around.under_plainId PyProof.Rows.F.plain_set_update_loop _];show wpAny _ A.in1 (pyNext (.ref I) >>= _) _ _ s;refine qbA (W.item i s _ _ hlt st fun v s' hP st' hm=>?_);have hv':Prs P ps (S::wr) s'.heap:=hv.at fun a o na e=>hm.heap a o (fun q=>na (up _ q)) e;obtain ⟨c,p,rfl,hp,nc,hi⟩:=hv' i v hP;have hS':SetQ s'.heap S b:=hS.at fun o e=>hm.heap S _ nW e;rw [List.drop_eq_getElem_cons (by omega:i<ps.length)] at hb;have ep:ps[i]=p:=by rw [quA (by omega)] at hp;exact qaB hp
  rw [ep] at hb;obtain ⟨b1,hb1,hb2⟩:=qaA.mp hb;show wpAny _ A.in1 (holding [Value.ref c] (setAdd S (.ref c)) >>= _) _ _ s';refine qbA (qdA ?_);unfold setAdd;refine qdA (qbA ((tupleKind (C6 prog w)).pyHash (k:=[.inl p.1,.inl p.2]) (tupleKind_room_in1 hu) hi.key ?_));refine addQ (s:={ s' with toks:=_ }) (x:=p.1) (y:=p.2) (hh:=pairH p.1 p.2) hi hS' hb1 fun h' hsb hS2 bb=>?_;have lift:∀ b o,b ∉ S::wr->s'.heap.get? b=some o->h'.get? b=some o:=fun b o nb e=>(hsb.2 b (fun h:b=S=>nb (by rw [h];exact qpA))).trans e;refine qcA ⟨plainId_quiet PyProof.Rows.F.plain_set_update_loop _,ih (i+1) _ b1 (by omega) hlt (W.frame _ s' _ _ st' (Nat.le_add_right _ _) fun b hb o e=>?_) hS2 hb2 (hv'.at lift) fun s'' hm'' hS''=>?_⟩
  ·exact (hsb.2 b (fun h:b=S=>nS (by rw [<- h];exact hb))).trans e
  ·refine hR s'' (Moved.trans W.gtrans ((hm.mono up).then_heap (Nat.le_add_right _ _) fun b o hb e=>lift b o hb e) hm'') hS''
end
section
variable {prog:Program}{w:World}{A:Around}{E:Value->Shared->Prop}{s:Shared}
theorem MC {x:Value}{T:String}{n:Nat}{P:Nat->Value->Prop}{ps:List (Int × Int)}{b':SetTable × Array Int}{Q:Value->Shared->Prop}(hh:A.handled=none)(hx:Src prog w x s.heap n P)
  (tx:∀ s₁:Shared,(∀ b o,s.heap.get? b=some o->s₁.heap.get? b=some o)->s₁.TypeIs x T) (n1:isSubtype (.type T) (.type "set")=pure false) (n2:isSubtype (.type T) (.type "frozenset")=pure false) (n3:(Value.type T == Value.type "dict")=false)
  (hn:ps.length=n) (hv:Prs P ps [] s.heap) (hb:IL (tb0 (!byT w)) ps=some b') (hu:A.units+60<cLine)
  (h:∀ (h':Heap) (tk:Nat),SetQ h' s.heap.objs.size b'->(∀ b o,s.heap.get? b=some o->h'.get? b=some o)->Q (.ref s.heap.objs.size) { s with heap:=h',toks:=tk }) :
  wpAny (model prog w) A (call (.type "set") [x]) Q E s:=by
 obtain ⟨c,tl,hmro⟩:=F.called_set.mro;have hmade:=F.called_set.made;have hsub:=F.called_set.sub;refine wpAny_call (codeAny_of_tree ?_);show wpAny _ _ (callAny (.type "set") _) _ _ _;refine qcA ⟨Code.quiet_builtin _ (by decide +kernel),codeAny_builtin F.entry_type_call ?_⟩;rw [Around.under_plain (weight_type_call_type "set" [x] []) rfl];have h1:=F.called_set.notType;have h2:=F.called_set.canCreate;have hct:=PySem.F.typeCall_set_1 x
 repeat (any_goals (first|assumption|wp_step))
 refine codeAny_mono (Fj x (E:=E) (Q₁:=fun obj s₁=>obj = .ref s.heap.objs.size/\s₁ = { s with heap:=s.heap.push (Aq w) }) ⟨rfl,rfl⟩) fun r s₁ hr=>?_
 cases r with
 | error e=>exact hr
 | ok fl=>cases fl with
  | ret obj =>
   obtain ⟨rfl,rfl⟩:=hr;have gS:(s.heap.push (Aq w)).get? s.heap.objs.size=some (Aq w):=qdB _ rfl;have hT:Shared.TypeIs { s with heap:=s.heap.push (Aq w) } (.ref s.heap.objs.size) "set" := ⟨_,gS,rfl⟩;have hli:=F.called_set.init.lookup;have hbi:=F.called_set.init.bind (.ref s.heap.objs.size)
   repeat (any_goals (first|assumption|wp_step))
   refine codeAny_mono (codeAny_call_builtin (R:=wants (fun r s₂=>r = .none/\∃ h' tk,s₂ = { s with heap:=h',toks:=tk }/\SetQ h' s.heap.objs.size b'/\(∀ b o,s.heap.get? b=some o->h'.get? b=some o)) E) F.called_set.init.plain F.entry_set_init (check_set_init_1 hT ?_)) fun r₂ s₂ hr₂=>?_
   ·obtain ⟨hp,g,d,tk0,os⟩:=s;dsimp only at *;have kp:∀ b o,hp.get? b=some o->(hp.push (Aq w)).get? b=some o:=fun b o e=>qcB _ e;have hTx:Shared.TypeIs { heap:=hp.push (Aq w),gens:=g,drawn:=d,toks:=tk0,os:=os } x T:=tx _ kp;unfold Builtin.«set.__init__» noKeywords Builtin.Frozenset.updateFrom;generalize hPI:pyIter=PI;unfold Aq at *
    wp_walk
    subst hPI;obtain ⟨oI,fp,St,hf,hfp,st0,hit,hW⟩:=hx { heap:=hp.push (Aq w),gens:=g,drawn:=d,toks:=tk0,os:=os } kp;refine hit _ _ _ (by simp [hh]) (qbA (wpAny_runValue ?_));have eS:(hp.push (Aq w)).objs.size=hp.objs.size+1:=size_push' _ _
    have nS:hp.objs.size ∉ fp:=fun hm=>by
     rcases hfp _ hm with e|e
     ·rw [eS] at e;exact absurd e (qoB (Nat.lt_succ_self _))
     ·exact qzA _ e
    refine Lg (hW _ (by simp [hh])).toS hp.objs.size nS ps hn (by simp;omega) n 0 _ _ rfl (qsB _) st0 (freshQ (w:=w) (qcB _ gS)) hb ?_ fun s' hm hS'=>?_
    ·intro i v e;obtain ⟨c,p,e1,e2,_,e4⟩:=hv i v e;have lc:c<hp.objs.size:=by obtain ⟨_,_,_,_,g,_⟩:=e4;exact qbB g
     refine ⟨c,p,e1,e2,fun hm=>?_,e4.at fun o q=>qcB _ (kp _ _ q)⟩;rcases qmA.mp hm with q|q
     ·exact absurd q (qoB lc)
     ·have q:=qoA.mp q;rw [eS] at q;exact absurd q (qoB (Nat.lt_succ_of_lt lc))
    ·obtain ⟨h',g',d',tk',os'⟩:=s';obtain rfl:g'=g:=hm.gens;obtain rfl:d'=d:=hm.drawn;obtain rfl:os'=os:=hm.os;refine qcA ?_;show wpAny _ _ (ret Value.none) _ _ _;refine qcA ⟨rfl,h',tk',rfl,hS',fun b o e=>?_⟩;have lb:b<hp.objs.size:=qbB e;refine hm.heap b o (fun hmem=>?_) (qcB _ (kp b o e));rcases qmA.mp hmem with q|q
     ·exact absurd q (qoB lb)
     ·have q:=qoA.mp q;rw [eS] at q;exact absurd q (qoB (Nat.lt_succ_of_lt lb))
   ·cases r₂ with
    | error e=>exact hr₂
    | ok fl₂=>cases fl₂ with
     | ret r =>
      obtain ⟨rfl,h',tk,rfl,hS',hk'⟩:=hr₂
      repeat (any_goals (first|assumption|wp_step))
      exact h _ _ hS' hk'
     | _=>exact hr₂.elim
  | _=>exact hr.elim
end
def Jd (p:Addr)(b:SetTable × Array Int):HO:=.ext fun h=>SetQ h p b
theorem setQO_ok {P:Program}{w:World}{H:Hp}{h:Heap}{p:Addr}{b:SetTable × Array Int}(x:SetQ h p b):ObjOk P w H h p (Jd p b):=by
 refine ⟨x,?_,fun h1 h2 a b=>a.at b⟩;obtain ⟨o,_,_,g,_⟩:=x;exact ⟨o,g⟩
theorem LX {P:Program}{w:World}{H:Hp}{h:Heap}{p:Addr}{b:SetTable × Array Int}(x:HOk P w H h)(e:H p=some (Jd p b)):SetQ h p b:=(x p _ e).1
def PrV (K:FZ9)(H:Hp)(v:V)(p:Int × Int):Prop:=∃ t,v = .ref t/\SqT K H t [.int p.1,.int p.2]
def rSetQ (w:World)(K:FZ9):List V->Hp->VK->Prop:=fun vs H Q=>∃ (l:Addr) (xs:List V) (ps:List (Int × Int)) (b:SetTable × Array Int),vs=[.ref l]/\SqL K H l xs/\Paired (PrV K H) xs ps/\IL (tb0 (!byT w)) ps=some b/\∀ p,H p=none->Q (.ref p) (upd H p (Jd p b))
theorem prs_of {X:Cx}{pins:List (Addr × Obj)}{s:Shared}{σ:St}{H:Hp}(I:Inv X pins σ H s):∀ {xs:List V}{ps:List (Int × Int)}{us:List Value},Paired (PrV X.K H) xs ps->Vals xs us->Prs (fun i v=>us[i]? = some v) ps [] s.heap
 | _,_,_,.nil,.nil=>fun i v e=>by cases e
 | _,_,_,.cons h t,.cons r rs=>fun i v e=>by
  cases i with
  | zero =>
   cases e;obtain ⟨a,rfl,q⟩:=h;cases r;obtain ⟨its,rv,it,_⟩:=I.tuple q;obtain ⟨o,g,c,n,d⟩:=it
   cases rv with
   | cons r1 rv=>cases rv with
    | cons r2 rv =>
     cases rv;obtain ⟨t1,rfl⟩:=r1;obtain ⟨t2,rfl⟩:=r2;exact ⟨a,_,rfl,rfl,by simp,o,n,t1,t2,g,c,d⟩
  | succ i=>exact prs_of I t rs i v e
theorem Kf {X:Cx}{w:World}{K:FZ9}(hu:X.A.units+60<cLine)(hc:X.calm=true)(hw:X.w=w)(hK:X.K=K):CC X (.type "set") (rSetQ w K):=by
 subst hK;subst hw;intro pins s σ H vs us Q I r h;obtain ⟨l,xs,ps,b,rfl,hl,hp,hb,q⟩:=h;obtain ⟨u,rfl,ru⟩:=DI r;cases ru;obtain ⟨its,rv,pl,_⟩:=I.list hl;have il:=pl.isList;refine MC (ps:=ps) (b':=b) (T := "list") (I.ok.hd hc) (JX il) (fun s1 k=>(il.at fun o e=>k _ _ e).typeIs) PySem.F.sub_list_set PySem.F.sub_list_frozenset (by decide) ?_ (fun i v e=>prs_of I hp rv i v (by rw [List.getElem?_toArray] at e;exact e)) hb hu fun h' tk hS hk=>?_
 ·rw [qkB,<- rv.length,hp.length]
 ·exact ⟨.ref s.heap.objs.size,_,I.laid' (s':={ s with heap:=h',toks:=tk }) (fun b o e=>hk b o e) (qxA _) (setQO_ok hS) rfl rfl,rfl,q _ (I.hok.fresh (qxA _))⟩
def rLenQ:List V->Hp->VK->Prop:=fun vs H Q=>∃ (l:Addr) (b:SetTable × Array Int),vs=[.ref l]/\H l=some (Jd l b)/\b.2.size<4000/\Q (.int b.2.size) H
theorem MH {X:Cx}:CC X (.builtin "len") rLenQ:=by
 intro pins s σ H vs us Q I r h;obtain ⟨l,b,rfl,hl,hz,q⟩:=h;obtain ⟨u,rfl,ru⟩:=DI r;cases ru;obtain ⟨o,es,ep,g,ex,d,f,e⟩:=(LX I.hok hl).size;refine call_len_set g ex d f (by omega) ⟨.int b.2.size,H,I.tok _,⟨s.toks+1,by rw [e]⟩,q⟩
def okTb (led:Bool)(ps:List (Int × Int)):Bool:=match IL (tb0 led) ps with
 | some b=>b.2.size == ps.length
 | none=>false
def Jw (ps:List (Int × Int)):Option Int:=if (okTb true ps && okTb false ps && decide (ps.length<4000))=true then some (ps.length:Int) else none
theorem Lm {led:Bool}{ps:List (Int × Int)}(h:okTb led ps=true):∃ b,IL (tb0 led) ps=some b/\b.2.size=ps.length:=by
 unfold okTb at h;split at h
 ·rename_i b e;exact ⟨b,e,by simpa using h⟩
 ·cases h
theorem hu60 {A:Around}{k:Nat}(hr:Room k A):A.units+60<cLine:=by have:=hr.units;omega
section
variable {K:FZ9}{σ:St}{G:Hp}{ta:TE}{w:World}
theorem prV_of {H:Hp}:∀ {xs:List V}{ps:List (Int × Int)},Paired (Rp.rel K H) xs ps->Paired (PrV K H) xs ps
 | _,_,.nil=>.nil
 | _,_,.cons ⟨t,a,b,e,h,r1,r2⟩ p=>.cons ⟨t,e,by cases r1;cases r2;exact h⟩ (prV_of p)
theorem KT {la:Option (List (Int × Int))}(ea:EV K ta σ G la):EV K (tCB rLenQ (AS (tCB (rSetQ w K) (AS ta BS)) BS)) σ G (la.bind fun ys=>Jw ys):=by
 clear 7;obtain ⟨a,ha,hc⟩:=qaA.mp hc;obtain ⟨h4,rfl⟩:=BI hc;simp only [Bool.and_eq_true,decide_eq_true_eq] at h4;have hb:okTb (!byT w) a=true:=by cases byT w<;>simp [h4.1.1,h4.1.2]
 obtain ⟨b,e1,e2⟩:=Lm hb;clear 8 ea a ha;obtain ⟨l,xs,rfl,h,z,p⟩:=r2;refine ⟨l,xs,a,b,rfl,.inl (x2.gh.rd h),?_,e1,fun q hq=>?_⟩
 ·exact prV_of (Paired.imp' (fun _ _ r=>Rp.mono x2.gh r) p)
 ·refine ⟨q,b,rfl,AM,by rw [e2];exact h4.2,?_⟩;have x3:Ext G2 H2 G2 (upd H2 q (Jd q b)):=.own x2.gh hq;rw [e2];exact k _ _ _ (x2.trans x3) rfl
end
def asSI:D->Option SI
 | .str x=>some (.s x)
 | .int i=>some (.i i)
 | _=>none
section
variable {K:FZ9}{σ:St}{G H:Hp}{α β γ δ:Type}[Rp α][Rp β][Rp γ][Rp δ]{ta te:TE}
theorem LQ {md:Option D}(e:EV K te σ G md):EV K te σ G (md.bind fun d=>asSI d):=by
 clear 7;obtain ⟨d,hd,hc⟩:=qaA.mp hc;refine e G1 s1 d hd H sH Q fun v G2 H2 x r=>k v G2 H2 x ?_
 cases d with
 | int i =>
  have e:=qaB (show some (SI.i i)=some c from hc);subst e;cases (show RelD K G2 v (.int i) from r);exact rfl
 | str y =>
  have e:=qaB (show some (SI.s y)=some c from hc);subst e
  cases (show RelD K G2 v (.str y) from r) with
  | str _ z=>exact ⟨rfl,z⟩
 | _=>exact nomatch hc
end
def New1 (B G:Hp)(v:V)(n:Nat):Prop:=∃ l xs,v = .ref l/\B l=none/\G l=some (.lst xs)/\xs.length=n
theorem New1.mono {B G G':Hp}{v:V}{k:Nat}(s:Same G G')(n:New1 B G v k):New1 B G' v k:=by
 obtain ⟨l,xs,e,b,g,z⟩:=n;exact ⟨l,xs,e,b,s _ _ g,z⟩
theorem New1.base {B B' G:Hp}{v:V}{k:Nat}(s:Same B' B)(n:New1 B G v k):New1 B' G v k:=by
 obtain ⟨l,xs,e,b,g,z⟩:=n;exact ⟨l,xs,e,s.free b,g,z⟩
def NewT (K:FZ9)(B G:Hp)(v:V)(vs:List (V × Nat)):Prop:=∃ t,v = .ref t/\SqT K G t (vs.map (·.1))/\∀ u∈vs,New1 B G u.1 u.2
theorem NewT.mono {K:FZ9}{B G G':Hp}{v:V}{vs:List (V × Nat)}(s:Same G G')(n:NewT K B G v vs):NewT K B G' v vs:=by
 obtain ⟨t,e,h,q⟩:=n;exact ⟨t,e,s.tup h,fun u m=>(q u m).mono s⟩
theorem NewT.base {K:FZ9}{B B' G:Hp}{v:V}{vs:List (V × Nat)}(s:Same B' B)(n:NewT K B G v vs):NewT K B' G v vs:=by
 obtain ⟨t,e,h,q⟩:=n;exact ⟨t,e,h,fun u m=>(q u m).base s⟩
def n4 {α β γ δ:Type}(a:T4 (List α) (List β) (List γ) (List δ))(x y z u:V):List (V × Nat):=[(x,a.a.length),(y,a.b.length),(z,a.c.length),(u,a.d.length)]
section
variable {K:FZ9}{σ:St}{B G H G1 H1 G0 H0:Hp}{α β γ δ:Type}[Rp α][Rp β][Rp γ][Rp δ]{ta tb tc td te:TE}{t u rest:TS}{D:Ends}{i:Nat}{v:V}
def EVB (K:FZ9)(B:Hp){α:Type}[Rp α](te:TE)(σ:St)(G:Hp)(m:Option (List α)):Prop :=
 ∀ G1,Same G G1->∀ a,m=some a->∀ H,Same G1 H->Same B H->∀ Q:VK,(∀ v G2 H2,Ext G1 H G2 H2->Rp.rel K G2 v a->New1 B G2 v a.length->Q v H2)->te σ H Q
theorem evb_v {c:List α}(r:Rp.rel K G v c)(n:New1 B G v c.length)(h:σ[i]? = some (some v):=by rfl):EVB K B (Ii i) σ G (some c):=by
 intro G1 s1 a ha H sH sB Q k;cases ha;exact ⟨v,h,k v G1 H (.refl sH) (Rp.mono s1 r) (n.mono s1)⟩
theorem J2 {m:Option (List α)}(e:FV K te σ G m):EVB K B te σ G m:=by
 intro G1 s1 a ha H sH sB Q k;refine e G1 s1 a ha H sH Q fun p vs G2 H2 x h1 hg hh hz hp=>?_;exact k _ _ _ (x.frz h1 hg hh) (Own.tell ⟨rfl,hg,hh,hz,hp⟩) ⟨p,vs,rfl,sB.free h1,AM,Paired.length hp⟩
theorem EVB.to {m:Option (List α)}{a:List α}(e:EVB K B te σ G m)(h:m=some a):EVB K B te σ G (some a):=fun G1 s1 b hb H sH sB Q k=>e G1 s1 b (h.trans hb) H sH sB Q k
def EV4 (K:FZ9){α β γ δ:Type}[Rp α][Rp β][Rp γ][Rp δ](te:TE)(σ:St)(G:Hp)(B:Hp)(m:Option (T4 (List α) (List β) (List γ) (List δ))):Prop :=
 ∀ G1,Same G G1->∀ a,m=some a->∀ H,Same G1 H->Same B H->∀ Q:VK,(∀ v x y z u G2 H2,Ext G1 H G2 H2->Rp.rel K G2 v a->NewT K B G2 v (n4 a x y z u)->Q v H2)->te σ H Q
theorem EV4.ev {m:Option (T4 (List α) (List β) (List γ) (List δ))}(e:EV4 K te σ G (fun _=>none) m):EV K te σ G m:=by
 intro G1 s1 a ha H sH Q k;exact e G1 s1 a ha H sH (fun _ _ h=>nomatch h) Q fun v _ _ _ _ G2 H2 x r _=>k v G2 H2 x r
theorem ev4_tup {ma:Option (List α)}{mb:Option (List β)}{mc:Option (List γ)}{md:Option (List δ)}(ea:EVB K B ta σ G ma)(eb:EVB K B tb σ G mb)(ec:EVB K B tc σ G mc)(ed:EVB K B td σ G md):EV4 K (tTup (AS ta (AS tb (AS tc (AS td BS))))) σ G B (ma.bind fun a=>mb.bind fun b=>mc.bind fun c=>md.bind fun d=>some (T4.mk a b c d)):=by
 intro G1 s1 c hc H sH sB Q k;obtain ⟨a,ha,hc⟩:=qaA.mp hc;obtain ⟨b,hb,hc⟩:=qaA.mp hc;obtain ⟨c',hc',hc⟩:=qaA.mp hc;obtain ⟨d,hd,hc⟩:=qaA.mp hc;cases hc;refine ea G1 s1 a ha H sH sB _ fun v G2 H2 x2 r2 n2=>?_;refine eb G2 (s1.trans x2.gg) b hb H2 x2.gh (sB.trans x2.hh) _ fun u G3 H3 x3 r3 n3=>?_;refine ec G3 (s1.trans (x2.trans x3).gg) c' hc' H3 x3.gh (sB.trans (x2.trans x3).hh) _ fun w G4 H4 x4 r4 n4=>?_;refine ed G4 (s1.trans ((x2.trans x3).trans x4).gg) d hd H4 x4.gh (sB.trans ((x2.trans x3).trans x4).hh) _ fun y G5 H5 x5 r5 n5=>⟨by show 4<=sizeLine;decide,fun p h=>?_⟩;have s:=Same.new (o:=.tup [v,u,w,y]) (x5.gh.free h);have e2:=((x3.trans x4).trans x5).gg.trans s;have e3:=(x4.trans x5).gg.trans s;have e4:=x5.gg.trans s;refine k _ v u w y _ _ ((((x2.trans x3).trans x4).trans x5).trans (.new x5.gh h)) ⟨p,v,u,w,y,rfl,SqT.of AM,Rp.mono e2 r2,Rp.mono e3 r3,Rp.mono e4 r4,Rp.mono s r5⟩ ⟨p,rfl,SqT.of AM,fun q hq=>?_⟩;rcases qmA.mp hq with rfl|hq
 ·exact n2.mono e2
 rcases qmA.mp hq with rfl|hq
 ·exact n3.mono e3
 rcases qmA.mp hq with rfl|hq
 ·exact n4.mono e4
 rcases qmA.mp hq with rfl|hq
 ·exact n5.mono s
 ·cases hq
def spM4 (K:FZ9){A:Type}[RpA A]{α β γ δ:Type}[Rp α][Rp β][Rp γ][Rp δ](m:A->Option (T4 (List α) (List β) (List γ) (List δ))):Sp:=fun vs H Q _ =>
 ∃ G a r,Same G H/\RpA.rel K G vs a/\m a=some r/\∀ v x y z u G2 H2,Ext G H G2 H2->Rp.rel K G2 v r->NewT K H G2 v (n4 r x y z u)->Q v H2
theorem spM4_len {A:Type}[RpA A]{m:A->Option (T4 (List α) (List β) (List γ) (List δ))}{vs:List V}{H:Hp}{Q:VK}{E:XK}(h:spM4 K m vs H Q E):vs.length=RpA.n A:=by
 obtain ⟨G,a,r,_,h,_⟩:=h;exact RpA.len h
theorem HR {A0:Type}[Rp A0]{t0:TE}{m0:Option A0}{m:A0 × Unit->Option (T4 (List α) (List β) (List γ) (List δ))}(e0:EV K t0 σ G m0):EV4 K (Fg (spM4 K m) [] E0 (AS t0 BS)) σ G B (m0.bind fun a0=>m (a0,())):=by
 intro G1 s1 c hc H sH sB Q k;obtain ⟨a0,ha0,hc⟩:=qaA.mp hc;refine e0 G1 s1 a0 ha0 H sH _ fun v0 G2 H2 x0 r0=>?_;exact ⟨G2,_,c,x0.gh,⟨v0,_,rfl,r0,rfl⟩,hc,fun v x y z u G9 H9 x9 r n=>k v x y z u G9 H9 (x0.trans x9) r (n.base (sB.trans x0.hh))⟩
theorem sv_setNB {m:Option (List α)}{a:List α}(e:EVB K H te σ G m)(hm:m=some a)(s:Same G H)(k:∀ v G2 H2,Ext G H G2 H2->Rp.rel K G2 v a->New1 H G2 v a.length->rest D (σ.set i (some v)) H2):Dc (HG te (De i)) rest D σ H:=e G (.refl G) a hm H s (.refl H) _ k
theorem sv_set4 {m:Option (T4 (List α) (List β) (List γ) (List δ))}{a:T4 (List α) (List β) (List γ) (List δ)}(e:EV4 K te σ G H m)(hm:m=some a)(s:Same G H)(k:∀ v x y z u G2 H2,Ext G H G2 H2->Rp.rel K G2 v a->NewT K H G2 v (n4 a x y z u)->rest D (σ.set i (some v)) H2):Dc (HG te (De i)) rest D σ H:=e G (.refl G) a hm H s (.refl H) _ k
theorem sv_retB4 {m:Option (T4 (List α) (List β) (List γ) (List δ))}{a:T4 (List α) (List β) (List γ) (List δ)}(e:EV4 K te σ G B m)(hm:m=some a)(s:Same G H)(sB:Same B H)(k:∀ v x y z u G2 H2,Ext G H G2 H2->Rp.rel K G2 v a->NewT K B G2 v (n4 a x y z u)->D.rt v H2):Dc (tRet te) rest D σ H:=e G (.refl G) a hm H s sB _ k
theorem sv_setP2 {m:Option (List α × List β)}{a:List α × List β}(e:NV K te σ G m)(hm:m=some a)(s:Same G H)(k:∀ v x y G2 H2,Ext G H G2 H2->Rp.rel K G2 v a->NewT K H G2 v [(x,a.1.length),(y,a.2.length)]->rest D (σ.set i (some v)) H2):Dc (HG te (De i)) rest D σ H:=by
 refine e G (.refl G) a hm H s _ fun v p q vs ws G2 H2 x h1 h2 o=>?_;obtain ⟨t,rfl,ht⟩:=o.t;have hq:two G2 p q vs ws q=some (.lst ws):=AM
 have hp:two G2 p q vs ws p=some (.lst vs):=by
  unfold two;rw [Ak o.ne];exact AM
 refine k _ (.ref p) (.ref q) _ H2 (o.frz x h1 h2) o.tell ⟨t,rfl,SqT.of (o.up _ _ ht),fun u hu=>?_⟩;rcases qmA.mp hu with rfl|hu
 ·exact ⟨p,vs,rfl,h1,hp,Paired.length o.o1.p⟩
 rcases qmA.mp hu with rfl|hu
 ·exact ⟨q,ws,rfl,h2,hq,Paired.length o.o2.p⟩
 ·cases hu
theorem fv_listZ {la:Option (List α)}{lb:Option (List β)}(ea:EV K ta σ G la)(eb:EV K tb σ G lb):FV K (tListZ K (AS ta (AS tb BS))) σ G (la.bind fun a=>lb.bind fun b=>zipO a b):=by
 clear 7;obtain ⟨a,ha,hc⟩:=qaA.mp hc;obtain ⟨b,hb,hc⟩:=qaA.mp hc;obtain ⟨hl,rfl⟩:=BI hc;clear 8 ea a ha;refine eb G2 (s1.trans x2.gg) b hb H2 x2.gh _ fun u G3 H3 x3 r3=>?_;obtain ⟨l,xs,rfl,h,z,p⟩:=Rp.mono x3.gg r2;obtain ⟨t,ys,rfl,h',z',p'⟩:=r3;have hx:xs.length=a.length:=CH p;have hy:ys.length=b.length:=CH p';refine ⟨l,t,xs,ys,rfl,.inl (x3.gh.rd h),.inl (x3.gh.rd h'),by rw [hx,hy];exact hl.1,by rw [hx];exact hl.2,fun ts q nd hq hn htl=>?_⟩;have ht:∀ t∈ts,H3 t=none:=fun t' h=>hn t' (qqA _ h);have x4:=JQ (ps:=xs.zip ys) x3.gh nd ht;have hq4:upT H3 ts (xs.zip ys) q=none:=by rw [Iz hq];exact hn q qpA
 have x5:=Ext.own (o:=.lst (ts.map V.ref)) x4.gh hq4;have y:=(x2.trans x3).trans x4;refine k _ _ _ _ (y.trans x5) (y.hh.free hq4) (x4.gh.free hq4) AM ?_ (LP nd (fun t' h=>x3.gh.free (ht t' h)) htl p p' (by rw [hx,hy];exact hl.1));rw [qeA,htl];exact z
structure Spl (K:FZ9)(B H:Hp)(n:Nat)(v:V)(vs:List V):Prop where
 t:∃ t,v = .ref t/\SqT K H t vs
 l:∀ u∈vs,∃ l xs,u = .ref l/\B l=none/\H l=some (.lst xs)/\xs.length+n<=sizeLine
theorem Spl.same {H':Hp}{n:Nat}{vs:List V}(S:Spl K B H n v vs)(s:Same H H'):Spl K B H' n v vs:=by
 obtain ⟨⟨t,e,h⟩,l⟩:=S;refine ⟨⟨t,e,s.tup h⟩,fun u m=>?_⟩;obtain ⟨l,xs,e,b,g,z⟩:=l u m;exact ⟨l,xs,e,b,s _ _ g,z⟩
theorem Spl.upd {n:Nat}{vs:List V}{l:Addr}{xs ys:List V}(S:Spl K B H (n+1) v vs)(g:H l=some (.lst xs))(z:ys.length+n<=sizeLine):Spl K B (upd H l (.lst ys)) n v vs:=by
 obtain ⟨⟨t,e,h⟩,q⟩:=S;refine ⟨⟨t,e,?_⟩,fun u m=>?_⟩
 ·rcases h with (h | ⟨o,h⟩)|h
  ·refine .inl (.inl ?_);rw [Ak (fun z=>by rw [z,g] at h;cases h)];exact h
  ·refine .inl (.inr ⟨o,?_⟩);rw [Ak (fun z=>by rw [z,g] at h;cases h)];exact h
  ·exact .inr h
 ·obtain ⟨l',xs',e,b,g',z'⟩:=q u m;by_cases hl:l'=l
  ·subst hl;exact ⟨l',ys,e,b,AM,z⟩
  ·exact ⟨l',xs',e,b,by rw [Ak hl];exact g',by omega⟩
theorem spl_of {n:Nat}{vs:List (V × Nat)}(N:NewT K B G v vs)(s:Same G H)(hz:∀ u∈vs,u.2+n<=sizeLine):Spl K B H n v (vs.map (·.1)):=by
 obtain ⟨t,e,h,q⟩:=N;refine ⟨⟨t,e,s.tup h⟩,fun u m=>?_⟩;obtain ⟨p,hp,rfl⟩:=qnA.mp m;obtain ⟨l,xs,e,b,g,z⟩:=q p hp;exact ⟨l,xs,e,b,s _ _ g,by rw [z];exact hz p hp⟩
theorem CD {j:Int}{n:Nat}{vs ws:List V}{w x:V}(hσ:σ[i]? = some (some v))(S:Spl K B H (n+1) v vs)(S':Spl K B H (n+1) w ws)(hj:atI vs j=some x)(hB:Same B H)
  (ha:∀ Q:VK,(∀ u H2,Same H H2->Q u H2)->te σ H Q)
  (k:∀ H2,Spl K B H2 n v vs->Spl K B H2 n w ws->Same B H2->rest D σ H2):Dc (Ky (tBM K "list" Gd (tOp (rAt K) (Ii i) (tC (.int j))) (AS te BS))) rest D σ H:=by
 obtain ⟨⟨t,rfl,h⟩,q⟩:=id S
 have hx:x∈vs:=by
  obtain ⟨_,_,e,_⟩:=Fp hj;exact qsA e
 obtain ⟨l,xs,rfl,b,g,z⟩:=q x hx;refine ⟨_,hσ,.inr ⟨vs,_,h,hj,.inl ⟨rfl,_,SqL.of g⟩,ha _ fun u H2 s=>?_⟩⟩;have g2:=s _ _ g;refine ⟨l,xs,u,rfl,rfl,g2,by omega,?_⟩;have z2:(xs++[u]).length+n<=sizeLine:=by rw [qfA,qhA];omega
 exact k _ ((S.same s).upd g2 z2) ((S'.same s).upd g2 z2) ((hB.trans s).put b)
theorem Jz {j:Int}{n:Nat}{vs ws:List V}{w x:V}(hσ:σ[i]? = some (some v))(S:Spl K B H (n+1) v vs)(S':Spl K B H (n+1) w ws)(hj:atI vs j=some x)(hB:Same B H)
  (k:∀ H2,Spl K B H2 n v vs->Spl K B H2 n w ws->Same B H2->rest D σ H2):Dc (Ky (tBM0 K "list" rClear (tOp (rAt K) (Ii i) (tC (.int j))))) rest D σ H:=by
 obtain ⟨⟨t,rfl,h⟩,q⟩:=id S
 have hx:x∈vs:=by
  obtain ⟨_,_,e,_⟩:=Fp hj;exact qsA e
 obtain ⟨l,xs,rfl,b,g,z⟩:=q x hx;refine ⟨_,hσ,.inr ⟨vs,_,h,hj,.inl ⟨rfl,_,SqL.of g⟩,l,xs,rfl,rfl,g,?_⟩⟩;have z2:([]:List V).length+n<=sizeLine:=by show 0+n<=_;omega
 exact k _ (S.upd g z2) (S'.upd g z2) (hB.put b)
def okS {ε ζ:Type}(f:T4 (List α) (List β) (List γ) (List δ))(s:List ε × List ζ):Option Unit :=
 if f.a.length+9<=sizeLine/\f.b.length+9<=sizeLine/\f.c.length+9<=sizeLine/\f.d.length+9<=sizeLine/\s.1.length+9<=sizeLine/\s.2.length+9<=sizeLine then some () else none
theorem Kx {ε ζ:Type}{f:T4 (List α) (List β) (List γ) (List δ)}{s:List ε × List ζ}(h:okS f s=some ()){x y z u p q w:V}(N:NewT K B G v (n4 f x y z u))(M:NewT K B G w [(p,s.1.length),(q,s.2.length)])(e:Same G H):Spl K B H 9 v [x,y,z,u]/\Spl K B H 9 w [p,q]:=by
 unfold okS at h;split at h
 case isFalse=>cases h
 rename_i c;refine ⟨spl_of N e fun u hu=>?_,spl_of M e fun u hu=>?_⟩
 ·unfold n4 at hu;simp only [qmA,qpB,or_false] at hu;rcases hu with rfl|rfl|rfl|rfl
  ·exact c.1
  ·exact c.2.1
  ·exact c.2.2.1
  ·exact c.2.2.2.1
 ·simp only [qmA,qpB,or_false] at hu;rcases hu with rfl|rfl
  ·exact c.2.2.2.2.1
  ·exact c.2.2.2.2.2
theorem Ext.spoil {G0 H0 G1 H1 H2:Hp}(x:Ext G0 H0 G1 H1)(s:Same H1 H2):Ext G0 H0 G1 H2:=⟨x.gg,x.gh.trans s,x.hh.trans s,x.no⟩
end
end L2
namespace My
open PySem PySem.Spec PyProof.Rows L2
def Bk (AJ:Int):Option (List Str) :=
 (some ("abcdefghijklmnopqrstuvwxyz" : Str)).bind fun row_ =>
 (some [AJ,((AJ+(1:Int))+((AJ / (26:Int)) % (8:Int))),((AJ+(9:Int))+((AJ / (208:Int)) % (8:Int))),((AJ+(17:Int))+((AJ / (1664:Int)) % (9:Int)))]).bind fun Ey =>
 ((some Ey).bind fun t19=>Ck (fun (at_:Int)=>((some row_).bind fun t17=>(some (at_ % (26:Int))).bind fun t18=>(atI t17.cps.toList t18).bind fun z=>some (⟨#[z]⟩:Str))) t19)
abbrev ER (x:Int × Unit):Option (List Str):=Bk x.1
def AV (script_:Scr)(k_:Int):Option Int :=
 (some (decide (k_<(script_.l.length:Int)))).bind fun b1=>cond b1
  (((some script_).bind fun t6=>(some k_).bind fun t7=>atI t6.l t7))
  ((some ((k_ * (7919:Int))+(5:Int))).bind fun Bc =>
  (some (decide ((0:Int)<(script_.l.length:Int)))).bind fun b19=>(cond b19
   ((((((some script_).bind fun t32=>((some (k_ * (7:Int))).bind fun t30=>(some (script_.l.length:Int)).bind fun t31=>GZ t30 t31).bind fun t33=>atI t32.l t33).bind fun t34=>(some (t34 * (48271:Int)))).bind fun t35=>(some (t35+(k_ * (7919:Int))))).bind fun t36=>(some (t36 % (2147483647:Int)))).bind fun Bc =>
   some Bc)
   (some Bc)).bind fun s24 =>
  (((some s24).bind fun t46=>(some s24).bind fun t47=>Hn t46 t47).bind fun t48=>(some (t48 % (2147483629:Int)))))
abbrev Ah (x:Scr × Int × Unit):Option Int:=AV x.1 x.2.1
def CI (Ad:(List Str))(JY:Int):Option Str :=
 (some ("" : Str)).bind fun text_ =>
 ((some Ad).bind fun t7=>L5 t7).bind fun as8=>(FI (S:=(Int × Str)) (ρ:=Str) (fun (letter_:Str) s15 =>
   (some (decide ((s15.1 % (2:Int))=(1:Int)))).bind fun b32=>(cond b32
    (((some s15.2).bind fun t43=>(some letter_).bind fun t44=>catS t43 t44).bind fun text_ =>
    some text_)
    (some s15.2)).bind fun s37 =>
   (some (s15.1 / (2:Int))).bind fun JY =>
   some (Fl.nx (JY,s37))) as8 (JY,text_)).bind fun fl10=>match fl10 with
  | .nx s15 =>
   (some s15.2)
  | .rt r=>some r
  | .bk _=>none
abbrev FJ (x:(List Str) × Int × Unit):Option Str:=CI x.1 x.2.1
def BL (script_:Scr)(at_:Int)(BN:Int)(Ad:(List Str)):Option (List Str) :=
 (some ([]:List Str)).bind fun F3 =>
 ((some BN).bind fun t9=>Fe 0 t9).bind fun as10=>(FI (S:=((List Str))) (ρ:=(List Str)) (fun (k_:Int) s17 =>
   ((some script_).bind fun t31=>(some (at_+k_)).bind fun t32=>AV t31 t32).bind fun AJ =>
   ((some Ad).bind fun t39=>(some (AJ % (16:Int))).bind fun t40=>CI t39 t40).bind fun a41=>(GP s17 a41).bind fun z49 =>
   (some (decide (((AJ / (16:Int)) % (9:Int))=(4:Int)))).bind fun b50=>cond b50
    ((some ("abcdefghijklmnopqrstuvwxyz" : Str)).bind fun a55=>(some (-(1:Int))).bind fun k57=>(setO z49 k57 a55).bind fun z66 =>
    some (Fl.nx z66))
    (some (Fl.nx z49))) as10 F3).bind fun fl12=>match fl12 with
  | .nx s17 =>
   (some s17)
  | .rt r=>some r
  | .bk _=>none
abbrev DE (x:Scr × Int × Int × (List Str) × Unit):Option (List Str):=BL x.1 x.2.1 x.2.2.1 x.2.2.2.1
def BG (Fd:(List Int))(Dr:Int):Option (List (Int × Int)) :=
 ((some Fd).bind fun t3=>((some (Cm Fd (some (1:Int)) none)).bind fun t1=>(some [Dr]).bind fun t2=>KN t1 t2).bind fun t4=>zipO t3 t4)
abbrev CS (x:(List Int) × Int × Unit):Option (List (Int × Int)):=BG x.1 x.2.1
def BD (run_:((List Str) × (List Str))):Option (T4 (List Str) (List (Int × Int)) (List Int) (List (List Int))) :=
 ((some run_.1).bind fun t1=>(some run_.2).bind fun t2=>KN t1 t2).bind fun lit_ =>
 ((((some (lit_.length:Int)).bind fun t9=>Fe 0 t9).bind fun t10=>(some (run_.1.length:Int)).bind fun t11=>BG t10 t11).bind fun t12=>(some (T4.mk lit_ t12 [(0:Int)] ([]:List (List Int)))))
abbrev Ca (x:((List Str) × (List Str)) × Unit):Option (T4 (List Str) (List (Int × Int)) (List Int) (List (List Int))):=BD x.1
def BZ (machine_:(T4 (List Str) (List (Int × Int)) (List Int) (List (List Int))))(stem_:(List Int))(ring_:(List Int)):Option ((List Str) × (List Str)) :=
 (some machine_.a).bind fun lit_ =>
 (((some stem_).bind fun t13=>Ck (fun (EB:Int)=>((some lit_).bind fun t11=>(some EB).bind fun t12=>atI t11 t12)) t13).bind fun t21=>((some ring_).bind fun t20=>Ck (fun (EB:Int)=>((some lit_).bind fun t18=>(some EB).bind fun t19=>atI t18 t19)) t20).bind fun t22=>(some (t21,t22)))
abbrev E8 (x:(T4 (List Str) (List (Int × Int)) (List Int) (List (List Int))) × (List Int) × (List Int) × Unit):Option ((List Str) × (List Str)):=BZ x.1 x.2.1 x.2.2.1
def Bv (AJ:Int):Option Int :=
 (some (decide (((AJ / (8:Int)) % (4:Int))=(3:Int)))).bind fun b1=>cond b1
  ((some ((1:Int)+(AJ % (8:Int)))))
  ((some ((1:Int)+(AJ % (4:Int)))))
abbrev F7 (x:Int × Unit):Option Int:=Bv x.1
def BK (AJ:Int)(Dk:Int):Option (List Int) :=
 (some ([]:List Int)).bind fun FT =>
 ((some Dk).bind fun t9=>Fe 0 t9).bind fun as10=>(FI (S:=(Int × (List Int))) (ρ:=(List Int)) (fun (k_:Int) s17 =>
   (some (decide ((s17.1 % (2:Int))=(1:Int)))).bind fun b32=>(cond b32
    ((some k_).bind fun a41=>(GP s17.2 a41).bind fun z49 =>
    some z49)
    (some s17.2)).bind fun s37 =>
   (some (s17.1 / (2:Int))).bind fun AJ =>
   some (Fl.nx (AJ,s37))) as10 (AJ,FT)).bind fun fl12=>match fl12 with
  | .nx s17 =>
   (some s17.2)
  | .rt r=>some r
  | .bk _=>none
abbrev DP (x:Int × Int × Unit):Option (List Int):=BK x.1 x.2.1
def Bl (script_:Scr)(Ad:(List Str)):Option (T4 (List Str) (List (Int × Int)) (List Int) (List (List Int))) :=
 (((some script_).bind fun t1=>(some (1:Int)).bind fun t2=>AV t1 t2).bind fun t3=>Bv t3).bind fun Dk =>
 (some ((3:Int) * Dk)).bind fun Jr =>
 (((((some script_).bind fun t16=>(some (2:Int)).bind fun t17=>AV t16 t17).bind fun t18=>(some (t18 / (25:Int)))).bind fun t19=>(some (t19 % (4:Int)))).bind fun t20=>(some (decide (t20=(3:Int))))).bind fun b21=>(cond b21
  (((some Dk).bind fun t32=>(some Dk).bind fun t33=>Hn t32 t33).bind fun Jr =>
  some Jr)
  (some Jr)).bind fun s26 =>
 (some ([]:List (Int × Int))).bind fun ways_ =>
 ((((some script_).bind fun t51=>(some (2:Int)).bind fun t52=>AV t51 t52).bind fun t53=>(some ((if s26<(24:Int) then s26 else (24:Int))+(1:Int))).bind fun t54=>GZ t53 t54).bind fun t55=>Fe 0 t55).bind fun as56=>(FI (S:=((List (Int × Int)))) (ρ:=(T4 (List Str) (List (Int × Int)) (List Int) (List (List Int)))) (fun (k_:Int) s63 =>
   ((some script_).bind fun t78=>(some ((8:Int)+k_)).bind fun t79=>AV t78 t79).bind fun AJ =>
   (((some (AJ / (9:Int))).bind fun t86=>(some Dk).bind fun t87=>GZ t86 t87).bind fun t90=>((some AJ).bind fun t88=>(some Dk).bind fun t89=>GZ t88 t89).bind fun t91=>(some (t90,t91))).bind fun way_ =>
   (some (decide (k_<Dk))).bind fun b98=>(cond b98
    (((some k_).bind fun t112=>((some AJ).bind fun t109=>(some Dk).bind fun t110=>GZ t109 t110).bind fun t113=>some (t112,t113)).bind fun way_ =>
    some way_)
    (some way_)).bind fun s103 =>
   (some (!memE s103 s63)).bind fun b123=>cond b123
    ((some s103).bind fun a128=>(GP s63 a128).bind fun z136 =>
    some (Fl.nx z136))
    (some (Fl.nx s63))) as56 ways_).bind fun fl58=>match fl58 with
  | .nx s63 =>
   (((some Dk).bind fun t143=>Fe 0 t143).bind fun t153=>Ck (fun (k_:Int)=>((some Ad).bind fun t151=>(((some script_).bind fun t148=>(some ((32:Int)+k_)).bind fun t149=>AV t148 t149).bind fun t150=>(some (t150 % (16:Int)))).bind fun t152=>CI t151 t152)) t153).bind fun IN =>
   (((some script_).bind fun t160=>(some (3:Int)).bind fun t161=>AV t160 t161).bind fun t162=>(some Dk).bind fun t163=>BK t162 t163).bind fun Ev =>
   (((((some script_).bind fun t170=>(some (3:Int)).bind fun t171=>AV t170 t171).bind fun t172=>(some (t172 / (256:Int)))).bind fun t173=>(some (t173 % (2:Int)))).bind fun t174=>(some (decide (t174=(1:Int))))).bind fun b175=>(cond b175
    (((some Ev).bind fun t186=>sortRO t186).bind fun Ev =>
    some Ev)
    (some Ev)).bind fun s180 =>
   (((((some script_).bind fun t210=>(some (4:Int)).bind fun t211=>AV t210 t211).bind fun t212=>(some (t212 % (4:Int)))).bind fun t213=>Fe 0 t213).bind fun t222=>Ck (fun (k_:Int)=>(((some script_).bind fun t218=>(some ((5:Int)+k_)).bind fun t219=>AV t218 t219).bind fun t220=>(some (s63.length:Int)).bind fun t221=>BK t220 t221)) t222).bind fun marks_ =>
   (some (T4.mk IN s63 s180 marks_))
  | .rt r=>some r
  | .bk _=>none
abbrev Eh (x:Scr × (List Str) × Unit):Option (T4 (List Str) (List (Int × Int)) (List Int) (List (List Int))):=Bl x.1 x.2.1
def BU (script_:Scr)(machine_here_:(T4 (List Str) (List (Int × Int)) (List Int) (List (List Int))))(at_:Int):Option ((List Int) × (List Int)) :=
 (some [(0:Int)]).bind fun CU =>
 (some (!decide (machine_here_.c=([]:List Int)))).bind fun b9=>(cond b9
  ((((some machine_here_.c).bind fun t24=>(((some script_).bind fun t20=>(some at_).bind fun t21=>AV t20 t21).bind fun t22=>(some (machine_here_.c.length:Int)).bind fun t23=>GZ t22 t23).bind fun t25=>atI t24 t25).bind fun t26=>(some [t26])).bind fun CU =>
  some CU)
  (some CU)).bind fun s14 =>
 ((some (14:Int)).bind fun t42=>Fe 0 t42).bind fun as43=>(FI (S:=((List Int))) (ρ:=((List Int) × (List Int))) (fun (k_:Int) s50 =>
   ((some machine_here_.b).bind fun t85=>Dm (fun (way_:(Int × Int))=>((some way_.1).bind fun t83=>((some s50).bind fun t81=>(some (-(1:Int))).bind fun t82=>atI t81 t82).bind fun t84=>some (decide (t83=t84)))) (fun (way_:(Int × Int))=>(some way_.2)) t85).bind fun outs_ =>
   (some (!decide (outs_=([]:List Int)))).bind fun b92=>cond b92
    (((some outs_).bind fun t102=>((((some script_).bind fun t97=>(some (at_+k_)).bind fun t98=>AV t97 t98).bind fun t99=>(some (t99 / (7:Int)))).bind fun t100=>(some (outs_.length:Int)).bind fun t101=>GZ t100 t101).bind fun t103=>atI t102 t103).bind fun a104=>(GP s50 a104).bind fun z112 =>
    some (Fl.nx z112))
    (some (Fl.nx s50))) as43 s14).bind fun fl45=>match fl45 with
  | .nx s50 =>
   (some ((s50.length:Int) - (1:Int))).bind fun Eb =>
   (FO (S:=(Int)) (ρ:=((List Int) × (List Int))) (fun s127=>((some (decide ((0:Int)<s127))).bind fun t136=>cond t136 (((some s50).bind fun t133=>(some s127).bind fun t134=>atI t133 t134).bind fun t135=>(some (!decide (t135∈(Cm s50 none (some s127)))))) (some false))) (fun s127 =>
     (some (s127 - (1:Int))).bind fun Eb =>
     some (Fl.nx Eb)) L7 Eb).bind fun fl125=>match fl125 with
    | .nx s127 =>
     ((some s50).bind fun t160=>((some s50).bind fun t158=>(some s127).bind fun t159=>atI t158 t159).bind fun t161=>idxZ t160 t161).bind fun KF =>
     (some ((Cm s50 none (some KF)),(Cm s50 (some KF) (some s127))))
    | .rt r=>some r
    | .bk _=>none
  | .rt r=>some r
  | .bk _=>none
abbrev EN (x:Scr × (T4 (List Str) (List (Int × Int)) (List Int) (List (List Int))) × Int × Unit):Option ((List Int) × (List Int)):=BU x.1 x.2.1 x.2.2.1
def Dg (ways_:(List (Int × Int)))(EO:(List Int))(Kd:(List (Int × Int))):Option Bool :=
 (((some EO).bind fun t8=>Ck (fun (Bc:Int)=>(((some ways_).bind fun t5=>(some Bc).bind fun t6=>atI t5 t6).bind fun t7=>(some (memE t7 Kd)))) t8).bind fun t9=>(some (t9.any id)))
abbrev Gi (x:(List (Int × Int)) × (List Int) × (List (Int × Int)) × Unit):Option Bool:=Dg x.1 x.2.1 x.2.2.1
def CG (machine_:(T4 (List Str) (List (Int × Int)) (List Int) (List (List Int))))(stem_:(List Int))(ring_:(List Int)):Option Bool :=
 (some machine_.b).bind fun ways_ =>
 ((some (decide ((ring_.length:Int)=(0:Int)))).bind fun t12=>cond t12 (some true) ((((some stem_).bind fun t7=>(some ring_).bind fun t8=>KN t7 t8).bind fun t9=>(some (0:Int)).bind fun t10=>atI t9 t10).bind fun t11=>(some (!decide (t11∈machine_.c))))).bind fun b13=>cond b13
  ((some false))
  (((((((some stem_).bind fun t23=>(some ring_).bind fun t24=>KN t23 t24).bind fun t27=>((some ring_).bind fun t25=>(some (0:Int)).bind fun t26=>atI t25 t26).bind fun t28=>BG t27 t28).bind fun t33=>Ck (fun (Ks:(Int × Int))=>(some (memE Ks ways_))) t33).bind fun t34=>(some (t34.all id))).bind fun t35=>(some (!t35))).bind fun b36=>cond b36
   ((some false))
   (((some ring_).bind fun t48=>((some ring_).bind fun t46=>(some (0:Int)).bind fun t47=>atI t46 t47).bind fun t49=>BG t48 t49).bind fun Ik =>
   (((some machine_.d).bind fun t63=>Ck (fun (EO:(List Int))=>((some ways_).bind fun t60=>(some EO).bind fun t61=>(some Ik).bind fun t62=>Dg t60 t61 t62)) t63).bind fun t64=>(some (t64.all id)))))
abbrev HW (x:(T4 (List Str) (List (Int × Int)) (List Int) (List (List Int))) × (List Int) × (List Int) × Unit):Option Bool:=CG x.1 x.2.1 x.2.2.1
def Bs (self_:D->D->Option Bool)(found_:D)(due_:D):Option Bool :=
 ((some (!(isK "list" found_))).bind fun t6=>cond t6 (some true) (((some found_).bind fun t1=>lenD t1).bind fun t4=>((some due_).bind fun t3=>lenD t3).bind fun t5=>(some (!decide (t4=t5))))).bind fun b7=>cond b7
  ((some false))
  ((((some due_).bind fun t17=>lenD t17).bind fun t18=>Fe 0 t18).bind fun as19=>(FI (S:=Unit) (ρ:=Bool) (fun (k_:Int) s26 =>
    (((some due_).bind fun t39=>(some k_).bind fun t40=>atD t39 t40).bind fun t41=>(some (isK "tuple" t41))).bind fun b42=>cond b42
     ((((((some found_).bind fun t47=>(some k_).bind fun t48=>atD t47 t48).bind fun t49=>(some (isK "tuple" t49))).bind fun t50=>(some (!t50))).bind fun t64=>cond t64 (some true) (((((((some found_).bind fun t51=>(some k_).bind fun t52=>atD t51 t52).bind fun t53=>Iv t53).bind fun t54=>(some t54.l)).bind fun t55=>(some (ToD.to t55))).bind fun t61=>(((((some due_).bind fun t56=>(some k_).bind fun t57=>atD t56 t57).bind fun t58=>Iv t58).bind fun t59=>(some t59.l)).bind fun t60=>(some (ToD.to t60))).bind fun t62=>self_ t61 t62).bind fun t63=>(some (!t63)))).bind fun b65=>cond b65
      ((some false).bind fun rr75=>some (Fl.rt rr75))
      (some (Fl.nx ())))
     (((((some found_).bind fun t77=>(some k_).bind fun t78=>atD t77 t78).bind fun t79=>(some (isK "bool" t79))).bind fun t91=>cond t91 (some true) ((((some found_).bind fun t80=>(some k_).bind fun t81=>atD t80 t81).bind fun t82=>(some (isK "str" t82))).bind fun t89=>(((some due_).bind fun t86=>(some k_).bind fun t87=>atD t86 t87).bind fun t88=>(some (isK "str" t88))).bind fun t90=>(some (!decide (t89=t90))))).bind fun b92=>cond b92
      ((some false).bind fun rr102=>some (Fl.rt rr102))
      (((((some found_).bind fun t110=>(some k_).bind fun t111=>atD t110 t111).bind fun t112=>asSI t112).bind fun t116=>(((some due_).bind fun t113=>(some k_).bind fun t114=>atD t113 t114).bind fun t115=>asSI t115).bind fun t117=>(some (!decide (t116=t117)))).bind fun b118=>cond b118
       ((some false).bind fun rr128=>some (Fl.rt rr128))
       (some (Fl.nx ()))))) as19 ()).bind fun fl21=>match fl21 with
   | .nx s26 =>
    (some true)
   | .rt r=>some r
   | .bk _=>none)
def Aj:Nat->D->D->Option Bool
 | 0=>fun _ _=>none
 | n+1=>fun found_ due_=>Bs (Aj n) found_ due_
abbrev Am (GQ:Nat)(x:D × D × Unit):Option Bool:=Aj GQ x.1 x.2.1
def B8 (found_:(T4 (List Str) (List (Int × Int)) (List Int) (List (List Int))))(stem_:(List Str))(ring_:(List Str)):Option Bool :=
 (some ((stem_.length:Int)+(ring_.length:Int))).bind fun BN =>
 (some ((!true) || (!decide ((4:Int)=(4:Int))))).bind fun b7=>cond b7
  ((some false))
  ((some ([]:List (Int × Int))).bind fun ways_ =>
  ((some (1:Int)).bind fun t25=>(some BN).bind fun t26=>Fe t25 t26).bind fun as27=>(FI (S:=((List (Int × Int)))) (ρ:=Bool) (fun (k_:Int) s34 =>
    (some ((k_ - (1:Int)),k_)).bind fun a47=>(GP s34 a47).bind fun z55 =>
    some (Fl.nx z55)) as27 ways_).bind fun fl29=>match fl29 with
   | .nx s34 =>
    (some ((BN - (1:Int)),(stem_.length:Int))).bind fun a60=>(GP s34 a60).bind fun z68 =>
    ((((some (ToD.to found_.a)).bind fun t83=>(((some stem_).bind fun t80=>(some ring_).bind fun t81=>KN t80 t81).bind fun t82=>(some (ToD.to t82))).bind fun t84=>Aj 3 t83 t84).bind fun t85=>(some (!t85))).bind fun t89=>cond t89 (some true) (((some (ToD.to found_.b)).bind fun t86=>(some (ToD.to z68)).bind fun t87=>Aj 3 t86 t87).bind fun t88=>(some (!t88)))).bind fun b90=>cond b90
     ((some false))
     ((((some (ToD.to found_.c)).bind fun t100=>(some (ToD.to [(ToD.to (0:Int))])).bind fun t101=>Aj 3 t100 t101).bind fun t104=>cond t104 ((some (ToD.to found_.d)).bind fun t102=>(some (ToD.to ([]:List D))).bind fun t103=>Aj 3 t102 t103) (some false)))
   | .rt r=>some r
   | .bk _=>none)
abbrev C4 (x:(T4 (List Str) (List (Int × Int)) (List Int) (List (List Int))) × (List Str) × (List Str) × Unit):Option Bool:=B8 x.1 x.2.1 x.2.2.1
def Ay (thing_:Int)(BN:Int):Option Bool :=
 ((some true).bind fun t6=>cond t6 ((some (!false)).bind fun t5=>cond t5 ((some (0:Int)).bind fun t2=>(some thing_).bind fun t3=>cond (decide (t2<=t3)) ((some BN).bind fun t4=>some (decide (t3<t4))) (some false)) (some false)) (some false))
abbrev Bd (x:Int × Int × Unit):Option Bool:=Ay x.1 x.2.1
def Au (thing_:(List Int))(BN:Int):Option Bool :=
 ((some (!true)).bind fun t10=>cond t10 (some true) ((((some thing_).bind fun t7=>Ck (fun (Bc:Int)=>((some Bc).bind fun t5=>(some BN).bind fun t6=>Ay t5 t6)) t7).bind fun t8=>(some (t8.all id))).bind fun t9=>(some (!t9)))).bind fun b11=>cond b11
  ((some false))
  ((((some thing_).bind fun t21=>LI t21).bind fun t22=>(some (decide (t22=(thing_.length:Int))))))
abbrev Bz (x:(List Int) × Int × Unit):Option Bool:=Au x.1 x.2.1
def Cg (thing_:(List (List Int)))(many_ways_:Int):Option Bool :=
 (some ((!true) || (decide ((3:Int)<(thing_.length:Int))))).bind fun b1=>cond b1
  ((some false))
  ((((some thing_).bind fun t17=>Ck (fun (EO:(List Int))=>((some EO).bind fun t15=>(some many_ways_).bind fun t16=>Au t15 t16)) t17).bind fun t18=>(some (t18.all id))))
abbrev Fo (x:(List (List Int)) × Int × Unit):Option Bool:=Cg x.1 x.2.1
def Bt (thing_:Str):Option Bool :=
 (some (!true)).bind fun b1=>cond b1
  ((some false))
  ((some ("" : Str)).bind fun Eb =>
  (some (Hd thing_)).bind fun as17=>(FI (S:=(Str)) (ρ:=Bool) (fun (lamp_:Str) s24 =>
    (some ((decide (lamp_.cps.toList<("a" : Str).cps.toList)) || ((decide (("z" : Str).cps.toList<lamp_.cps.toList)) || (!decide (s24.cps.toList<lamp_.cps.toList))))).bind fun b39=>cond b39
     ((some false).bind fun rr49=>some (Fl.rt rr49))
     ((some lamp_).bind fun Eb =>
     some (Fl.nx Eb))) as17 Eb).bind fun fl19=>match fl19 with
   | .nx s24 =>
    (some true)
   | .rt r=>some r
   | .bk _=>none)
abbrev Fn (x:Str × Unit):Option Bool:=Bt x.1
def Bj (thing_:(List Str)):Option Bool :=
 (some ((!true) || ((decide ((thing_.length:Int)=(0:Int))) || (decide ((8:Int)<(thing_.length:Int)))))).bind fun b1=>cond b1
  ((some false))
  ((((some thing_).bind fun t16=>Ck (fun (Gg:Str)=>((some Gg).bind fun t15=>Bt t15)) t16).bind fun t17=>(some (t17.all id))))
abbrev Ee (x:(List Str) × Unit):Option Bool:=Bj x.1
def ET (thing_:(Int × Int))(BN:Int):Option Bool :=
 (some ((!true) || (!decide ((2:Int)=(2:Int))))).bind fun b1=>cond b1
  ((some false))
  ((((some thing_.1).bind fun t11=>(some BN).bind fun t12=>Ay t11 t12).bind fun t15=>cond t15 ((some thing_.2).bind fun t13=>(some BN).bind fun t14=>Ay t13 t14) (some false)))
abbrev IY (x:(Int × Int) × Int × Unit):Option Bool:=ET x.1 x.2.1
def DF (thing_:(List (Int × Int)))(BN:Int):Option Bool :=
 (some ((!true) || (decide ((24:Int)<(thing_.length:Int))))).bind fun b1=>cond b1
  ((some false))
  (((((some thing_).bind fun t17=>Ck (fun (way_:(Int × Int))=>((some way_).bind fun t15=>(some BN).bind fun t16=>ET t15 t16)) t17).bind fun t18=>(some (t18.all id))).bind fun t21=>cond t21 (((some thing_).bind fun t19=>Jw t19).bind fun t20=>(some (decide (t20=(thing_.length:Int))))) (some false)))
abbrev GS (x:(List (Int × Int)) × Int × Unit):Option Bool:=DF x.1 x.2.1
def Bx (thing_:(T4 (List Str) (List (Int × Int)) (List Int) (List (List Int)))):Option Bool :=
 (some ((!true) || (!decide ((4:Int)=(4:Int))))).bind fun b1=>cond b1
  ((some false))
  ((some thing_.a).bind fun lit_ =>
  (some thing_.b).bind fun ways_ =>
  ((((some lit_).bind fun t23=>Bj t23).bind fun t24=>(some (!t24))).bind fun t28=>cond t28 (some true) (((some ways_).bind fun t25=>(some (lit_.length:Int)).bind fun t26=>DF t25 t26).bind fun t27=>(some (!t27)))).bind fun b29=>cond b29
   ((some false))
   ((((some thing_.c).bind fun t39=>(some (lit_.length:Int)).bind fun t40=>Au t39 t40).bind fun t43=>cond t43 ((some thing_.d).bind fun t41=>(some (ways_.length:Int)).bind fun t42=>Cg t41 t42) (some false))))
abbrev F8 (x:(T4 (List Str) (List (Int × Int)) (List Int) (List (List Int))) × Unit):Option Bool:=Bx x.1
def Br (found_:((List Str) × (List Str)))(stem_:(List Str))(ring_:(List Str)):Option Bool :=
 (some ((!true) || (!decide ((2:Int)=(2:Int))))).bind fun b1=>cond b1
  ((some false))
  ((((some (ToD.to found_.1)).bind fun t11=>(some (ToD.to stem_)).bind fun t12=>Aj 3 t11 t12).bind fun t15=>cond t15 ((some (ToD.to found_.2)).bind fun t13=>(some (ToD.to ring_)).bind fun t14=>Aj 3 t13 t14) (some false)))
abbrev Dz (x:((List Str) × (List Str)) × (List Str) × (List Str) × Unit):Option Bool:=Br x.1 x.2.1 x.2.2.1
def Ja (script_:Scr):Option Bool :=
 ((((some script_).bind fun t1=>(some (0:Int)).bind fun t2=>AV t1 t2).bind fun t3=>(some (t3 % (14976:Int)))).bind fun t4=>Bk t4).bind fun Ad =>
 ((some script_).bind fun t14=>(some (42:Int)).bind fun t15=>(((some script_).bind fun t11=>(some (40:Int)).bind fun t12=>AV t11 t12).bind fun t13=>(some (t13 % (5:Int)))).bind fun t16=>(some Ad).bind fun t17=>BL t14 t15 t16 t17).bind fun stem_ =>
 ((some script_).bind fun t28=>(some (46:Int)).bind fun t29=>((((some script_).bind fun t24=>(some (41:Int)).bind fun t25=>AV t24 t25).bind fun t26=>(some (t26 % (4:Int)))).bind fun t27=>(some ((1:Int)+t27))).bind fun t30=>(some Ad).bind fun t31=>BL t28 t29 t30 t31).bind fun ring_ =>
 (some (stem_,ring_)).bind fun run_ =>
 ((some run_).bind fun t44=>BD t44).bind fun Ec =>
 ((((some Ec).bind fun t51=>(some stem_).bind fun t52=>(some ring_).bind fun t53=>B8 t51 t52 t53).bind fun t54=>(some (!t54))).bind fun t57=>cond t57 (some true) (((some Ec).bind fun t55=>Bx t55).bind fun t56=>(some (!t56)))).bind fun b58=>cond b58
  ((some false))
  ((((some ((stem_.length:Int)+(ring_.length:Int))).bind fun t68=>Fe 0 t68).bind fun t73=>Ck (fun (k_:Int)=>(some k_)) t73).bind fun Ey =>
  (some ((Cm Ey none (some (stem_.length:Int))),(Cm Ey (some (stem_.length:Int)) none))).bind fun gone_ =>
  (((some Ec).bind fun t86=>(some gone_.1).bind fun t87=>(some gone_.2).bind fun t88=>CG t86 t87 t88).bind fun t89=>(some (!t89))).bind fun b90=>cond b90
   ((some false))
   (((some Ec).bind fun t100=>(some gone_.1).bind fun t101=>(some gone_.2).bind fun t102=>BZ t100 t101 t102).bind fun JS =>
   ((((some JS).bind fun t109=>(some stem_).bind fun t110=>(some ring_).bind fun t111=>Br t109 t110 t111).bind fun t112=>(some (!t112))).bind fun t117=>cond t117 (some true) (((some Ec).bind fun t113=>(some stem_).bind fun t114=>(some ring_).bind fun t115=>B8 t113 t114 t115).bind fun t116=>(some (!t116)))).bind fun b118=>cond b118
    ((some false))
    (((some script_).bind fun t128=>(some Ad).bind fun t129=>Bl t128 t129).bind fun drawn_ =>
    (some (T4.mk drawn_.a drawn_.b drawn_.c ([]:List (List Int)))).bind fun bare_ =>
    ((some script_).bind fun t142=>(some bare_).bind fun t143=>(some (50:Int)).bind fun t144=>BU t142 t143 t144).bind fun walk_ =>
    (some ((!decide (walk_.2=([]:List Int))) && (!decide (bare_.c=([]:List Int))))).bind fun b151=>cond b151
     (((some bare_).bind fun t156=>(some walk_.1).bind fun t157=>(some walk_.2).bind fun t158=>BZ t156 t157 t158).bind fun told_ =>
     (((some told_).bind fun t179=>((some walk_.1).bind fun t171=>Ck (fun (k_:Int)=>((some bare_.a).bind fun t169=>(some k_).bind fun t170=>atI t169 t170)) t171).bind fun t180=>((some walk_.2).bind fun t178=>Ck (fun (k_:Int)=>((some bare_.a).bind fun t176=>(some k_).bind fun t177=>atI t176 t177)) t178).bind fun t181=>Br t179 t180 t181).bind fun t182=>(some (!t182))).bind fun b183=>cond b183
      ((some false))
      ((okS Ec JS).bind fun _=>(((some (decide (run_=(stem_,ring_)))).bind fun t197=>cond t197 (((some run_).bind fun t193=>BD t193).bind fun t194=>(some stem_).bind fun t195=>(some ring_).bind fun t196=>B8 t194 t195 t196) (some false)))))
     ((okS Ec JS).bind fun _=>(((some (decide (run_=(stem_,ring_)))).bind fun t207=>cond t207 (((some run_).bind fun t203=>BD t203).bind fun t204=>(some stem_).bind fun t205=>(some ring_).bind fun t206=>B8 t204 t205 t206) (some false)))))))
abbrev mm_law (x:Scr × Unit):Option Bool:=Ja x.1
def top (i:Nat):Stmt:=PySem.Challenge.pw_lassoscribe_k52_a_runs_machine.main.body.getD i (.Pass ⟨0,0,0,0⟩)
abbrev Ej:Stmt:=top 1
abbrev CQ:Stmt:=top 6
abbrev C7:Stmt:=top 7
abbrev HP:Stmt:=top 8
abbrev DY:Stmt:=top 9
abbrev FS:Stmt:=top 10
abbrev ES:Stmt:=top 11
abbrev EM:Stmt:=top 12
abbrev DR:Stmt:=top 13
abbrev GF:Stmt:=top 14
abbrev GM:Stmt:=top 15
abbrev El:Stmt:=top 16
abbrev Dt:Stmt:=top 17
abbrev FH:Stmt:=top 19
abbrev DS:Stmt:=top 20
abbrev GH:Stmt:=top 21
abbrev EG:Stmt:=top 22
abbrev Dq:Stmt:=top 23
abbrev DV:Stmt:=top 24
abbrev D7:Stmt:=top 25
abbrev Dd:Stmt:=top 26
abbrev Cz:Stmt:=top 27
abbrev Dp:Stmt:=top 28
abbrev Ef:Stmt:=top 29
abbrev s_law:Stmt:=top 30
structure Txt (mg:Str->Option Value):Prop where
 all_:mg "all" = none
 any_:mg "any" = none
 bool_:mg "bool" = none
 int_:mg "int" = none
 isinstance_:mg "isinstance" = none
 len_:mg "len" = none
 list_:mg "list" = none
 min_:mg "min" = none
 range_:mg "range" = none
 set_:mg "set" = none
 sorted_:mg "sorted" = none
 str_:mg "str" = none
 tuple_:mg "tuple" = none
 zip_:mg "zip" = none
 MOST_STATES:∃ t,mg "MOST_STATES" = some (.int 8 t)
 MOST_WAYS:∃ t,mg "MOST_WAYS" = some (.int 24 t)
 MOST_MARKS:∃ t,mg "MOST_MARKS" = some (.int 3 t)
theorem Cy:FnScope ["thing","last","lamp"] ["thing"] (AE Ej):=scm
theorem FQ:FnScope ["thing","count"] ["thing","count"] (AE CQ):=scm
theorem F1:FnScope ["thing","count"] ["thing","count"] (AE C7):=scm
theorem Lq:FnScope ["thing","count"] ["thing","count"] (AE HP):=scm
theorem HF:FnScope ["thing"] ["thing"] (AE DY):=scm
theorem KA:FnScope ["thing","count"] ["thing","count"] (AE FS):=scm
theorem JB:FnScope ["thing","many_ways"] ["thing","many_ways"] (AE ES):=scm
theorem DU:FnScope ["thing","lit","ways"] ["thing"] (AE EM):=scm
theorem Gw:FnScope ["states","following"] ["states","following"] (AE DR):=scm
theorem KL:FnScope ["ways","mark","steps"] ["ways","mark","steps"] (AE GF):=scm
theorem FM:FnScope ["machine","stem","ring","ways","around"] ["machine","stem","ring"] (AE GM):=scm
theorem Fi:FnScope ["machine","stem","ring","lit"] ["machine","stem","ring"] (AE El):=scm
theorem FA:FnScope ["run","lit"] ["run"] (AE Dt):=scm
theorem Es:FnScope ["_law_script","_law_k","_law_number"] ["_law_script","_law_k"] (AE FH):=scm
theorem DB:FnScope ["_law_cell_here","_law_row","_law_places"] ["_law_cell_here"] (AE DS):=scm
theorem D8:FnScope ["_law_letters_here","_law_bits","_law_text","_law_letter"] ["_law_letters_here","_law_bits"] (AE GH):=scm
theorem Cd:FnScope ["_law_cell_here","_law_many","_law_chosen_here","_law_k"] ["_law_cell_here","_law_many"] (AE EG):=scm
theorem Hv:FnScope ["_law_cell_here"] ["_law_cell_here"] (AE Dq):=scm
theorem Ac:FnScope ["_law_script","_law_letters_here","_law_many","_law_most","_law_ways","_law_k","_law_cell_here","_law_way","_law_lit_here","_law_starts","_law_marks"] ["_law_script","_law_letters_here"] (AE DV):=scm
theorem B0:FnScope ["_law_script","_law_machine_here","_law_at","_law_states_here","_law_k","_law_outs","_law_last","_law_begin"] ["_law_script","_law_machine_here","_law_at"] (AE D7):=scm
theorem CJ:FnScope ["_law_script","_law_at","_law_count","_law_letters_here","_law_moments_here","_law_k","_law_cell_here"] ["_law_script","_law_at","_law_count","_law_letters_here"] (AE Dd):=scm
theorem DZ:FnScope ["_law_found","_law_due","_law_k"] ["_law_found","_law_due"] (AE Cz):=scm
theorem Cc:FnScope ["_law_found","_law_stem","_law_ring","_law_count","_law_ways","_law_k"] ["_law_found","_law_stem","_law_ring"] (AE Dp):=scm
theorem JP:FnScope ["_law_found","_law_stem","_law_ring"] ["_law_found","_law_stem","_law_ring"] (AE Ef):=scm
theorem CV:FnScope ["_law_script","_law_letters_here","_law_stem","_law_ring","_law_run","_law_first","_law_places","_law_gone","_law_shown","_law_drawn","_law_bare","_law_walk","_law_told"] ["_law_script"] (AE s_law):=scm
def JC (K:FZ9):Sp:=fun vs H Q _=>∃ (a:Addr) (ns:List Int),vs=[.ref a]/\SqL K H a (ns.map V.int)/\ns.length<=63/\∀ H',Q (.bl true) H'
section
variable (P:Program)(w:World)(K:FZ9)(mg:Str->Option Value)(base:Heap)
abbrev FC:Prop:=DefOk P w K mg base "_law_letters" 1 ["_law_cell_here"] (spM K ER)
abbrev DA:Prop:=DefOk P w K mg base "_law_cell" 1 ["_law_script","_law_k"] (spM K Ah)
abbrev GE:Prop:=DefOk P w K mg base "_law_lit" 1 ["_law_letters_here","_law_bits"] (spM K FJ)
abbrev FB:Prop:=DefOk P w K mg base "_law_moments" 2 ["_law_script","_law_at","_law_count","_law_letters_here"] (spM K DE)
abbrev Da:Prop:=DefOk P w K mg base "steps_along" 1 ["states","following"] (spL K CS)
abbrev FZ:Prop:=DefOk P w K mg base "machine_of" 2 ["run"] (spM4 K Ca)
abbrev GW:Prop:=DefOk P w K mg base "lit_along" 1 ["machine","stem","ring"] (spN K E8)
abbrev Fk:Prop:=DefOk P w K mg base "_law_states" 1 ["_law_cell_here"] (spM K F7)
abbrev FW:Prop:=DefOk P w K mg base "_law_chosen" 1 ["_law_cell_here","_law_many"] (spM K DP)
abbrev F5:Prop:=DefOk P w K mg base "_law_machine" 2 ["_law_script","_law_letters_here"] (spM K Eh)
abbrev EX:Prop:=DefOk P w K mg base "_law_strolled" 2 ["_law_script","_law_machine_here","_law_at"] (spM K EN)
abbrev IT:Prop:=DefOk P w K mg base "is_gone" 1 ["ways","mark","steps"] (spM K Gi)
abbrev Hw:Prop:=DefOk P w K mg base "is_walk" 2 ["machine","stem","ring"] (spM K HW)
abbrev E5:Prop:=DefOk P w K mg base "_law_listed" 4 ["_law_found","_law_due"] (spM K (Am 3))
abbrev Fw:Prop:=DefOk P w K mg base "_law_as_due" 5 ["_law_found","_law_stem","_law_ring"] (spM K C4)
abbrev CM:Prop:=DefOk P w K mg base "is_number_below" 1 ["thing","count"] (spM K Bd)
abbrev C8:Prop:=DefOk P w K mg base "are_numbers_once" 2 ["thing","count"] (spM K Bz)
abbrev GR:Prop:=DefOk P w K mg base "are_marks" 3 ["thing","many_ways"] (spM K Fo)
abbrev GV:Prop:=DefOk P w K mg base "is_moment" 1 ["thing"] (spM K Fn)
abbrev F6:Prop:=DefOk P w K mg base "are_moments" 2 ["thing"] (spM K Ee)
abbrev KC:Prop:=DefOk P w K mg base "is_way" 2 ["thing","count"] (spM K IY)
abbrev HV:Prop:=DefOk P w K mg base "are_ways" 3 ["thing","count"] (spM K GS)
abbrev Fa:Prop:=DefOk P w K mg base "is_machine" 4 ["thing"] (spM K F8)
abbrev GO:Prop:=DefOk P w K mg base "_law_shows" 5 ["_law_found","_law_stem","_law_ring"] (spM K Dz)
end
section
variable {P:Program}{w:World}{K:FZ9}{mg:Str->Option Value}{base:Heap}
local macro_rules | `(tactic| ac_rfl) => `(tactic| first | assumption | exact Ne.symm (by assumption))
local macro_rules
 | `(tactic| clear $n:num $rs*) => do
  let hm := Lean.mkIdent `hm
  let xt := Lean.mkIdent `xt
  let q := Lean.mkIdent `q
  let rf := Lean.mkIdent `rfl
  let w : Array Lean.Ident := rs.map fun r => ⟨r.raw⟩
  match n.getNat with
  | 2 =>
   let mut ts := #[]
   for k in [0:w.size/2] do
    let a := w[2*k]!
    let b := w[2*k+1]!
    ts := ts.push (← `(tactic| refine bE $hm fun $a $b $hm => ?_))
   `(tactic| ($[$ts:tactic];*))
  | 3 => `(tactic| (replace $hm := cT $hm; refine BW ?_))
  | 4 => `(tactic| (replace $hm := cF $hm; refine BX ?_))
  | 5 => `(tactic| (rintro r' v' G' H' $rf:ident rl; cases $hm:ident; exact $q v' G' H' rl.1 rl.2))
  | 6 => let k := w[0]!; `(tactic| (rintro r' v' G' H' $rf:ident rl; cases $hm:ident; exact $k _ v' G' H' rfl rl))
  | 9 =>
   let x := w[0]!
   let ts ← (w.extract 1 w.size).mapM fun (i : Lean.Ident) => `(tactic| have $i := Rp.mono $x $i)
   `(tactic| ($[$ts:tactic];*))
  | z =>
   if z > 1 then Lean.Macro.throwUnsupported
   let x := w[0]!
   let mut m := 1
   let mut ts := #[]
   let mut hs := #[]
   for i in w.extract 1 w.size do
    if let some k := i.raw.isNatLit? then m := k
    else if m == 4 then hs := hs.push (← `(tactic| have $i := ($xt).hh.free $i))
    else ts := ts.push (← match m with
     | 1 => `(tactic| have $i := Rp.mono ($x).gg $i)
     | 2 => `(tactic| have $i := ($i).ext $x)
     | _ => `(tactic| have $i := ($i).trans ($x).gg))
   if z == 1 then hs := hs.push (← `(tactic| have $xt := ($xt).trans $x))
   let zs := hs ++ ts
   `(tactic| ($[$zs:tactic];*))
theorem HH (F:DIn K mg "_law_letters" DS)(T:Txt mg):FC P w K mg base:=by
 refine F.okM1 (m:=Bk) DB fun _ _ _ _ _ H0 _ _ hr G0 AJ res E4 xt AL hm q=>?_;unfold Bk at hm
 refine ⟨_,(A5 (AI (i:=1) DB Ea)
   (A5 (AI (i:=2) DB (Bm (A4 (pv 0) (A4 (Ag K (Ag K (pv 0) A9) (Ai B5 (Ai CT (pv 0) A9) A9)) (A4 (Ag K (Ag K (pv 0) A9) (Ai B5 (Ai CT (pv 0) A9) A9)) (A4 (Ag K (Ag K (pv 0) A9) (Ai B5 (Ai CT (pv 0) A9) A9)) A8))))))
   (A5 (AN (C5 (cn:=["_law_row"]) (cap:=[1]) rfl ⟨by decide +kernel,rfl,by decide +kernel,BP rfl⟩ rfl (by decide +kernel) ⟨⟨rfl,.inl rfl,rfl⟩,trivial⟩ (Bg (K:=K) rfl (pv 2)) (fun C s0 H0 fp=>⟨Ba,(AG K (pv 1) (Ai B5 (pv 0) A9))⟩)))
   AA))),?_⟩
 clear 2 row_ h6;refine Af (K:=K) LZ h6 xt.gh fun v1 G2 H3 x4 r5=>?_;clear 1 x4 AL;clear 2 Ey h12;refine Af (K:=K) (FV.ev (Bu (Cp (A7 AL) (Cp (Be (Be (A7 AL) Aw) (BA (CO (A7 AL)))) (Cp (Be (Be (A7 AL) Aw) (BA (CO (A7 AL)))) (Cp (Be (Be (A7 AL) Aw) (BA (CO (A7 AL)))) (Bp (α:=Int)))))))) h12 xt.gh fun v7 G8 H9 x10 r11=>?_;clear 1 x10 r5;exact AQ (K:=K) (FV.ev (C9 (cap:=[1]) (fe:=fun (at_:Int)=>((some row_).bind fun t17=>(some (at_ % (26:Int))).bind fun t18=>(atI t17.cps.toList t18).bind fun z=>some (⟨#[z]⟩:Str))) (Bo (A7 r11)) fun xc16 at_ Gc13 sc14 rc15=>(ev_atS (A7 (Rp.mono sc14 r5)) (BA (A7 rc15))))) hm xt.gh fun v20 G21 H22 x23 r24=>q v20 G21 H22 (xt.trans x23) r24
theorem Jj (F:DIn K mg "_law_cell" FH)(T:Txt mg):DA P w K mg base:=by
 refine F.okM2 (m:=AV) Es fun _ _ _ _ _ H0 _ _ hr G0 script_ k_ res Ap v_k_ xt A6 HK hm q=>?_;unfold AV at hm
 refine ⟨_,(A5 (B7 (Aa Io (pv 1) (AZ K T.len_ (pv 0)) (Ao _)) (A5 (AN (AG K (pv 0) (pv 1)))
   AA) AA)
   (A5 (AI (i:=2) Es (Ag K (Ai (EI (K:=K) rfl) (pv 1) A9) A9))
   (A5 (B7 (Aa GD (AZ K T.len_ (pv 0)) A9 (Ao _)) (A5 (AI (i:=2) Es (Ai B5 (Ag K (Ai (EI (K:=K) rfl) (AG K (pv 0) (Ai B5 (Ai (EI (K:=K) rfl) (pv 1) A9) (AZ K T.len_ (pv 0)))) A9) (Ai (EI (K:=K) rfl) (pv 1) A9)) A9))
   AA) AA)
   (A5 (AN (Ai B5 (Ai (EI (K:=K) rfl) (pv 2) (pv 2)) A9))
   AA)))),?_⟩
 clear 2 b1 h2;refine B9 (AY (K:=K) (FK (A7 HK) (J6 (A7 A6)))) h2 xt.gh fun G3 H4 x5=>?_;clear 1 x5 A6 HK
 cases b1 with
 | true =>
  clear 3;exact AQ (K:=K) (ev_atX (A7 A6) (A7 HK)) hm xt.gh fun v8 G9 H10 x11 r12=>q v8 G9 H10 (xt.trans x11) r12
 | false =>
  clear 4;clear 2 Bc h18;refine Af (K:=K) (Be (Ge (A7 HK)) Aw) h18 xt.gh fun v13 G14 H15 x16 r17=>?_;clear 1 x16 A6 HK;clear 2 b19 h20 s24 h25
  try (with_reducible refine nxt_ ?_;dsimp only)
  refine E7 (t:=Ht _ _ _) (fun S45 H44=>∃ (G43:Hp) (v27:V),Ext G0 H0 G43 H44/\Same G14 G43/\S45=[some Ap,some v_k_,some v27]/\Rp.rel K G43 v27 (s24:Int)) (fun nx kn29=>?_) ?_
  ·refine B9 (AY (K:=K) (FK (J6 (A7 A6)) Aw)) h20 xt.gh fun G21 H22 x23=>?_;clear 1 x23 A6 HK r17;have mk26:Same G14 G21:=x23.gg;have hm:=h25
   cases b19 with
   | true =>
    clear 3;clear 2 Bc h42;refine Af (K:=K) (BA (Be (Ge (ev_atX (A7 A6) (EW (Ge (A7 HK)) (J6 (A7 A6))))) (Ge (A7 HK)))) h42 xt.gh fun v37 G38 H39 x40 r41=>?_;clear 1 x40 3 mk26;cases hm;exact kn29 _ _ ⟨G38,v37,xt,mk26,rfl,r41⟩
   | false =>
    clear 4;cases hm;exact kn29 _ _ ⟨G21,v13,xt,mk26,rfl,r17⟩
  ·rintro _ H44 ⟨G43,v27,xt,mk26,rfl,r28⟩;exact AQ (K:=K) (BA (J7 (A7 r28) (A7 r28))) hm xt.gh fun v49 G50 H51 x52 r53=>q v49 G50 H51 (xt.trans x52) r53
theorem KQ (F:DIn K mg "_law_lit" GH)(T:Txt mg):GE P w K mg base:=by
 refine F.okM2 (m:=CI) D8 fun _ _ _ _ _ H0 _ _ hr G0 Ad JY res As v_bits_ xt AB Ft hm q=>?_;unfold CI at hm
 refine ⟨_,(A5 (AI (i:=2) D8 Ea)
   (A5 (Ed PassesOwn.never rfl (Bg (K:=K) rfl (AW (JJ (K:=K) rfl) (by rfl) T.sorted_ IR (A4 (pv 0) A8))) (Ch (i:=3) D8) (A5 (B7 (Aa EY (Ai B5 (pv 1) A9) A9 (Ao _)) (A5 (AI (i:=2) D8 (Ag K (pv 2) (pv 3)))
   AA) AA)
   (A5 (AI (i:=1) D8 (Ai CT (pv 1) A9))
   AA)))
   (A5 (AN (pv 2))
   AA))),?_⟩
 clear 2 text_ h6;refine Af (K:=K) LZ h6 xt.gh fun v1 G2 H3 x4 r5=>?_;clear 1 x4 AB Ft;clear 2 as8 h9 fl10 h11;refine EU (K:=K) (RR:=fun r v G' H'=>Ext G0 H0 G' H'/\Rp.rel K G' v r) (Bo (FV.ev (fv_sortS (A7 AB)))) h9 h11 xt.gh fun G12 H13 x14=>⟨fun s15 S' G' H'=>∃ (v16:V) (v17:V) (v18:Option V),Ext G0 H0 G' H'/\Same G12 G'/\S'=[some As,some v16,some v17,v18]/\Rp.rel K G' v16 (s15.1:Int)/\Rp.rel K G' v17 (s15.2:Str),?_,?_,?_,?_,?_⟩
 ·clear 1 x14 Ft r5;exact ⟨v_bits_,v1,_,xt,(Same.refl _),rfl,Ft,r5⟩
 ·rintro _ S' G' H' ⟨v16,v17,v18,xt,mk19,rfl,r20,r21⟩;exact ⟨mk19,xt.gh⟩
 ·rintro xv22 a23 s15 _ G26 H27 fl24 - ⟨v16,v17,v18,xt,mk19,rfl,r20,r21⟩ rx25 hm D' kN28 kC29 kB30 kR31;have AB:=Rp.mono (x14.gg.trans mk19) AB;refine DN ?_;clear 2 b32 h33 s37 h38
  try (with_reducible refine nxt_ ?_;dsimp only)
  refine E7 (t:=Ht _ _ _) (fun S53 H52=>∃ (G51:Hp) (v40:V),Ext G0 H0 G51 H52/\Same G26 G51/\S53=[some As,some v16,some v40,some xv22]/\Rp.rel K G51 v40 (s37:Str)) (fun nx kn42=>?_) ?_
  ·refine B9 (AY (K:=K) (D6 (BA (A7 r20)) Aw)) h33 xt.gh fun G34 H35 x36=>?_;clear 1 x36 r21 rx25;have mk39:Same G26 G34:=x36.gg;have hm:=h38
   cases b32 with
   | true =>
    clear 3;clear 2 text_ h50;refine Af (K:=K) (ev_catS (A7 r21) (A7 rx25)) h50 xt.gh fun v45 G46 H47 x48 r49=>?_;clear 1 x48 3 mk39;cases hm;exact kn42 _ _ ⟨G46,v45,xt,mk39,rfl,r49⟩
   | false =>
    clear 4;cases hm;exact kn42 _ _ ⟨G34,v17,xt,mk39,rfl,r21⟩
  ·rintro _ H52 ⟨G51,v40,xt,mk39,rfl,r41⟩;have mk19:=mk19.trans mk39;clear 9 mk39 r20;clear 2 JY h59;refine Af (K:=K) (CO (A7 r20)) h59 xt.gh fun v54 G55 H56 x57 r58=>?_;clear 1 x57 r41 3 mk19;cases hm;exact kN28 _ _ _ _ rfl ⟨v54,v40,_,xt,mk19,rfl,r58,r41⟩
 ·rintro s15 _ G66 H67 rfl ⟨v60,v61,v62,xt,mk63,rfl,r64,r65⟩;refine Fb ?_;exact AQ (K:=K) (A7 r65) hm xt.gh fun v68 G69 H70 x71 r72=>q v68 G69 H70 (xt.trans x71) r72
 ·clear 5
theorem HJ (F:DIn K mg "_law_moments" Dd)(T:Txt mg)(AR:DA P w K mg base)(D5:GE P w K mg base):FB P w K mg base:=by
 refine F.okM4 (m:=BL) CJ fun _ _ _ _ _ H0 _ _ hr G0 script_ at_ BN Ad res Ap Je Ci As xt A6 CF BB AB hm q=>?_;unfold BL at hm
 refine ⟨_,(A5 (AI (i:=4) CJ (Bm A8))
   (A5 (Ed PassesOwn.never rfl (CB rfl T.range_ (A4 (pv 2) A8)) (Ch (i:=5) CJ) (A5 (AI (i:=6) CJ (AK AR hr (by decide) rfl (A4 (pv 0) (A4 (Ag K (pv 1) (pv 5)) A8))))
   (A5 (CN (BM K (pv 4) (AK D5 hr (by decide) rfl (A4 (pv 3) (A4 (Ai B5 (pv 6) A9) A8)))))
   (A5 (B7 (Aa EY (Ai B5 (Ai CT (pv 6) A9) A9) A9 (Ao _)) (A5 (ps_asg Ea (pg_sub (pv 4) (pe_un un_neg A9) set_list))
   AA) AA)
   AA))))
   (A5 (AN (pv 4))
   AA))),?_⟩
 clear 2 F3 h8;refine GA (K:=K) (Bu (Bp (α:=Str))) h8 xt.gh fun p1 vs2 G3 H4 x5 hz6 o7=>?_;clear 1 x5 A6 CF BB AB 4 hz6;clear 2 as10 h11 fl12 h13;refine EU (K:=K) (RR:=fun r v G' H'=>Ext G0 H0 G' H'/\Rp.rel K G' v r) (DJ (A7 BB)) h11 h13 xt.gh fun G14 H15 x16=>⟨fun s17 S' G' H'=>∃ (v18:Option V) (v19:Option V),Ext G0 H0 G' H'/\Same G14 G'/\S'=[some Ap,some Je,some Ci,some As,some (V.ref p1),v18,v19]/\(∃ vs,Own K G' H' (V.ref p1) p1 vs s17),?_,?_,?_,?_,?_⟩
 ·clear 1 x16 2 o7;exact ⟨_,_,xt,(Same.refl _),rfl,⟨_,o7⟩⟩
 ·rintro _ S' G' H' ⟨v18,v19,xt,mk20,rfl,⟨vs2,o7⟩⟩;exact ⟨mk20,xt.gh⟩
 ·rintro xv21 a22 s17 _ G25 H26 fl23 - ⟨v18,v19,xt,mk20,rfl,⟨vs2,o7⟩⟩ rx24 hm D' kN27 kC28 kB29 kR30;have A6:=Rp.mono (x16.gg.trans mk20) A6;have CF:=Rp.mono (x16.gg.trans mk20) CF;have AB:=Rp.mono (x16.gg.trans mk20) AB;refine DN ?_;clear 2 AJ h38;refine Af (K:=K) (AX (m:=Ah) (A7 A6) (Be (A7 CF) (A7 rx24))) h38 xt.gh fun v33 G34 H35 x36 r37=>?_;clear 1 x36 AB 2 o7 3 mk20;clear 2 a41 h42 z49 h43;refine D0 (K:=K) rfl o7 (AX (m:=FJ) (A7 AB) (BA (A7 r37))) h42 h43 xt.gh fun G44 H45 w46 x47 o48=>?_;have xt:Ext G0 H0 G44 (upd H45 p1 (.lst (vs2++[w46]))):=(xt.trans x47).put hz6 o48.g;clear 0 x47 r37 3 mk20;clear 2 b50 h51;refine B9 (AY (K:=K) (D6 (BA (CO (A7 r37))) Aw)) h51 xt.gh fun G52 H53 x54=>?_;clear 1 x54 2 o48 3 mk20
  cases b50 with
  | true =>
   clear 3;clear 2 a55 h56 k57 h58 z66 h59;refine KY (K:=K) rfl o48 LZ h56 (ev_neg Aw) h58 h59 xt.gh fun G60 H61 w62 j63 x64 o65=>?_;have xt:Ext G0 H0 G60 (upd H61 p1 (.lst ((vs2++[w46]).set j63 w62))):=(xt.trans x64).put hz6 o65.g;clear 0 x64 3 mk20;cases hm;exact kN27 _ _ _ _ rfl ⟨_,_,xt,mk20,rfl,⟨_,o65⟩⟩
  | false =>
   clear 4;cases hm;exact kN27 _ _ _ _ rfl ⟨_,_,xt,mk20,rfl,⟨_,o48⟩⟩
 ·rintro s17 _ G70 H71 rfl ⟨v67,v68,xt,mk69,rfl,⟨vs2,o7⟩⟩;refine Fb ?_;have sf:=Same.new (o:=.lst vs2) o7.g;have xt:=xt.frz hz6 o7.g o7.h;have r72:=o7.tell;exact AQ (K:=K) (A7 r72) hm xt.gh fun v73 G74 H75 x76 r77=>q v73 G74 H75 (xt.trans x76) r77
 ·clear 5
theorem HI (F:DIn K mg "steps_along" DR)(T:Txt mg):Da P w K mg base:=by
 refine F.ok Gw bn2 (fun vs H Q E h=>(spL_len h).trans rfl) (fun _ cdv A outer s H0 vs Q E hr h=>?_);obtain ⟨G0,⟨Fd,⟨Dr,⟨⟩⟩⟩,res,sg0,⟨Lz,_,rfl,Ew,⟨Ix,_,rfl,Do,rfl⟩⟩,hm,q⟩:=h;replace Ew:Rp.rel K G0 Lz Fd:=Ew;replace Do:Rp.rel K G0 Ix Dr:=Do;replace hm:BG Fd Dr=some res:=hm;unfold BG at hm;have xt:Ext G0 H0 G0 H0:=Ext.refl sg0
 refine ⟨_,(A5 (AN (pe_listZ (K:=K) rfl rfl (by rfl) T.list_ (by rfl) T.zip_ (A4 (pv 0) (A4 (Ag K (Di (Et (K:=K) rfl) (pv 0) (Dw A9) Fc) (Bm (A4 (pv 1) A8))) A8))))
   AA),?_⟩
 exact sv_retL (K:=K) (fv_listZ (A7 Ew) (FV.ev (Gs (FV.ev (Dl (A7 Ew) (EA (K:=K) Aw) Fs)) (FV.ev (Bu (Cp (A7 Do) (Bp (α:=Int)))))))) hm xt.gh fun p5 vs6 G7 H8 x9 h10 o11=>q _ _ _ _ (xt.trans x9) (xt.hh.free h10) o11
theorem Hs (F:DIn K mg "machine_of" Dt)(T:Txt mg)(BO:Da P w K mg base):FZ P w K mg base:=by
 refine F.ok FA bn1 (fun vs H Q E h=>(spM4_len h).trans rfl) (fun _ cdv A outer s H0 vs Q E hr h=>?_);obtain ⟨G0,⟨run_,⟨⟩⟩,res,sg0,⟨v_run_,_,rfl,FF,rfl⟩,hm,q⟩:=h;replace FF:Rp.rel K G0 v_run_ run_:=FF;replace hm:BD run_=some res:=hm;unfold BD at hm;have xt:Ext G0 H0 G0 H0:=Ext.refl sg0
 refine ⟨_,(A5 (AI (i:=1) FA (Ag K (AG K (pv 0) A9) (AG K (pv 0) A9)))
   (A5 (AN (Cn (A4 (pv 1) (A4 (AK BO hr (by decide) rfl (A4 (Bi (Ly rfl) (by rfl) T.list_ Bw (A4 (Bi La (by rfl) T.range_ boot_range (A4 (AZ K T.len_ (pv 1)) A8)) A8)) (A4 (AZ K T.len_ (AG K (pv 0) A9)) A8))) (A4 (Bm (A4 A9 A8)) (A4 (Bm A8) A8))))))
   AA)),?_⟩
 clear 2 lit_ h8;refine sv_setNB (K:=K) (J2 (Gs (Dv (A7 FF)) (EH (A7 FF)))) h8 xt.gh fun v3 G4 H5 x6 r7 n7=>?_;clear 1 x6 FF;clear 2 t12 h12;exact sv_retB4 (K:=K) (B:=H0) (ev4_tup (evb_v r7 n7) ((J2 (JN (m:=CS) (FV.ev (fv_lstR1 (BH (A7 r7)))) (BH (Dv (A7 FF))))).to h12) (J2 (Bu (Cp Aw (Bp (α:=Int))))) (J2 (Bu (Bp (α:=(List Int)))))) hm xt.gh xt.hh fun v13 y1 y2 y3 y4 G14 H15 x16 r17 n17=>q v13 y1 y2 y3 y4 G14 H15 (xt.trans x16) r17 n17
theorem J9 (F:DIn K mg "lit_along" El)(T:Txt mg):GW P w K mg base:=by
 refine F.ok Fi bn3 (fun vs H Q E h=>(spN_len h).trans rfl) (fun _ cdv A outer s H0 vs Q E hr h=>?_);obtain ⟨G0,⟨machine_,⟨stem_,⟨ring_,⟨⟩⟩⟩⟩,res,sg0,⟨EE,_,rfl,At,⟨CZ,_,rfl,Ae,⟨Cb,_,rfl,AT,rfl⟩⟩⟩,hm,q⟩:=h;replace At:Rp.rel K G0 EE machine_:=At;replace Ae:Rp.rel K G0 CZ stem_:=Ae;replace AT:Rp.rel K G0 Cb ring_:=AT;replace hm:BZ machine_ stem_ ring_=some res:=hm;unfold BZ at hm;have xt:Ext G0 H0 G0 H0:=Ext.refl sg0
 refine ⟨_,(A5 (AI (i:=3) Fi (AG K (pv 0) A9))
   (A5 (AN (Cn (A4 (C5 (cn:=["lit"]) (cap:=[3]) rfl ⟨by decide +kernel,rfl,by decide +kernel,BP rfl⟩ rfl (by decide +kernel) ⟨⟨rfl,.inl rfl,rfl⟩,trivial⟩ (Bg (K:=K) rfl (pv 1)) (fun C s0 H0 fp=>⟨Ba,(AG K (pv 1) (pv 0))⟩)) (A4 (C5 (cn:=["lit"]) (cap:=[3]) rfl ⟨by decide +kernel,rfl,by decide +kernel,BP rfl⟩ rfl (by decide +kernel) ⟨⟨rfl,.inl rfl,rfl⟩,trivial⟩ (Bg (K:=K) rfl (pv 2)) (fun C s0 H0 fp=>⟨Ba,(AG K (pv 1) (pv 0))⟩)) A8))))
   AA)),?_⟩
 clear 2 lit_ h6;refine Af (K:=K) (GK (A7 At)) h6 xt.gh fun v1 G2 H3 x4 r5=>?_;clear 1 x4 Ae AT;exact sv_retP (K:=K) (nv_tup2 (C9 (cap:=[3]) (fe:=fun (EB:Int)=>((some lit_).bind fun t11=>(some EB).bind fun t12=>atI t11 t12)) (Bo (A7 Ae)) fun xc10 EB Gc7 sc8 rc9=>(Dh (A7 (Rp.mono sc8 r5)) (A7 rc9))) (C9 (cap:=[3]) (fe:=fun (EB:Int)=>((some lit_).bind fun t18=>(some EB).bind fun t19=>atI t18 t19)) (Bo (A7 AT)) fun xc17 EB Gc14 sc15 rc16=>(Dh (A7 (Rp.mono sc15 r5)) (A7 rc16)))) hm xt.gh fun v23 p24 q25 vs26 ws27 G28 H29 x30 h31 h32 o33=>q _ _ _ _ _ _ _ (xt.trans x30) (xt.hh.free h31) (xt.hh.free h32) o33
theorem Hk (F:DIn K mg "_law_states" Dq)(T:Txt mg):Fk P w K mg base:=by
 refine F.okM1 (m:=Bv) Hv fun _ _ _ _ _ H0 _ _ hr G0 AJ res E4 xt AL hm q=>?_;unfold Bv at hm
 refine ⟨_,(A5 (B7 (Aa EY (Ai B5 (Ai CT (pv 0) A9) A9) A9 (Ao _)) (A5 (AN (Ag K A9 (Ai B5 (pv 0) A9)))
   AA) AA)
   (A5 (AN (Ag K A9 (Ai B5 (pv 0) A9)))
   AA)),?_⟩
 clear 2 b1 h2;refine B9 (AY (K:=K) (D6 (BA (CO (A7 AL))) Aw)) h2 xt.gh fun G3 H4 x5=>?_;clear 1 x5 AL
 cases b1 with
 | true =>
  clear 3;exact AQ (K:=K) (Be Aw (BA (A7 AL))) hm xt.gh fun v6 G7 H8 x9 r10=>q v6 G7 H8 (xt.trans x9) r10
 | false =>
  clear 4;exact AQ (K:=K) (Be Aw (BA (A7 AL))) hm xt.gh fun v11 G12 H13 x14 r15=>q v11 G12 H13 (xt.trans x14) r15
theorem Hj (F:DIn K mg "_law_chosen" EG)(T:Txt mg):FW P w K mg base:=by
 refine F.okM2 (m:=BK) Cd fun _ _ _ _ _ H0 _ _ hr G0 AJ Dk res E4 LN xt AL Fq hm q=>?_;unfold BK at hm
 refine ⟨_,(A5 (AI (i:=2) Cd (Bm A8))
   (A5 (Ed PassesOwn.never rfl (CB rfl T.range_ (A4 (pv 1) A8)) (Ch (i:=3) Cd) (A5 (B7 (Aa EY (Ai B5 (pv 0) A9) A9 (Ao _)) (A5 (CN (BM K (pv 2) (pv 3)))
   AA) AA)
   (A5 (AI (i:=0) Cd (Ai CT (pv 0) A9))
   AA)))
   (A5 (AN (pv 2))
   AA))),?_⟩
 clear 2 FT h8;refine GA (K:=K) (Bu (Bp (α:=Int))) h8 xt.gh fun p1 vs2 G3 H4 x5 hz6 o7=>?_;clear 1 x5 AL Fq 4 hz6;clear 2 as10 h11 fl12 h13;refine EU (K:=K) (RR:=fun r v G' H'=>Ext G0 H0 G' H'/\Rp.rel K G' v r) (DJ (A7 Fq)) h11 h13 xt.gh fun G14 H15 x16=>⟨fun s17 S' G' H'=>∃ (v18:V) (v19:Option V),Ext G0 H0 G' H'/\Same G14 G'/\S'=[some v18,some LN,some (V.ref p1),v19]/\Rp.rel K G' v18 (s17.1:Int)/\(∃ vs,Own K G' H' (V.ref p1) p1 vs s17.2),?_,?_,?_,?_,?_⟩
 ·clear 1 x16 AL 2 o7;exact ⟨E4,_,xt,(Same.refl _),rfl,AL,⟨_,o7⟩⟩
 ·rintro _ S' G' H' ⟨v18,v19,xt,mk20,rfl,r21,⟨vs2,o7⟩⟩;exact ⟨mk20,xt.gh⟩
 ·rintro xv22 a23 s17 _ G26 H27 fl24 - ⟨v18,v19,xt,mk20,rfl,r21,⟨vs2,o7⟩⟩ rx25 hm D' kN28 kC29 kB30 kR31;have Fq:=Rp.mono (x16.gg.trans mk20) Fq;refine DN ?_;clear 2 b32 h33 s37 h38
  try (with_reducible refine nxt_ ?_;dsimp only)
  refine E7 (t:=Ht _ _ _) (fun S52 H51=>∃ (G50:Hp) ,Ext G0 H0 G50 H51/\Same G26 G50/\S52=[some v18,some LN,some (V.ref p1),some xv22]/\(∃ vs,Own K G50 H51 (V.ref p1) p1 vs s37)) (fun nx kn40=>?_) ?_
  ·refine B9 (AY (K:=K) (D6 (BA (A7 r21)) Aw)) h33 xt.gh fun G34 H35 x36=>?_;clear 1 x36 rx25 2 o7;have mk39:Same G26 G34:=x36.gg;have hm:=h38
   cases b32 with
   | true =>
    clear 3;clear 2 a41 h42 z49 h43;refine D0 (K:=K) rfl o7 (A7 rx25) h42 h43 xt.gh fun G44 H45 w46 x47 o48=>?_;have xt:Ext G0 H0 G44 (upd H45 p1 (.lst (vs2++[w46]))):=(xt.trans x47).put hz6 o48.g;clear 0 x47 3 mk39;cases hm;exact kn40 _ _ ⟨G44,xt,mk39,rfl,⟨_,o48⟩⟩
   | false =>
    clear 4;cases hm;exact kn40 _ _ ⟨G34,xt,mk39,rfl,⟨_,o7⟩⟩
  ·rintro _ H51 ⟨G50,xt,mk39,rfl,⟨vs2,o7⟩⟩;have mk20:=mk20.trans mk39;clear 9 mk39 r21;clear 2 AJ h58;refine Af (K:=K) (CO (A7 r21)) h58 xt.gh fun v53 G54 H55 x56 r57=>?_;clear 1 x56 2 o7 3 mk20;cases hm;exact kN28 _ _ _ _ rfl ⟨v53,_,xt,mk20,rfl,r57,⟨_,o7⟩⟩
 ·rintro s17 _ G63 H64 rfl ⟨v59,v60,xt,mk61,rfl,r62,⟨vs2,o7⟩⟩;refine Fb ?_;have sf:=Same.new (o:=.lst vs2) o7.g;have xt:=xt.frz hz6 o7.g o7.h;have r65:=o7.tell;exact AQ (K:=K) (A7 r65) hm xt.gh fun v66 G67 H68 x69 r70=>q v66 G67 H68 (xt.trans x69) r70
 ·clear 5
theorem HM (F:DIn K mg "_law_machine" DV)(T:Txt mg)(EC:Fk P w K mg base)(Cw:FW P w K mg base)(AR:DA P w K mg base)(D5:GE P w K mg base):F5 P w K mg base:=by
 refine F.okM2 (m:=Bl) Ac fun _ _ _ _ _ H0 _ _ hr G0 script_ Ad res Ap As xt A6 AB hm q=>?_;unfold Bl at hm
 refine ⟨_,(A5 (AI (i:=2) Ac (AK EC hr (by decide) rfl (A4 (AK AR hr (by decide) rfl (A4 (pv 0) (A4 A9 A8))) A8)))
   (A5 (AI (i:=3) Ac (Ai (EI (K:=K) rfl) A9 (pv 2)))
   (A5 (B7 (Aa EY (Ai B5 (Ai CT (AK AR hr (by decide) rfl (A4 (pv 0) (A4 A9 A8))) A9) A9) A9 (Ao _)) (A5 (AI (i:=3) Ac (Ai (EI (K:=K) rfl) (pv 2) (pv 2)))
   AA) AA)
   (A5 (AI (i:=4) Ac (Bm A8))
   (A5 (Ed PassesOwn.never rfl (CB rfl T.range_ (A4 (Ai B5 (AK AR hr (by decide) rfl (A4 (pv 0) (A4 A9 A8))) (Ag K (AW (M9 rfl) (by rfl) T.min_ bt_min (A4 A9 (A4 (pv 3) A8))) A9)) A8)) (Ch (i:=5) Ac) (A5 (AI (i:=6) Ac (AK AR hr (by decide) rfl (A4 (pv 0) (A4 (Ag K A9 (pv 5)) A8))))
   (A5 (AI (i:=7) Ac (Cn (A4 (Ai B5 (Ai CT (pv 6) A9) (pv 2)) (A4 (Ai B5 (pv 6) (pv 2)) A8))))
   (A5 (B7 (Aa Io (pv 5) (pv 2) (Ao _)) (A5 (AI (i:=7) Ac (Cn (A4 (pv 5) (A4 (Ai B5 (pv 6) (pv 2)) A8))))
   AA) AA)
   (A5 (B7 (Aa (MB (K:=K) rfl (Int × Int) hr (by decide)) (pv 7) (pv 4) rfl) (A5 (CN (BM K (pv 4) (pv 7)))
   AA) AA)
   AA)))))
   (A5 (EL (i:=8) (Ku Ac) rfl (Or.inl rfl) (cn:=["_law_letters_here","_law_script"]) (cap:=[1,0]) rfl ⟨by decide +kernel,rfl,by decide +kernel,BP rfl⟩ rfl (by decide +kernel) ⟨⟨rfl,.inl rfl,rfl⟩,⟨rfl,.inl rfl,rfl⟩,trivial⟩ (CB rfl T.range_ (A4 (pv 2) A8)) (fun C s0 H0 fp=>⟨Ba,(AK D5 hr (by decide) rfl (A4 (pv 1) (A4 (Ai B5 (AK AR hr (by decide) rfl (A4 (pv 2) (A4 (Ag K A9 (pv 0)) A8))) A9) A8)))⟩))
   (A5 (AI (i:=9) Ac (AK Cw hr (by decide) rfl (A4 (AK AR hr (by decide) rfl (A4 (pv 0) (A4 A9 A8))) (A4 (pv 2) A8))))
   (A5 (B7 (Aa EY (Ai B5 (Ai CT (AK AR hr (by decide) rfl (A4 (pv 0) (A4 A9 A8))) A9) A9) A9 (Ao _)) (A5 (AI (i:=9) Ac (pe_sortR (K:=K) rfl (by rfl) T.sorted_ (A4 (pv 9) A8)))
   AA) AA)
   (A5 (EL (i:=10) (Ku Ac) rfl (Or.inl rfl) (cn:=["_law_script","_law_ways"]) (cap:=[0,4]) rfl ⟨by decide +kernel,rfl,by decide +kernel,BP rfl⟩ rfl (by decide +kernel) ⟨⟨rfl,.inl rfl,rfl⟩,⟨rfl,.inl rfl,rfl⟩,trivial⟩ (CB rfl T.range_ (A4 (Ai B5 (AK AR hr (by decide) rfl (A4 (pv 0) (A4 A9 A8))) A9) A8)) (fun C s0 H0 fp=>⟨Ba,(AK Cw hr (by decide) rfl (A4 (AK AR hr (by decide) rfl (A4 (pv 1) (A4 (Ag K A9 (pv 0)) A8))) (A4 (AZ K T.len_ (pv 2)) A8)))⟩))
   (A5 (AN (Cn (A4 (pv 8) (A4 (pv 4) (A4 (pv 9) (A4 (pv 10) A8))))))
   AA)))))))))),?_⟩
 clear 2 Dk h9;refine Af (K:=K) (Fv (m:=F7) (AX (m:=Ah) (A7 A6) Aw)) h9 xt.gh fun v4 G5 H6 x7 r8=>?_;clear 1 x7 A6 AB;clear 2 Jr h15;refine Af (K:=K) (ev_mulL (A7 r8)) h15 xt.gh fun v10 G11 H12 x13 r14=>?_;clear 1 x13 A6 AB r8;clear 2 b21 h22 s26 h27
 try (with_reducible refine nxt_ ?_;dsimp only)
 refine E7 (t:=Ht _ _ _) (fun S42 H41=>∃ (G40:Hp) (v29:V),Ext G0 H0 G40 H41/\Same G11 G40/\S42=[some Ap,some As,some v4,some v29,none,none,none,none,none,none,none]/\Rp.rel K G40 v29 (s26:Int)) (fun nx kn31=>?_) ?_
 ·refine B9 (AY (K:=K) (D6 (BA (CO (AX (m:=Ah) (A7 A6) Aw))) Aw)) h22 xt.gh fun G23 H24 x25=>?_;clear 1 x25 r8 r14;have mk28:Same G11 G23:=x25.gg;have hm:=h27
  cases b21 with
  | true =>
   clear 3;clear 2 Jr h39;refine Af (K:=K) (J7 (A7 r8) (A7 r8)) h39 xt.gh fun v34 G35 H36 x37 r38=>?_;clear 1 x37 3 mk28;cases hm;exact kn31 _ _ ⟨G35,v34,xt,mk28,rfl,r38⟩
  | false =>
   clear 4;cases hm;exact kn31 _ _ ⟨G23,v10,xt,mk28,rfl,r14⟩
 ·rintro _ H41 ⟨G40,v29,xt,mk28,rfl,r30⟩;clear 9 mk28 A6 AB r8;clear 2 ways_ h50;refine GA (K:=K) (Bu (Bp (α:=(Int × Int)))) h50 xt.gh fun p43 vs44 G45 H46 x47 hz48 o49=>?_;clear 1 x47 A6 AB r8 r30 4 hz48;clear 2 as56 h57 fl58 h59;refine EU (K:=K) (RR:=fun r v G' H'=>Ext G0 H0 G' H'/\Rp.rel K G' v r) (DJ (EW (AX (m:=Ah) (A7 A6) Aw) (Be (ev_min Aw (A7 r30)) Aw))) h57 h59 xt.gh fun G60 H61 x62=>⟨fun s63 S' G' H'=>∃ (v64:Option V) (v65:Option V) (v66:Option V),Ext G0 H0 G' H'/\Same G60 G'/\S'=[some Ap,some As,some v4,some v29,some (V.ref p43),v64,v65,v66,none,none,none]/\(∃ vs,Own K G' H' (V.ref p43) p43 vs s63),?_,?_,?_,?_,?_⟩
  ·clear 1 x62 2 o49;exact ⟨_,_,_,xt,(Same.refl _),rfl,⟨_,o49⟩⟩
  ·rintro _ S' G' H' ⟨v64,v65,v66,xt,mk67,rfl,⟨vs44,o49⟩⟩;exact ⟨mk67,xt.gh⟩
  ·rintro xv68 a69 s63 _ G72 H73 fl70 - ⟨v64,v65,v66,xt,mk67,rfl,⟨vs44,o49⟩⟩ rx71 hm D' kN74 kC75 kB76 kR77;have A6:=Rp.mono (x62.gg.trans mk67) A6;have AB:=Rp.mono (x62.gg.trans mk67) AB;have r8:=Rp.mono (x62.gg.trans mk67) r8;have r30:=Rp.mono (x62.gg.trans mk67) r30;refine DN ?_;clear 2 AJ h85;refine Af (K:=K) (AX (m:=Ah) (A7 A6) (Be Aw (A7 rx71))) h85 xt.gh fun v80 G81 H82 x83 r84=>?_;clear 1 x83 A6 AB r8 r30 rx71 2 o49 3 mk67;clear 2 way_ h97;refine Af (K:=K) (Cu (EW (CO (A7 r84)) (A7 r8)) (EW (A7 r84) (A7 r8))) h97 xt.gh fun v92 G93 H94 x95 r96=>?_;clear 1 x95 A6 AB r8 r30 rx71 r84 2 o49 3 mk67;clear 2 b98 h99 s103 h104
   try (with_reducible refine nxt_ ?_;dsimp only)
   refine E7 (t:=Ht _ _ _) (fun S122 H121=>∃ (G120:Hp) (v106:V),Ext G0 H0 G120 H121/\Same G93 G120/\S122=[some Ap,some As,some v4,some v29,some (V.ref p43),some xv68,some v80,some v106,none,none,none]/\Rp.rel K G120 v106 (s103:(Int × Int))/\Own K G120 H121 (V.ref p43) p43 vs44 s63) (fun nx kn108=>?_) ?_
   ·refine B9 (AY (K:=K) (FK (A7 rx71) (A7 r8))) h99 xt.gh fun G100 H101 x102=>?_;clear 1 x102 r8 rx71 r84 r96 2 o49;have mk105:Same G93 G100:=x102.gg;have hm:=h104
    cases b98 with
    | true =>
     clear 3;clear 2 way_ h119;refine Af (K:=K) (Cu (A7 rx71) (EW (A7 r84) (A7 r8))) h119 xt.gh fun v114 G115 H116 x117 r118=>?_;clear 1 x117 2 o49 3 mk105;cases hm;exact kn108 _ _ ⟨G115,v114,xt,mk105,rfl,r118,o49⟩
    | false =>
     clear 4;cases hm;exact kn108 _ _ ⟨G100,v92,xt,mk105,rfl,r96,o49⟩
   ·rintro _ H121 ⟨G120,v106,xt,mk105,rfl,r107,o49⟩;have mk67:=mk67.trans mk105;clear 2 b123 h124;refine sv_ifB o49 (AY (K:=K) (Km (A7 (Rp.mono (Same.new o49.g) r107)) (A7 o49.tell))) h124 xt.gh fun G125 H126 x127=>?_;clear 1 x127 r107 2 o49 3 mk67
    cases b123 with
    | true =>
     clear 3;clear 2 a128 h129 z136 h130;refine D0 (K:=K) rfl o49 (A7 r107) h129 h130 xt.gh fun G131 H132 w133 x134 o135=>?_;have xt:Ext G0 H0 G131 (upd H132 p43 (.lst (vs44++[w133]))):=(xt.trans x134).put hz48 o135.g;clear 0 x134 3 mk67;cases hm;exact kN74 _ _ _ _ rfl ⟨_,_,_,xt,mk67,rfl,⟨_,o135⟩⟩
    | false =>
     clear 4;cases hm;exact kN74 _ _ _ _ rfl ⟨_,_,_,xt,mk67,rfl,⟨_,o49⟩⟩
  ·rintro s63 _ G141 H142 rfl ⟨v137,v138,v139,xt,mk140,rfl,⟨vs44,o49⟩⟩;refine Fb ?_;have A6:=Rp.mono (x62.gg.trans mk140) A6;have AB:=Rp.mono (x62.gg.trans mk140) AB;have r8:=Rp.mono (x62.gg.trans mk140) r8;have r30:=Rp.mono (x62.gg.trans mk140) r30;clear 2 IN h159;refine Af (K:=K) (FV.ev (C9 (cap:=[1,0]) (fe:=fun (k_:Int)=>((some Ad).bind fun t151=>(((some script_).bind fun t148=>(some ((32:Int)+k_)).bind fun t149=>AV t148 t149).bind fun t150=>(some (t150 % (16:Int)))).bind fun t152=>CI t151 t152)) (DJ (A7 r8)) fun xc147 k_ Gc144 sc145 rc146=>(AX (m:=FJ) (A7 (Rp.mono sc145 AB)) (BA (AX (m:=Ah) (A7 (Rp.mono sc145 A6)) (Be Aw (A7 rc146))))))) h159 xt.gh fun v154 G155 H156 x157 r158=>?_;clear 1 x157 A6 AB r8 r30 2 o49;clear 2 Ev h169;refine Af (K:=K) (AX (m:=DP) (AX (m:=Ah) (A7 A6) Aw) (A7 r8)) h169 xt.gh fun v164 G165 H166 x167 r168=>?_;clear 1 x167 A6 AB r8 r30 r158 2 o49;clear 2 b175 h176 s180 h181
   try (with_reducible refine nxt_ ?_;dsimp only)
   refine E7 (t:=Ht _ _ _) (fun S195 H194=>∃ (G193:Hp) (v183:V),Ext G0 H0 G193 H194/\Same G165 G193/\S195=[some Ap,some As,some v4,some v29,some (V.ref p43),v137,v138,v139,some v154,some v183,none]/\Rp.rel K G193 v183 (s180:(List Int))/\Own K G193 H194 (V.ref p43) p43 vs44 s63) (fun nx kn185=>?_) ?_
   ·refine B9 (AY (K:=K) (D6 (BA (CO (AX (m:=Ah) (A7 A6) Aw))) Aw)) h176 xt.gh fun G177 H178 x179=>?_;clear 1 x179 r168 2 o49;have mk182:Same G165 G177:=x179.gg;have hm:=h181
    cases b175 with
    | true =>
     clear 3;clear 2 Ev h192;refine Af (K:=K) (FV.ev (fv_sortR (A7 r168))) h192 xt.gh fun v187 G188 H189 x190 r191=>?_;clear 1 x190 2 o49 3 mk182;cases hm;exact kn185 _ _ ⟨G188,v187,xt,mk182,rfl,r191,o49⟩
    | false =>
     clear 4;cases hm;exact kn185 _ _ ⟨G177,v164,xt,mk182,rfl,r168,o49⟩
   ·rintro _ H194 ⟨G193,v183,xt,mk182,rfl,r184,o49⟩;clear 9 mk182 A6 r158;have sf:=Same.new (o:=.lst vs44) o49.g;have xt:=xt.frz hz48 o49.g o49.h;have r209:=o49.tell;clear 9 sf A6 r158 r184;clear 2 marks_ h228;refine Af (K:=K) (FV.ev (C9 (cap:=[0,4]) (fe:=fun (k_:Int)=>(((some script_).bind fun t218=>(some ((5:Int)+k_)).bind fun t219=>AV t218 t219).bind fun t220=>(some (s63.length:Int)).bind fun t221=>BK t220 t221)) (DJ (BA (AX (m:=Ah) (A7 A6) Aw))) fun xc217 k_ Gc214 sc215 rc216=>(AX (m:=DP) (AX (m:=Ah) (A7 (Rp.mono sc215 A6)) (Be Aw (A7 rc216))) (BH (A7 (Rp.mono sc215 r209)))))) h228 xt.gh fun v223 G224 H225 x226 r227=>?_;clear 1 x226 r209 r158 r184;exact AQ (K:=K) (LR (A7 r158) (A7 r209) (A7 r184) (A7 r227)) hm xt.gh fun v229 G230 H231 x232 r233=>q v229 G230 H231 (xt.trans x232) r233
  ·clear 5
theorem GY (F:DIn K mg "_law_strolled" D7)(T:Txt mg)(AR:DA P w K mg base):EX P w K mg base:=by
 refine F.okM3 (m:=BU) B0 fun _ _ _ _ _ H0 _ _ hr G0 script_ machine_here_ at_ res Ap Co Je xt A6 Ab CF hm q=>?_;unfold BU at hm
 refine ⟨_,(A5 (AI (i:=3) B0 (Bm (A4 A9 A8)))
   (A5 (B7 (Aa (Gv (K:=K) rfl (List Int) hr (by decide)) (AG K (pv 1) A9) (Bm A8) (Ao _)) (A5 (AI (i:=3) B0 (Bm (A4 (AG K (AG K (pv 1) A9) (Ai B5 (AK AR hr (by decide) rfl (A4 (pv 0) (A4 (pv 2) A8))) (AZ K T.len_ (AG K (pv 1) A9)))) A8)))
   AA) AA)
   (A5 (Ed PassesOwn.never rfl (CB rfl T.range_ (A4 A9 A8)) (Ch (i:=4) B0) (A5 (EL (i:=5) (Ku B0) rfl (Or.inl rfl) (cn:=["_law_states_here"]) (cap:=[3]) rfl ⟨by decide +kernel,rfl,by decide +kernel,BP rfl⟩ rfl (by decide +kernel) ⟨⟨rfl,.inl rfl,rfl⟩,trivial⟩ (Bg (K:=K) rfl (AG K (pv 1) A9)) (fun C s0 H0 fp=>⟨(pts_one (Aa EY (AG K (pv 0) A9) (AG K (pv 1) (pe_un un_neg A9)) (Ao _))),(AG K (pv 0) A9)⟩))
   (A5 (B7 (Aa (Gv (K:=K) rfl (List Int) hr (by decide)) (pv 5) (Bm A8) (Ao _)) (A5 (CN (BM K (pv 3) (AG K (pv 5) (Ai B5 (Ai CT (AK AR hr (by decide) rfl (A4 (pv 0) (A4 (Ag K (pv 2) (pv 4)) A8))) A9) (AZ K T.len_ (pv 5))))))
   AA) AA)
   AA)))
   (A5 (AI (i:=6) B0 (Ai JL (AZ K T.len_ (pv 3)) A9))
   (A5 (ps_while PassesOwn.never (PW.pt (pw_and (Aa GD (pv 6) A9 (Ao _)) (LD (Aa (IZ (K:=K) rfl) (AG K (pv 3) (pv 6)) (Di (Et (K:=K) rfl) (pv 3) Fc (Dw (pv 6))) rfl)))) (A5 (AI (i:=6) B0 (Ai JL (pv 6) A9))
   AA))
   (A5 (AI (i:=7) B0 (pe_bmK (K:=K) rfl PySem.F.plainAttrs_list PySem.F.slot_list_index PySem.F.type_list_index (M8 (K:=K) rfl) (pv 3) (A4 (AG K (pv 3) (pv 6)) A8)))
   (A5 (AN (Cn (A4 (Di (Et (K:=K) rfl) (pv 3) Fc (Dw (pv 7))) (A4 (Di (Et (K:=K) rfl) (pv 3) (Dw (pv 7)) (Dw (pv 6))) A8))))
   AA))))))),?_⟩
 clear 2 CU h8;refine GA (K:=K) (Bu (Cp Aw (Bp (α:=Int)))) h8 xt.gh fun p1 vs2 G3 H4 x5 hz6 o7=>?_;clear 1 x5 A6 Ab CF 4 hz6;clear 2 b9 h10 s14 h15
 try (with_reducible refine nxt_ ?_;dsimp only)
 refine E7 (t:=Ht _ _ _) (fun S37 H36=>∃ (G35:Hp) (v17:V),Ext G0 H0 G35 H36/\Same G3 G35/\S37=[some Ap,some Co,some Je,some v17,none,none,none,none]/\(∃ p vs,H0 p=none/\Own K G35 H36 v17 p vs s14)) (fun nx kn19=>?_) ?_
 ·refine B9 (AY (K:=K) (Jc (Eg (A7 Ab)) (FV.ev (Bu (Bp (α:=Int)))))) h10 xt.gh fun G11 H12 x13=>?_;clear 1 x13 A6 Ab CF 2 o7;have mk16:Same G3 G11:=x13.gg;have hm:=h15
  cases b9 with
  | true =>
   clear 3;clear 2 CU h34;refine GA (K:=K) (Bu (Cp (Dh (Eg (A7 Ab)) (EW (AX (m:=Ah) (A7 A6) (A7 CF)) (BH (Eg (A7 Ab))))) (Bp (α:=Int)))) h34 xt.gh fun p27 vs28 G29 H30 x31 hz32 o33=>?_;clear 1 x31 2 o7 3 mk16 4 hz32;cases hm;exact kn19 _ _ ⟨G29,(V.ref p27),xt,mk16,rfl,⟨_,_,hz32,o33⟩⟩
  | false =>
   clear 4;cases hm;exact kn19 _ _ ⟨G11,(V.ref p1),xt,mk16,rfl,⟨_,_,hz6,o7⟩⟩
 ·rintro _ H36 ⟨G35,v17,xt,mk16,rfl,⟨p38,vs39,hz40,o41⟩⟩;clear 9 mk16 A6 Ab CF;clear 2 as43 h44 fl45 h46;refine EU (K:=K) (RR:=fun r v G' H'=>Ext G0 H0 G' H'/\Rp.rel K G' v r) (DJ Aw) h44 h46 xt.gh fun G47 H48 x49=>⟨fun s50 S' G' H'=>∃ (v51:Option V) (v52:Option V),Ext G0 H0 G' H'/\Same G47 G'/\S'=[some Ap,some Co,some Je,some v17,v51,v52,none,none]/\(∃ vs,Own K G' H' v17 p38 vs s50),?_,?_,?_,?_,?_⟩
  ·clear 1 x49 2 o41;exact ⟨_,_,xt,(Same.refl _),rfl,⟨_,o41⟩⟩
  ·rintro _ S' G' H' ⟨v51,v52,xt,mk53,rfl,⟨vs39,o41⟩⟩;exact ⟨mk53,xt.gh⟩
  ·rintro xv54 a55 s50 _ G58 H59 fl56 - ⟨v51,v52,xt,mk53,rfl,⟨vs39,o41⟩⟩ rx57 hm D' kN60 kC61 kB62 kR63;have A6:=Rp.mono (x49.gg.trans mk53) A6;have Ab:=Rp.mono (x49.gg.trans mk53) Ab;have CF:=Rp.mono (x49.gg.trans mk53) CF;refine DN ?_;clear 2 outs_ h91;refine sv_setFB (K:=K) o41 (LW (cap:=[3]) (fc:=fun (way_:(Int × Int))=>((some way_.1).bind fun t83=>((some s50).bind fun t81=>(some (-(1:Int))).bind fun t82=>atI t81 t82).bind fun t84=>some (decide (t83=t84)))) (fe:=fun (way_:(Int × Int))=>(some way_.2)) (Bo (Gh (A7 (Rp.mono (Same.new o41.g) Ab)))) fun xc78 way_ Gc75 sc76 rc77=>⟨(AY (K:=K) (D6 (Dv (A7 rc77)) (Dh (A7 (Rp.mono sc76 o41.tell)) (ev_neg Aw)))),(EH (A7 rc77))⟩) h91 xt.gh fun v86 G87 H88 x89 r90=>?_;clear 1 x89 A6 CF rx57 2 o41 3 mk53;clear 2 b92 h93;refine B9 (AY (K:=K) (Jc (A7 r90) (FV.ev (Bu (Bp (α:=Int)))))) h93 xt.gh fun G94 H95 x96=>?_;clear 1 x96 A6 CF rx57 r90 2 o41 3 mk53
   cases b92 with
   | true =>
    clear 3;clear 2 a104 h105 z112 h106;refine D0 (K:=K) rfl o41 (Dh (A7 r90) (EW (CO (AX (m:=Ah) (A7 A6) (Be (A7 CF) (A7 rx57)))) (BH (A7 r90)))) h105 h106 xt.gh fun G107 H108 w109 x110 o111=>?_;have xt:Ext G0 H0 G107 (upd H108 p38 (.lst (vs39++[w109]))):=(xt.trans x110).put hz40 o111.g;clear 0 x110 3 mk53;cases hm;exact kN60 _ _ _ _ rfl ⟨_,_,xt,mk53,rfl,⟨_,o111⟩⟩
   | false =>
    clear 4;cases hm;exact kN60 _ _ _ _ rfl ⟨_,_,xt,mk53,rfl,⟨_,o41⟩⟩
  ·rintro s50 _ G116 H117 rfl ⟨v113,v114,xt,mk115,rfl,⟨vs39,o41⟩⟩;refine Fb ?_;have sf:=Same.new (o:=.lst vs39) o41.g;have xt:=xt.frz hz40 o41.g o41.h;have r118:=o41.tell;clear 2 Eb h124;refine Af (K:=K) (J1 (BH (A7 r118)) Aw) h124 xt.gh fun v119 G120 H121 x122 r123=>?_;clear 1 x122 r118;clear 2 fl125 h126;refine sv_while (K:=K) (G:=G120) (RR:=fun r v G' H'=>Ext G0 H0 G' H'/\Rp.rel K G' v r) h126 (fun s127 S' G' H'=>∃ (v128:V),Ext G0 H0 G' H'/\Same G120 G'/\S'=[some Ap,some Co,some Je,some v17,v113,v114,some v128,none]/\Rp.rel K G' v128 (s127:Int)) ⟨?_,?_,?_,?_,?_,?_⟩
   ·exact ⟨v119,xt,(Same.refl _),rfl,r123⟩
   ·rintro _ S' G' H' ⟨v128,xt,mk129,rfl,r130⟩;exact xt.gh
   ·rintro s127 _ G131 H132 b' ⟨v128,xt,mk129,rfl,r130⟩ hc Q' k';clear 9 mk129 r118;refine TV.run (tv_and (AY (K:=K) (FK (A7 r130) Aw)) (AY (K:=K) (Hz (Dh (A7 r118) (A7 r130)) (FV.ev (Dl (A7 r118) Fs (EA (K:=K) (A7 r130))))))) hc xt.gh fun G137 H138 x139=>?_;clear 1 x139 r130 3 mk129;exact k' _ _ ⟨v128,xt,mk129,rfl,r130⟩
   ·rintro s127 _ G141 H142 fl140 ⟨v128,xt,mk129,rfl,r130⟩ hm - D' kN143 kC144 kB145 kR146;clear 2 Eb h152;refine Af (K:=K) (J1 (A7 r130) Aw) h152 xt.gh fun v147 G148 H149 x150 r151=>?_;clear 1 x150 3 mk129;cases hm;exact kN143 _ _ _ _ rfl ⟨v147,xt,mk129,rfl,r151⟩
   ·rintro s127 _ G156 H157 rfl ⟨v153,xt,mk154,rfl,r155⟩;refine Fb ?_;clear 9 mk154 r118;clear 2 KF h167;refine Af (K:=K) (Lv (A7 r118) (Dh (A7 r118) (A7 r155))) h167 xt.gh fun v162 G163 H164 x165 r166=>?_;clear 1 x165 r118 r155;exact AQ (K:=K) (Cu (FV.ev (Dl (A7 r118) Fs (EA (K:=K) (A7 r166)))) (FV.ev (Dl (A7 r118) (EA (K:=K) (A7 r166)) (EA (K:=K) (A7 r155))))) hm xt.gh fun v168 G169 H170 x171 r172=>q v168 G169 H170 (xt.trans x171) r172
   ·clear 5
  ·clear 5
theorem Kk (F:DIn K mg "is_gone" GF)(T:Txt mg):IT P w K mg base:=by
 refine F.okM3 (m:=Dg) KL fun _ _ _ _ _ H0 _ _ hr G0 ways_ EO Kd res v_ways_ v_mark_ v_steps_ xt r_ways_ r_mark_ r_steps_ hm q=>?_;unfold Dg at hm
 refine ⟨_,(A5 (AN (AW (Lu (K:=K) rfl rfl) (by rfl) T.any_ bt_any (A4 (C5 (cn:=["steps","ways"]) (cap:=[2,0]) rfl ⟨by decide +kernel,rfl,by decide +kernel,BP rfl⟩ rfl (by decide +kernel) ⟨⟨rfl,.inl rfl,rfl⟩,⟨rfl,.inl rfl,rfl⟩,trivial⟩ (Bg (K:=K) rfl (pv 1)) (fun C s0 H0 fp=>⟨Ba,(Ff (op_inE (K:=K) rfl (Int × Int) hr (by decide)) (AG K (pv 2) (pv 0)) (pv 1) rfl)⟩)) A8)))
   AA),?_⟩
 exact AQ (K:=K) (ev_any (FV.ev (C9 (cap:=[2,0]) (fe:=fun (Bc:Int)=>(((some ways_).bind fun t5=>(some Bc).bind fun t6=>atI t5 t6).bind fun t7=>(some (memE t7 Kd)))) (Bo (A7 r_mark_)) fun xc4 Bc Gc1 sc2 rc3=>(L9 (Dh (A7 (Rp.mono sc2 r_ways_)) (A7 rc3)) (A7 (Rp.mono sc2 r_steps_)))))) hm xt.gh fun v10 G11 H12 x13 r14=>q v10 G11 H12 (xt.trans x13) r14
theorem KU (F:DIn K mg "is_walk" GM)(T:Txt mg)(BO:Da P w K mg base)(GJ:IT P w K mg base):Hw P w K mg base:=by
 refine F.okM3 (m:=CG) FM fun _ _ _ _ _ H0 _ _ hr G0 machine_ stem_ ring_ res EE CZ Cb xt At Ae AT hm q=>?_;unfold CG at hm
 refine ⟨_,(A5 (AI (i:=3) FM (AG K (pv 0) A9))
   (A5 (B7 (PW.pt (CL (Aa EY (AZ K T.len_ (pv 2)) A9 (Ao _)) (Bq (Aa (IZ (K:=K) rfl) (AG K (Ag K (pv 1) (pv 2)) A9) (AG K (pv 0) A9) rfl)))) (A5 (AN Bh)
   AA) AA)
   (A5 (B7 (BE (AU K (AW (D4 (K:=K) rfl rfl) (by rfl) T.all_ Fx (A4 (C5 (cn:=["ways"]) (cap:=[3]) rfl ⟨by decide +kernel,rfl,by decide +kernel,BP rfl⟩ rfl (by decide +kernel) ⟨⟨rfl,.inl rfl,rfl⟩,trivial⟩ (Bg (K:=K) rfl (AK BO hr (by decide) rfl (A4 (Ag K (pv 1) (pv 2)) (A4 (AG K (pv 2) A9) A8)))) (fun C s0 H0 fp=>⟨Ba,(Ff (op_inE (K:=K) rfl (Int × Int) hr (by decide)) (pv 0) (pv 1) rfl)⟩)) A8)))) (A5 (AN Bh)
   AA) AA)
   (A5 (AI (i:=4) FM (AK BO hr (by decide) rfl (A4 (pv 2) (A4 (AG K (pv 2) A9) A8))))
   (A5 (AN (AW (D4 (K:=K) rfl rfl) (by rfl) T.all_ Fx (A4 (C5 (cn:=["ways","around"]) (cap:=[3,4]) rfl ⟨by decide +kernel,rfl,by decide +kernel,BP rfl⟩ rfl (by decide +kernel) ⟨⟨rfl,.inl rfl,rfl⟩,⟨rfl,.inl rfl,rfl⟩,trivial⟩ (Bg (K:=K) rfl (AG K (pv 0) A9)) (fun C s0 H0 fp=>⟨Ba,(AK GJ hr (by decide) rfl (A4 (pv 1) (A4 (pv 0) (A4 (pv 2) A8))))⟩)) A8)))
   AA))))),?_⟩
 clear 2 ways_ h6;refine Af (K:=K) (Gh (A7 At)) h6 xt.gh fun v1 G2 H3 x4 r5=>?_;clear 1 x4 At Ae AT;clear 2 b13 h14;refine B9 (F4 (AY (K:=K) (D6 (BH (A7 AT)) Aw)) (AY (K:=K) (Hz (Dh (FV.ev (Gs (A7 Ae) (A7 AT))) Aw) (Eg (A7 At))))) h14 xt.gh fun G15 H16 x17=>?_;clear 1 x17 At Ae AT r5
 cases b13 with
 | true =>
  clear 3;exact AQ (K:=K) (rest:=BY) (σ:=[some EE,some CZ,some Cb,some v1,none]) Cv hm xt.gh fun v18 G19 H20 x21 r22=>q v18 G19 H20 (xt.trans x21) r22
 | false =>
  clear 4;clear 2 b36 h37;refine B9 (BC (Cf (K:=K) (GL (FV.ev (C9 (cap:=[3]) (fe:=fun (Ks:(Int × Int))=>(some (memE Ks ways_))) (Bo (FV.ev (JN (m:=CS) (FV.ev (Gs (A7 Ae) (A7 AT))) (Dh (A7 AT) Aw)))) fun xc32 Ks Gc29 sc30 rc31=>(L9 (A7 rc31) (A7 (Rp.mono sc30 r5)))))))) h37 xt.gh fun G38 H39 x40=>?_;clear 1 x40 At AT r5
  cases b36 with
  | true =>
   clear 3;exact AQ (K:=K) (rest:=BY) (σ:=[some EE,some CZ,some Cb,some v1,none]) Cv hm xt.gh fun v41 G42 H43 x44 r45=>q v41 G42 H43 (xt.trans x44) r45
  | false =>
   clear 4;clear 2 Ik h55;refine Af (K:=K) (FV.ev (JN (m:=CS) (A7 AT) (Dh (A7 AT) Aw))) h55 xt.gh fun v50 G51 H52 x53 r54=>?_;clear 1 x53 At r5;exact AQ (K:=K) (GL (FV.ev (C9 (cap:=[3,4]) (fe:=fun (EO:(List Int))=>((some ways_).bind fun t60=>(some EO).bind fun t61=>(some Ik).bind fun t62=>Dg t60 t61 t62)) (Bo (KG (A7 At))) fun xc59 EO Gc56 sc57 rc58=>(Cr (m:=Gi) (A7 (Rp.mono sc57 r5)) (A7 rc58) (A7 (Rp.mono sc57 r54)))))) hm xt.gh fun v65 G66 H67 x68 r69=>q v65 G66 H67 (xt.trans x68) r69
theorem Gq {f:Addr}{fd:FuncData}(F:Fun K "_law_listed" "_law_listed" Cz f fd):FnOk P w K mg base CX0 1 f fd ["_law_found","_law_due"] (spM K (Am 0)):=by
 refine F.ok DZ (fun vs H Q E h=>(Dx h).trans rfl) (fun cdv A outer s H0 vs Q E hr h=>?_);obtain ⟨_,_,_,_,_,hm,_⟩:=h;exact nomatch (hm:none=some _)
theorem Hr {f:Addr}{fd:FuncData}(F:Fun K "_law_listed" "_law_listed" Cz f fd)(T:Txt mg)(GQ:Nat)(Ar:DefOk P w K mg base "_law_listed" (1+GQ) ["_law_found","_law_due"] (spM K (Am GQ))):FnOk P w K mg base CX0 (1+GQ+1) f fd ["_law_found","_law_due"] (spM K (Am (GQ+1))):=by
 refine F.ok DZ (fun vs H Q E h=>(Dx h).trans rfl) (fun cdv A outer s H0 vs Q E hr h=>?_);obtain ⟨G0,⟨found_,⟨due_,⟨⟩⟩⟩,res,sg0,⟨BR,_,rfl,AH,⟨FG,_,rfl,By,rfl⟩⟩,hm,q⟩:=h;replace AH:Rp.rel K G0 BR found_:=AH;replace By:Rp.rel K G0 FG due_:=By;replace hm:Bs (Aj GQ) found_ due_=some res:=hm;unfold Bs at hm;have xt:Ext G0 H0 G0 H0:=Ext.refl sg0
 refine ⟨_,(A5 (B7 (PW.pt (CL (BE (AU K (AW (Al (K:=K) rfl) (by rfl) T.isinstance_ AO (A4 (pv 0) (A4 (BJ (v:=.ty "list") rfl T.list_ Bw rfl) A8))))) (Bq (Aa IG (AZ K T.len_ (pv 0)) (AZ K T.len_ (pv 1)) (Ao _))))) (A5 (AN Bh)
   AA) AA)
   (A5 (Ed PassesOwn.never rfl (CB rfl T.range_ (A4 (AZ K T.len_ (pv 1)) A8)) (Ch (i:=2) DZ) (A5 (B7 (AU K (AW (Al (K:=K) rfl) (by rfl) T.isinstance_ AO (A4 (AG K (pv 1) (pv 2)) (A4 (BJ (v:=.ty "tuple") rfl T.tuple_ Dn rfl) A8)))) (A5 (B7 (PW.pt (CL (BE (AU K (AW (Al (K:=K) rfl) (by rfl) T.isinstance_ AO (A4 (AG K (pv 0) (pv 2)) (A4 (BJ (v:=.ty "tuple") rfl T.tuple_ Dn rfl) A8))))) (Bq (BE (AU K (AK Ar hr (by omega) rfl (A4 (Bi (CW (K:=K) rfl) (by rfl) T.list_ Bw (A4 (AG K (pv 0) (pv 2)) A8)) (A4 (Bi (CW (K:=K) rfl) (by rfl) T.list_ Bw (A4 (AG K (pv 1) (pv 2)) A8)) A8)))))))) (A5 (AN Bh)
   AA) AA)
   AA) (A5 (B7 (PW.pt (CL (AU K (AW (Al (K:=K) rfl) (by rfl) T.isinstance_ AO (A4 (AG K (pv 0) (pv 2)) (A4 (BJ (v:=.ty "bool") rfl T.bool_ LF rfl) A8)))) (Bq (Aa IG (AW (Al (K:=K) rfl) (by rfl) T.isinstance_ AO (A4 (AG K (pv 0) (pv 2)) (A4 (BJ (v:=.ty "str") rfl T.str_ Kq rfl) A8))) (AW (Al (K:=K) rfl) (by rfl) T.isinstance_ AO (A4 (AG K (pv 1) (pv 2)) (A4 (BJ (v:=.ty "str") rfl T.str_ Kq rfl) A8))) (Ao _))))) (A5 (AN Bh)
   AA) (A5 (B7 (Aa (Gv (K:=K) rfl SI hr (by decide)) (AG K (pv 0) (pv 2)) (AG K (pv 1) (pv 2)) (Ao _)) (A5 (AN Bh)
   AA) AA)
   AA))
   AA))
   AA))
   (A5 (AN Bh)
   AA))),?_⟩
 clear 2 b7 h8;refine B9 (F4 (BC (Cf (K:=K) (Dj (by decide) (A7 AH)))) (AY (K:=K) (HU (Ih (A7 AH)) (Ih (A7 By))))) h8 xt.gh fun G9 H10 x11=>?_;clear 1 x11 AH By
 cases b7 with
 | true =>
  clear 3;exact AQ (K:=K) (rest:=BY) (σ:=[some BR,some FG,none]) Cv hm xt.gh fun v12 G13 H14 x15 r16=>q v12 G13 H14 (xt.trans x15) r16
 | false =>
  clear 4;clear 2 as19 h20 fl21 h22;refine EU (K:=K) (RR:=fun r v G' H'=>Ext G0 H0 G' H'/\Rp.rel K G' v r) (DJ (Ih (A7 By))) h20 h22 xt.gh fun G23 H24 x25=>⟨fun s26 S' G' H'=>∃ (v27:Option V),Ext G0 H0 G' H'/\Same G23 G'/\S'=[some BR,some FG,v27],?_,?_,?_,?_,?_⟩
  ·clear 1 x25;exact ⟨_,xt,(Same.refl _),rfl⟩
  ·rintro _ S' G' H' ⟨v27,xt,mk28,rfl⟩;exact ⟨mk28,xt.gh⟩
  ·rintro xv29 a30 s26 _ G33 H34 fl31 - ⟨v27,xt,mk28,rfl⟩ rx32 hm D' kN35 kC36 kB37 kR38;have AH:=Rp.mono (x25.gg.trans mk28) AH;have By:=Rp.mono (x25.gg.trans mk28) By;refine DN ?_;clear 2 b42 h43;refine B9 (Cf (K:=K) (Dj (by decide) (Dy (A7 By) (A7 rx32)))) h43 xt.gh fun G44 H45 x46=>?_;clear 1 x46 AH By rx32 3 mk28
   cases b42 with
   | true =>
    clear 3;clear 2 b65 h66;refine B9 (F4 (BC (Cf (K:=K) (Dj (by decide) (Dy (A7 AH) (A7 rx32))))) (BC (Cf (K:=K) (AX (m:=Am GQ) (CA (FV.ev (K9 (IS (Dy (A7 AH) (A7 rx32)))))) (CA (FV.ev (K9 (IS (Dy (A7 By) (A7 rx32)))))))))) h66 xt.gh fun G67 H68 x69=>?_;clear 1 x69 3 mk28
    cases b65 with
    | true =>
     clear 3;clear 2 rr75 h76;cases hm;exact AQ (K:=K) (rest:=BY) (σ:=[some BR,some FG,some xv29]) Cv h76 xt.gh fun v70 G71 H72 x73 r74=>kR38 _ v70 G71 H72 rfl ⟨xt.trans x73,r74⟩
    | false =>
     clear 4;cases hm;exact kN35 _ _ _ _ rfl ⟨_,xt,mk28,rfl⟩
   | false =>
    clear 4;clear 2 b92 h93;refine B9 (F4 (Cf (K:=K) (Dj (by decide) (Dy (A7 AH) (A7 rx32)))) (AY (K:=K) (ev_neB (Dj (by decide) (Dy (A7 AH) (A7 rx32))) (Dj (by decide) (Dy (A7 By) (A7 rx32)))))) h93 xt.gh fun G94 H95 x96=>?_;clear 1 x96 AH By rx32 3 mk28
    cases b92 with
    | true =>
     clear 3;clear 2 rr102 h103;cases hm;exact AQ (K:=K) (rest:=BY) (σ:=[some BR,some FG,some xv29]) Cv h103 xt.gh fun v97 G98 H99 x100 r101=>kR38 _ v97 G98 H99 rfl ⟨xt.trans x100,r101⟩
    | false =>
     clear 4;clear 2 b118 h119;refine B9 (AY (K:=K) (Jc (LQ (Dy (A7 AH) (A7 rx32))) (LQ (Dy (A7 By) (A7 rx32))))) h119 xt.gh fun G120 H121 x122=>?_;clear 1 x122 3 mk28
     cases b118 with
     | true =>
      clear 3;clear 2 rr128 h129;cases hm;exact AQ (K:=K) (rest:=BY) (σ:=[some BR,some FG,some xv29]) Cv h129 xt.gh fun v123 G124 H125 x126 r127=>kR38 _ v123 G124 H125 rfl ⟨xt.trans x126,r127⟩
     | false =>
      clear 4;cases hm;exact kN35 _ _ _ _ rfl ⟨_,xt,mk28,rfl⟩
  ·rintro s26 _ G132 H133 rfl ⟨v130,xt,mk131,rfl⟩;refine Fb ?_;exact AQ (K:=K) (rest:=BY) (σ:=[some BR,some FG,v130]) Cv hm xt.gh fun v134 G135 H136 x137 r138=>q v134 G135 H136 (xt.trans x137) r138
  ·clear 5
theorem Hu (F:DIn K mg "_law_as_due" Dp)(T:Txt mg)(Ar:E5 P w K mg base):Fw P w K mg base:=by
 refine F.okM3 (m:=B8) Cc fun _ _ _ _ _ H0 _ _ hr G0 found_ stem_ ring_ res BR CZ Cb xt AH Ae AT hm q=>?_;unfold B8 at hm
 refine ⟨_,(A5 (AI (i:=3) Cc (Ag K (AZ K T.len_ (pv 1)) (AZ K T.len_ (pv 2))))
   (A5 (B7 (PW.pt (CL (BE (AU K (AW (Al (K:=K) rfl) (by rfl) T.isinstance_ AO (A4 (pv 0) (A4 (BJ (v:=.ty "tuple") rfl T.tuple_ Dn rfl) A8))))) (Bq (Aa IG (AZ K T.len_ (pv 0)) A9 (Ao _))))) (A5 (AN Bh)
   AA) AA)
   (A5 (AI (i:=4) Cc (Bm A8))
   (A5 (Ed PassesOwn.never rfl (M3 rfl T.range_ (A4 A9 (A4 (pv 3) A8))) (Ch (i:=5) Cc) (A5 (CN (BM K (pv 4) (Cn (A4 (Ai JL (pv 5) A9) (A4 (pv 5) A8)))))
   AA))
   (A5 (CN (BM K (pv 4) (Cn (A4 (Ai JL (pv 3) A9) (A4 (AZ K T.len_ (pv 1)) A8)))))
   (A5 (B7 (PW.pt (CL (BE (AU K (AK Ar hr (by decide) rfl (A4 (AG K (pv 0) A9) (A4 (Ag K (pv 1) (pv 2)) A8))))) (Bq (BE (AU K (AK Ar hr (by decide) rfl (A4 (AG K (pv 0) A9) (A4 (pv 4) A8)))))))) (A5 (AN Bh)
   AA) AA)
   (A5 (AN (Ei (AK Ar hr (by decide) rfl (A4 (AG K (pv 0) A9) (A4 (Bm (A4 A9 A8)) A8))) (FE (AK Ar hr (by decide) rfl (A4 (AG K (pv 0) A9) (A4 (Bm A8) A8))))))
   AA))))))),?_⟩
 clear 2 BN h6;refine Af (K:=K) (Be (BH (A7 Ae)) (BH (A7 AT))) h6 xt.gh fun v1 G2 H3 x4 r5=>?_;clear 1 x4 AH Ae AT;clear 2 b7 h8;refine B9 (DX (BC (Cf (K:=K) (CK (b:=true) (by decide +kernel) (A7 AH)))) (AY (K:=K) (HU (LA (A7 AH)) Aw))) h8 xt.gh fun G9 H10 x11=>?_;clear 1 x11 AH Ae AT r5
 cases b7 with
 | true =>
  clear 3;exact AQ (K:=K) (rest:=BY) (σ:=[some BR,some CZ,some Cb,some v1,none,none]) Cv hm xt.gh fun v12 G13 H14 x15 r16=>q v12 G13 H14 (xt.trans x15) r16
 | false =>
  clear 4;clear 2 ways_ h24;refine GA (K:=K) (Bu (Bp (α:=(Int × Int)))) h24 xt.gh fun p17 vs18 G19 H20 x21 hz22 o23=>?_;clear 1 x21 AH Ae AT r5 4 hz22;clear 2 as27 h28 fl29 h30;refine EU (K:=K) (RR:=fun r v G' H'=>Ext G0 H0 G' H'/\Rp.rel K G' v r) (iw_rng2 Aw (A7 r5)) h28 h30 xt.gh fun G31 H32 x33=>⟨fun s34 S' G' H'=>∃ (v35:Option V),Ext G0 H0 G' H'/\Same G31 G'/\S'=[some BR,some CZ,some Cb,some v1,some (V.ref p17),v35]/\(∃ vs,Own K G' H' (V.ref p17) p17 vs s34),?_,?_,?_,?_,?_⟩
  ·clear 1 x33 2 o23;exact ⟨_,xt,(Same.refl _),rfl,⟨_,o23⟩⟩
  ·rintro _ S' G' H' ⟨v35,xt,mk36,rfl,⟨vs18,o23⟩⟩;exact ⟨mk36,xt.gh⟩
  ·rintro xv37 a38 s34 _ G41 H42 fl39 - ⟨v35,xt,mk36,rfl,⟨vs18,o23⟩⟩ rx40 hm D' kN43 kC44 kB45 kR46;refine DN ?_;clear 2 a47 h48 z55 h49;refine D0 (K:=K) rfl o23 (Cu (J1 (A7 rx40) Aw) (A7 rx40)) h48 h49 xt.gh fun G50 H51 w52 x53 o54=>?_;have xt:Ext G0 H0 G50 (upd H51 p17 (.lst (vs18++[w52]))):=(xt.trans x53).put hz22 o54.g;clear 0 x53 3 mk36;cases hm;exact kN43 _ _ _ _ rfl ⟨_,xt,mk36,rfl,⟨_,o54⟩⟩
  ·rintro s34 _ G58 H59 rfl ⟨v56,xt,mk57,rfl,⟨vs18,o23⟩⟩;refine Fb ?_;have AH:=Rp.mono (x33.gg.trans mk57) AH;have Ae:=Rp.mono (x33.gg.trans mk57) Ae;have AT:=Rp.mono (x33.gg.trans mk57) AT;have r5:=Rp.mono (x33.gg.trans mk57) r5;clear 2 a60 h61 z68 h62;refine D0 (K:=K) rfl o23 (Cu (J1 (A7 r5) Aw) (BH (A7 Ae))) h61 h62 xt.gh fun G63 H64 w65 x66 o67=>?_;have xt:Ext G0 H0 G63 (upd H64 p17 (.lst (vs18++[w65]))):=(xt.trans x66).put hz22 o67.g;clear 0 x66 AH Ae AT;have sf:=Same.new (o:=.lst (vs18++[w65])) o67.g;have xt:=xt.frz hz22 o67.g o67.h;have r79:=o67.tell;clear 9 sf AH Ae AT;clear 2 b90 h91;refine B9 (F4 (BC (Cf (K:=K) (AX (m:=Am 3) (CA (GK (A7 AH))) (CA (FV.ev (Gs (A7 Ae) (A7 AT))))))) (BC (Cf (K:=K) (AX (m:=Am 3) (CA (Gh (A7 AH))) (CA (A7 r79)))))) h91 xt.gh fun G92 H93 x94=>?_;clear 1 x94 AH
   cases b90 with
   | true =>
    clear 3;exact AQ (K:=K) (rest:=BY) (σ:=[some BR,some CZ,some Cb,some v1,some (V.ref p17),v56]) Cv hm xt.gh fun v95 G96 H97 x98 r99=>q v95 G96 H97 (xt.trans x98) r99
   | false =>
    clear 4;exact AQ (K:=K) (ED (AX (m:=Am 3) (CA (Eg (A7 AH))) (CA (FV.ev (Bu (Cp (CA Aw) (Bp (α:=D))))))) (AX (m:=Am 3) (CA (KG (A7 AH))) (CA (FV.ev (Bu (Bp (α:=D))))))) hm xt.gh fun v105 G106 H107 x108 r109=>q v105 G106 H107 (xt.trans x108) r109
  ·clear 5
theorem FR (F:DIn K mg "is_number_below" CQ)(T:Txt mg):CM P w K mg base:=by
 refine F.okM2 (m:=Ay) FQ fun _ _ _ _ _ H0 _ _ hr G0 thing_ BN res B4 Ci xt AD BB hm q=>?_;unfold Ay at hm
 refine ⟨_,(A5 (AN (Ei (AW (Al (K:=K) rfl) (by rfl) T.isinstance_ AO (A4 (pv 0) (A4 (BJ (v:=.ty "int") rfl T.int_ bt_int rfl) A8))) (Ei (pe_not (AW (Al (K:=K) rfl) (by rfl) T.isinstance_ AO (A4 (pv 0) (A4 (BJ (v:=.ty "bool") rfl T.bool_ LF rfl) A8)))) (FE (pe_chain op_leU Io A9 (pv 0) (pv 1))))))
   AA),?_⟩
 exact AQ (K:=K) (ED (CK (b:=true) (by decide +kernel) (A7 AD)) (ED (ev_not (CK (b:=false) (by decide +kernel) (A7 AD))) (ev_chain Aw (A7 AD) (A7 BB)))) hm xt.gh fun v7 G8 H9 x10 r11=>q v7 G8 H9 (xt.trans x10) r11
theorem F2 (F:DIn K mg "are_numbers_once" C7)(T:Txt mg)(Az:CM P w K mg base):C8 P w K mg base:=by
 refine F.okM2 (m:=Au) F1 fun _ _ _ _ _ H0 _ _ hr G0 thing_ BN res B4 Ci xt AD BB hm q=>?_;unfold Au at hm
 refine ⟨_,(A5 (B7 (PW.pt (CL (BE (AU K (AW (Al (K:=K) rfl) (by rfl) T.isinstance_ AO (A4 (pv 0) (A4 (BJ (v:=.ty "list") rfl T.list_ Bw rfl) A8))))) (Bq (BE (AU K (AW (D4 (K:=K) rfl rfl) (by rfl) T.all_ Fx (A4 (C5 (cn:=["count"]) (cap:=[1]) rfl ⟨by decide +kernel,rfl,by decide +kernel,BP rfl⟩ rfl (by decide +kernel) ⟨⟨rfl,.inl rfl,rfl⟩,trivial⟩ (Bg (K:=K) rfl (pv 0)) (fun C s0 H0 fp=>⟨Ba,(AK Az hr (by decide) rfl (A4 (pv 0) (A4 (pv 1) A8)))⟩)) A8))))))) (A5 (AN Bh)
   AA) AA)
   (A5 (AN (Ff EY (AW (Jk (w:=w) rfl) (by rfl) T.len_ Ka (A4 (Bi (Lf (K:=K) (w:=w) rfl rfl rfl) (by rfl) T.set_ bt_set (A4 (pv 0) A8)) A8)) (AZ K T.len_ (pv 0)) (Ao _)))
   AA)),?_⟩
 clear 2 b11 h12;refine B9 (F4 (BC (Cf (K:=K) (CK (b:=true) (by decide +kernel) (A7 AD)))) (BC (Cf (K:=K) (GL (FV.ev (C9 (cap:=[1]) (fe:=fun (Bc:Int)=>((some Bc).bind fun t5=>(some BN).bind fun t6=>Ay t5 t6)) (Bo (A7 AD)) fun xc4 Bc Gc1 sc2 rc3=>(AX (m:=Bd) (A7 rc3) (A7 (Rp.mono sc2 BB))))))))) h12 xt.gh fun G13 H14 x15=>?_;clear 1 x15 AD
 cases b11 with
 | true =>
  clear 3;exact AQ (K:=K) (rest:=BY) (σ:=[some B4,some Ci]) Cv hm xt.gh fun v16 G17 H18 x19 r20=>q v16 G17 H18 (xt.trans x19) r20
 | false =>
  clear 4;exact AQ (K:=K) (D6 (Ln (w:=w) (A7 AD)) (BH (A7 AD))) hm xt.gh fun v23 G24 H25 x26 r27=>q v23 G24 H25 (xt.trans x26) r27
theorem Ij (F:DIn K mg "are_marks" ES)(T:Txt mg)(B6:C8 P w K mg base):GR P w K mg base:=by
 refine F.okM2 (m:=Cg) JB fun _ _ _ _ _ H0 _ _ hr G0 thing_ many_ways_ res B4 J3 xt AD E6 hm q=>?_;unfold Cg at hm
 refine ⟨_,(A5 (B7 (PW.pt (CL (BE (AU K (AW (Al (K:=K) rfl) (by rfl) T.isinstance_ AO (A4 (pv 0) (A4 (BJ (v:=.ty "list") rfl T.list_ Bw rfl) A8))))) (Bq (Aa GD (AZ K T.len_ (pv 0)) (HY rfl T.MOST_MARKS) (Ao _))))) (A5 (AN Bh)
   AA) AA)
   (A5 (AN (AW (D4 (K:=K) rfl rfl) (by rfl) T.all_ Fx (A4 (C5 (cn:=["many_ways"]) (cap:=[1]) rfl ⟨by decide +kernel,rfl,by decide +kernel,BP rfl⟩ rfl (by decide +kernel) ⟨⟨rfl,.inl rfl,rfl⟩,trivial⟩ (Bg (K:=K) rfl (pv 0)) (fun C s0 H0 fp=>⟨Ba,(AK B6 hr (by decide) rfl (A4 (pv 0) (A4 (pv 1) A8)))⟩)) A8)))
   AA)),?_⟩
 clear 2 b1 h2;refine B9 (DX (BC (Cf (K:=K) (CK (b:=true) (by decide +kernel) (A7 AD)))) (AY (K:=K) (FK (BH (A7 AD)) Aw))) h2 xt.gh fun G3 H4 x5=>?_;clear 1 x5 AD E6
 cases b1 with
 | true =>
  clear 3;exact AQ (K:=K) (rest:=BY) (σ:=[some B4,some J3]) Cv hm xt.gh fun v6 G7 H8 x9 r10=>q v6 G7 H8 (xt.trans x9) r10
 | false =>
  clear 4;exact AQ (K:=K) (GL (FV.ev (C9 (cap:=[1]) (fe:=fun (EO:(List Int))=>((some EO).bind fun t15=>(some many_ways_).bind fun t16=>Au t15 t16)) (Bo (A7 AD)) fun xc14 EO Gc11 sc12 rc13=>(AX (m:=Bz) (A7 rc13) (A7 (Rp.mono sc12 E6)))))) hm xt.gh fun v19 G20 H21 x22 r23=>q v19 G20 H21 (xt.trans x22) r23
theorem JT (F:DIn K mg "is_moment" Ej)(T:Txt mg):GV P w K mg base:=by
 refine F.okM1 (m:=Bt) Cy fun _ _ _ _ _ H0 _ _ hr G0 thing_ res B4 xt AD hm q=>?_;unfold Bt at hm
 refine ⟨_,(A5 (B7 (BE (AU K (AW (Al (K:=K) rfl) (by rfl) T.isinstance_ AO (A4 (pv 0) (A4 (BJ (v:=.ty "str") rfl T.str_ Kq rfl) A8))))) (A5 (AN Bh)
   AA) AA)
   (A5 (AI (i:=1) Cy Ea)
   (A5 (Ed PassesOwn.never rfl (Bg (K:=K) rfl (pv 0)) (Ch (i:=2) Cy) (A5 (B7 (PW.pt (CL (Aa Io (pv 2) Ea (Ao _)) (CL (Aa GD (pv 2) Ea (Ao _)) (Bq (Aa op_leU (pv 2) (pv 1) (Ao _)))))) (A5 (AN Bh)
   AA) AA)
   (A5 (AI (i:=1) Cy (pv 2))
   AA)))
   (A5 (AN Bh)
   AA)))),?_⟩
 clear 2 b1 h2;refine B9 (BC (Cf (K:=K) (CK (b:=true) (by decide +kernel) (A7 AD)))) h2 xt.gh fun G3 H4 x5=>?_;clear 1 x5 AD
 cases b1 with
 | true =>
  clear 3;exact AQ (K:=K) (rest:=BY) (σ:=[some B4,none,none]) Cv hm xt.gh fun v6 G7 H8 x9 r10=>q v6 G7 H8 (xt.trans x9) r10
 | false =>
  clear 4;clear 2 Eb h16;refine Af (K:=K) LZ h16 xt.gh fun v11 G12 H13 x14 r15=>?_;clear 1 x14 AD;clear 2 as17 h18 fl19 h20;refine EU (K:=K) (RR:=fun r v G' H'=>Ext G0 H0 G' H'/\Rp.rel K G' v r) (iw_str (A7 AD)) h18 h20 xt.gh fun G21 H22 x23=>⟨fun s24 S' G' H'=>∃ (v25:V) (v26:Option V),Ext G0 H0 G' H'/\Same G21 G'/\S'=[some B4,some v25,v26]/\Rp.rel K G' v25 (s24:Str),?_,?_,?_,?_,?_⟩
  ·clear 1 x23 r15;exact ⟨v11,_,xt,(Same.refl _),rfl,r15⟩
  ·rintro _ S' G' H' ⟨v25,v26,xt,mk27,rfl,r28⟩;exact ⟨mk27,xt.gh⟩
  ·rintro xv29 a30 s24 _ G33 H34 fl31 - ⟨v25,v26,xt,mk27,rfl,r28⟩ rx32 hm D' kN35 kC36 kB37 kR38;refine DN ?_;clear 2 b39 h40;refine B9 (DX (AY (K:=K) (JG (A7 rx32) LZ)) (DX (AY (K:=K) (JG (A7 rx32) LZ)) (AY (K:=K) (JG (A7 rx32) (A7 r28))))) h40 xt.gh fun G41 H42 x43=>?_;clear 1 x43 rx32 3 mk27
   cases b39 with
   | true =>
    clear 3;clear 2 rr49 h50;cases hm;exact AQ (K:=K) (rest:=BY) (σ:=[some B4,some v25,some xv29]) Cv h50 xt.gh fun v44 G45 H46 x47 r48=>kR38 _ v44 G45 H46 rfl ⟨xt.trans x47,r48⟩
   | false =>
    clear 4;clear 2 Eb h56;refine Af (K:=K) (A7 rx32) h56 xt.gh fun v51 G52 H53 x54 r55=>?_;clear 1 x54 3 mk27;cases hm;exact kN35 _ _ _ _ rfl ⟨v51,_,xt,mk27,rfl,r55⟩
  ·rintro s24 _ G61 H62 rfl ⟨v57,v58,xt,mk59,rfl,r60⟩;refine Fb ?_;exact AQ (K:=K) (rest:=BY) (σ:=[some B4,some v57,v58]) Cv hm xt.gh fun v63 G64 H65 x66 r67=>q v63 G64 H65 (xt.trans x66) r67
  ·clear 5
theorem Gk (F:DIn K mg "are_moments" DY)(T:Txt mg)(En:GV P w K mg base):F6 P w K mg base:=by
 refine F.okM1 (m:=Bj) HF fun _ _ _ _ _ H0 _ _ hr G0 thing_ res B4 xt AD hm q=>?_;unfold Bj at hm
 refine ⟨_,(A5 (B7 (PW.pt (CL (BE (AU K (AW (Al (K:=K) rfl) (by rfl) T.isinstance_ AO (A4 (pv 0) (A4 (BJ (v:=.ty "list") rfl T.list_ Bw rfl) A8))))) (CL (Aa EY (AZ K T.len_ (pv 0)) A9 (Ao _)) (Bq (Aa GD (AZ K T.len_ (pv 0)) (HY rfl T.MOST_STATES) (Ao _)))))) (A5 (AN Bh)
   AA) AA)
   (A5 (AN (AW (D4 (K:=K) rfl rfl) (by rfl) T.all_ Fx (A4 (C5 (cn:=[]) (cap:=[]) rfl ⟨by decide +kernel,rfl,by decide +kernel,BP rfl⟩ rfl (by decide +kernel) trivial (Bg (K:=K) rfl (pv 0)) (fun C s0 H0 fp=>⟨Ba,(AK En hr (by decide) rfl (A4 (pv 0) A8))⟩)) A8)))
   AA)),?_⟩
 clear 2 b1 h2;refine B9 (DX (BC (Cf (K:=K) (CK (b:=true) (by decide +kernel) (A7 AD)))) (DX (AY (K:=K) (D6 (BH (A7 AD)) Aw)) (AY (K:=K) (FK (BH (A7 AD)) Aw)))) h2 xt.gh fun G3 H4 x5=>?_;clear 1 x5 AD
 cases b1 with
 | true =>
  clear 3;exact AQ (K:=K) (rest:=BY) (σ:=[some B4]) Cv hm xt.gh fun v6 G7 H8 x9 r10=>q v6 G7 H8 (xt.trans x9) r10
 | false =>
  clear 4;exact AQ (K:=K) (GL (FV.ev (C9 (cap:=[]) (fe:=fun (Gg:Str)=>((some Gg).bind fun t15=>Bt t15)) (Bo (A7 AD)) fun xc14 Gg Gc11 sc12 rc13=>(Fv (m:=Fn) (A7 rc13))))) hm xt.gh fun v18 G19 H20 x21 r22=>q v18 G19 H20 (xt.trans x21) r22
theorem ML (F:DIn K mg "is_way" HP)(T:Txt mg)(Az:CM P w K mg base):KC P w K mg base:=by
 refine F.okM2 (m:=ET) Lq fun _ _ _ _ _ H0 _ _ hr G0 thing_ BN res B4 Ci xt AD BB hm q=>?_;unfold ET at hm
 refine ⟨_,(A5 (B7 (PW.pt (CL (BE (AU K (AW (Al (K:=K) rfl) (by rfl) T.isinstance_ AO (A4 (pv 0) (A4 (BJ (v:=.ty "tuple") rfl T.tuple_ Dn rfl) A8))))) (Bq (Aa IG (AZ K T.len_ (pv 0)) A9 (Ao _))))) (A5 (AN Bh)
   AA) AA)
   (A5 (AN (Ei (AK Az hr (by decide) rfl (A4 (AG K (pv 0) A9) (A4 (pv 1) A8))) (FE (AK Az hr (by decide) rfl (A4 (AG K (pv 0) A9) (A4 (pv 1) A8))))))
   AA)),?_⟩
 clear 2 b1 h2;refine B9 (DX (BC (Cf (K:=K) (CK (b:=true) (by decide +kernel) (A7 AD)))) (AY (K:=K) (HU (Kw (A7 AD)) Aw))) h2 xt.gh fun G3 H4 x5=>?_;clear 1 x5 AD BB
 cases b1 with
 | true =>
  clear 3;exact AQ (K:=K) (rest:=BY) (σ:=[some B4,some Ci]) Cv hm xt.gh fun v6 G7 H8 x9 r10=>q v6 G7 H8 (xt.trans x9) r10
 | false =>
  clear 4;exact AQ (K:=K) (ED (AX (m:=Bd) (Dv (A7 AD)) (A7 BB)) (AX (m:=Bd) (EH (A7 AD)) (A7 BB))) hm xt.gh fun v16 G17 H18 x19 r20=>q v16 G17 H18 (xt.trans x19) r20
theorem K5 (F:DIn K mg "are_ways" FS)(T:Txt mg)(Gy:KC P w K mg base):HV P w K mg base:=by
 refine F.okM2 (m:=DF) KA fun _ _ _ _ _ H0 _ _ hr G0 thing_ BN res B4 Ci xt AD BB hm q=>?_;unfold DF at hm
 refine ⟨_,(A5 (B7 (PW.pt (CL (BE (AU K (AW (Al (K:=K) rfl) (by rfl) T.isinstance_ AO (A4 (pv 0) (A4 (BJ (v:=.ty "list") rfl T.list_ Bw rfl) A8))))) (Bq (Aa GD (AZ K T.len_ (pv 0)) (HY rfl T.MOST_WAYS) (Ao _))))) (A5 (AN Bh)
   AA) AA)
   (A5 (AN (Ei (AW (D4 (K:=K) rfl rfl) (by rfl) T.all_ Fx (A4 (C5 (cn:=["count"]) (cap:=[1]) rfl ⟨by decide +kernel,rfl,by decide +kernel,BP rfl⟩ rfl (by decide +kernel) ⟨⟨rfl,.inl rfl,rfl⟩,trivial⟩ (Bg (K:=K) rfl (pv 0)) (fun C s0 H0 fp=>⟨Ba,(AK Gy hr (by decide) rfl (A4 (pv 0) (A4 (pv 1) A8)))⟩)) A8)) (FE (Ff EY (AW MH (by rfl) T.len_ Ka (A4 (Bi (Kf (K:=K) (w:=w) (hu60 hr) rfl rfl rfl) (by rfl) T.set_ bt_set (A4 (pv 0) A8)) A8)) (AZ K T.len_ (pv 0)) (Ao _)))))
   AA)),?_⟩
 clear 2 b1 h2;refine B9 (DX (BC (Cf (K:=K) (CK (b:=true) (by decide +kernel) (A7 AD)))) (AY (K:=K) (FK (BH (A7 AD)) Aw))) h2 xt.gh fun G3 H4 x5=>?_;clear 1 x5 AD BB
 cases b1 with
 | true =>
  clear 3;exact AQ (K:=K) (rest:=BY) (σ:=[some B4,some Ci]) Cv hm xt.gh fun v6 G7 H8 x9 r10=>q v6 G7 H8 (xt.trans x9) r10
 | false =>
  clear 4;exact AQ (K:=K) (ED (GL (FV.ev (C9 (cap:=[1]) (fe:=fun (way_:(Int × Int))=>((some way_).bind fun t15=>(some BN).bind fun t16=>ET t15 t16)) (Bo (A7 AD)) fun xc14 way_ Gc11 sc12 rc13=>(AX (m:=IY) (A7 rc13) (A7 (Rp.mono sc12 BB)))))) (D6 (KT (w:=w) (A7 AD)) (BH (A7 AD)))) hm xt.gh fun v22 G23 H24 x25 r26=>q v22 G23 H24 (xt.trans x25) r26
theorem Ho (F:DIn K mg "is_machine" EM)(T:Txt mg)(B6:C8 P w K mg base)(Em:GR P w K mg base)(DO:F6 P w K mg base)(FP:HV P w K mg base):Fa P w K mg base:=by
 refine F.okM1 (m:=Bx) DU fun _ _ _ _ _ H0 _ _ hr G0 thing_ res B4 xt AD hm q=>?_;unfold Bx at hm
 refine ⟨_,(A5 (B7 (PW.pt (CL (BE (AU K (AW (Al (K:=K) rfl) (by rfl) T.isinstance_ AO (A4 (pv 0) (A4 (BJ (v:=.ty "tuple") rfl T.tuple_ Dn rfl) A8))))) (Bq (Aa IG (AZ K T.len_ (pv 0)) A9 (Ao _))))) (A5 (AN Bh)
   AA) AA)
   (A5 (AI (i:=1) DU (AG K (pv 0) A9))
   (A5 (AI (i:=2) DU (AG K (pv 0) A9))
   (A5 (B7 (PW.pt (CL (BE (AU K (AK DO hr (by decide) rfl (A4 (pv 1) A8)))) (Bq (BE (AU K (AK FP hr (by decide) rfl (A4 (pv 2) (A4 (AZ K T.len_ (pv 1)) A8)))))))) (A5 (AN Bh)
   AA) AA)
   (A5 (AN (Ei (AK B6 hr (by decide) rfl (A4 (AG K (pv 0) A9) (A4 (AZ K T.len_ (pv 1)) A8))) (FE (AK Em hr (by decide) rfl (A4 (AG K (pv 0) A9) (A4 (AZ K T.len_ (pv 2)) A8))))))
   AA))))),?_⟩
 clear 2 b1 h2;refine B9 (DX (BC (Cf (K:=K) (CK (b:=true) (by decide +kernel) (A7 AD)))) (AY (K:=K) (HU (LA (A7 AD)) Aw))) h2 xt.gh fun G3 H4 x5=>?_;clear 1 x5 AD
 cases b1 with
 | true =>
  clear 3;exact AQ (K:=K) (rest:=BY) (σ:=[some B4,none,none]) Cv hm xt.gh fun v6 G7 H8 x9 r10=>q v6 G7 H8 (xt.trans x9) r10
 | false =>
  clear 4;clear 2 lit_ h16;refine Af (K:=K) (GK (A7 AD)) h16 xt.gh fun v11 G12 H13 x14 r15=>?_;clear 1 x14 AD;clear 2 ways_ h22;refine Af (K:=K) (Gh (A7 AD)) h22 xt.gh fun v17 G18 H19 x20 r21=>?_;clear 1 x20 AD r15;clear 2 b29 h30;refine B9 (F4 (BC (Cf (K:=K) (Fv (m:=Ee) (A7 r15)))) (BC (Cf (K:=K) (AX (m:=GS) (A7 r21) (BH (A7 r15)))))) h30 xt.gh fun G31 H32 x33=>?_;clear 1 x33 AD r15 r21
  cases b29 with
  | true =>
   clear 3;exact AQ (K:=K) (rest:=BY) (σ:=[some B4,some v11,some v17]) Cv hm xt.gh fun v34 G35 H36 x37 r38=>q v34 G35 H36 (xt.trans x37) r38
  | false =>
   clear 4;exact AQ (K:=K) (ED (AX (m:=Bz) (Eg (A7 AD)) (BH (A7 r15))) (AX (m:=Fo) (KG (A7 AD)) (BH (A7 r21)))) hm xt.gh fun v44 G45 H46 x47 r48=>q v44 G45 H46 (xt.trans x47) r48
theorem Iw (F:DIn K mg "_law_shows" Ef)(T:Txt mg)(Ar:E5 P w K mg base):GO P w K mg base:=by
 refine F.okM3 (m:=Br) JP fun _ _ _ _ _ H0 _ _ hr G0 found_ stem_ ring_ res BR CZ Cb xt AH Ae AT hm q=>?_;unfold Br at hm
 refine ⟨_,(A5 (B7 (PW.pt (CL (BE (AU K (AW (Al (K:=K) rfl) (by rfl) T.isinstance_ AO (A4 (pv 0) (A4 (BJ (v:=.ty "tuple") rfl T.tuple_ Dn rfl) A8))))) (Bq (Aa IG (AZ K T.len_ (pv 0)) A9 (Ao _))))) (A5 (AN Bh)
   AA) AA)
   (A5 (AN (Ei (AK Ar hr (by decide) rfl (A4 (AG K (pv 0) A9) (A4 (pv 1) A8))) (FE (AK Ar hr (by decide) rfl (A4 (AG K (pv 0) A9) (A4 (pv 2) A8))))))
   AA)),?_⟩
 clear 2 b1 h2;refine B9 (DX (BC (Cf (K:=K) (CK (b:=true) (by decide +kernel) (A7 AH)))) (AY (K:=K) (HU (Kw (A7 AH)) Aw))) h2 xt.gh fun G3 H4 x5=>?_;clear 1 x5 AH Ae AT
 cases b1 with
 | true =>
  clear 3;exact AQ (K:=K) (rest:=BY) (σ:=[some BR,some CZ,some Cb]) Cv hm xt.gh fun v6 G7 H8 x9 r10=>q v6 G7 H8 (xt.trans x9) r10
 | false =>
  clear 4;exact AQ (K:=K) (ED (AX (m:=Am 3) (CA (Dv (A7 AH))) (CA (A7 Ae))) (AX (m:=Am 3) (CA (EH (A7 AH))) (CA (A7 AT)))) hm xt.gh fun v16 G17 H18 x19 r20=>q v16 G17 H18 (xt.trans x19) r20
theorem ok_law {f:Addr}{fd:FuncData}(F:Fun K "law" "law" s_law f fd)(T:Txt mg)(DW:FC P w K mg base)(Ce:FB P w K mg base)(Ct:FZ P w K mg base)(DK:GW P w K mg base)(Db:F5 P w K mg base)(D9:EX P w K mg base)(Fz:Hw P w K mg base)(CP:Fw P w K mg base)(AR:DA P w K mg base)(EK:Fa P w K mg base)(DL:GO P w K mg base):FnOk P w K mg base CX0 6 f fd ["_law_script"] (spM K mm_law):=by
 refine F.ok CV (fun vs H Q E h=>(Dx h).trans rfl) (fun cdv A outer s H0 vs Q E hr h=>?_);obtain ⟨G0,⟨script_,⟨⟩⟩,res,sg0,⟨Ap,_,rfl,A6,rfl⟩,hm,q⟩:=h;replace A6:Rp.rel K G0 Ap script_:=A6;replace hm:Ja script_=some res:=hm;unfold Ja at hm;have xt:Ext G0 H0 G0 H0:=Ext.refl sg0
 refine ⟨_,(A5 (AI (i:=1) CV (AK DW hr (by decide) rfl (A4 (Ai B5 (AK AR hr (by decide) rfl (A4 (pv 0) (A4 A9 A8))) A9) A8)))
   (A5 (AI (i:=2) CV (AK Ce hr (by decide) rfl (A4 (pv 0) (A4 A9 (A4 (Ai B5 (AK AR hr (by decide) rfl (A4 (pv 0) (A4 A9 A8))) A9) (A4 (pv 1) A8))))))
   (A5 (AI (i:=3) CV (AK Ce hr (by decide) rfl (A4 (pv 0) (A4 A9 (A4 (Ag K A9 (Ai B5 (AK AR hr (by decide) rfl (A4 (pv 0) (A4 A9 A8))) A9)) (A4 (pv 1) A8))))))
   (A5 (AI (i:=4) CV (Cn (A4 (Bi (CW (K:=K) rfl) (by rfl) T.list_ Bw (A4 (pv 2) A8)) (A4 (Bi (CW (K:=K) rfl) (by rfl) T.list_ Bw (A4 (pv 3) A8)) A8))))
   (A5 (AI (i:=5) CV (AK Ct hr (by decide) rfl (A4 (pv 4) A8)))
   (A5 (B7 (PW.pt (CL (BE (AU K (AK CP hr (by decide) rfl (A4 (pv 5) (A4 (pv 2) (A4 (pv 3) A8)))))) (Bq (BE (AU K (AK EK hr (by decide) rfl (A4 (pv 5) A8))))))) (A5 (AN Bh)
   AA) AA)
   (A5 (EL (i:=6) (Ku CV) rfl (Or.inl rfl) (cn:=[]) (cap:=[]) rfl ⟨by decide +kernel,rfl,by decide +kernel,BP rfl⟩ rfl (by decide +kernel) trivial (CB rfl T.range_ (A4 (Ag K (AZ K T.len_ (pv 2)) (AZ K T.len_ (pv 3))) A8)) (fun C s0 H0 fp=>⟨Ba,(pv 0)⟩))
   (A5 (AI (i:=7) CV (Cn (A4 (Di (Et (K:=K) rfl) (pv 6) Fc (Dw (AZ K T.len_ (pv 2)))) (A4 (Di (Et (K:=K) rfl) (pv 6) (Dw (AZ K T.len_ (pv 2))) Fc) A8))))
   (A5 (B7 (BE (AU K (AK Fz hr (by decide) rfl (A4 (pv 5) (A4 (AG K (pv 7) A9) (A4 (AG K (pv 7) A9) A8)))))) (A5 (AN Bh)
   AA) AA)
   (A5 (AI (i:=8) CV (AK DK hr (by decide) rfl (A4 (pv 5) (A4 (AG K (pv 7) A9) (A4 (AG K (pv 7) A9) A8)))))
   (A5 (B7 (PW.pt (CL (BE (AU K (AK DL hr (by decide) rfl (A4 (pv 8) (A4 (pv 2) (A4 (pv 3) A8)))))) (Bq (BE (AU K (AK CP hr (by decide) rfl (A4 (pv 5) (A4 (pv 2) (A4 (pv 3) A8))))))))) (A5 (AN Bh)
   AA) AA)
   (A5 (AI (i:=9) CV (AK Db hr (by decide) rfl (A4 (pv 0) (A4 (pv 1) A8))))
   (A5 (AI (i:=10) CV (Cn (A4 (AG K (pv 9) A9) (A4 (AG K (pv 9) A9) (A4 (AG K (pv 9) A9) (A4 (Bm A8) A8))))))
   (A5 (AI (i:=11) CV (AK D9 hr (by decide) rfl (A4 (pv 0) (A4 (pv 10) (A4 A9 A8)))))
   (A5 (B7 (PW.pt (pw_and (Aa (Gv (K:=K) rfl (List Int) hr (by decide)) (AG K (pv 11) A9) (Bm A8) (Ao _)) (LD (Aa (Gv (K:=K) rfl (List Int) hr (by decide)) (AG K (pv 10) A9) (Bm A8) (Ao _))))) (A5 (AI (i:=12) CV (AK DK hr (by decide) rfl (A4 (pv 10) (A4 (Bi (CW (K:=K) rfl) (by rfl) T.list_ Bw (A4 (AG K (pv 11) A9) A8)) (A4 (Bi (CW (K:=K) rfl) (by rfl) T.list_ Bw (A4 (AG K (pv 11) A9) A8)) A8)))))
   (A5 (B7 (BE (AU K (AK DL hr (by decide) rfl (A4 (pv 12) (A4 (C5 (cn:=["_law_bare"]) (cap:=[10]) rfl ⟨by decide +kernel,rfl,by decide +kernel,BP rfl⟩ rfl (by decide +kernel) ⟨⟨rfl,.inl rfl,rfl⟩,trivial⟩ (Bg (K:=K) rfl (AG K (pv 11) A9)) (fun C s0 H0 fp=>⟨Ba,(AG K (AG K (pv 1) A9) (pv 0))⟩)) (A4 (C5 (cn:=["_law_bare"]) (cap:=[10]) rfl ⟨by decide +kernel,rfl,by decide +kernel,BP rfl⟩ rfl (by decide +kernel) ⟨⟨rfl,.inl rfl,rfl⟩,trivial⟩ (Bg (K:=K) rfl (AG K (pv 11) A9)) (fun C s0 H0 fp=>⟨Ba,(AG K (AG K (pv 1) A9) (pv 0))⟩)) A8)))))) (A5 (AN Bh)
   AA) AA)
   AA)) AA)
   (A5 (CN (BM K (AG K (pv 5) A9) Ea))
   (A5 (CN (pe_bm0K (K:=K) rfl PySem.F.plainAttrs_list PySem.F.slot_list_clear PySem.F.type_list_clear mt_clear (AG K (pv 5) A9)))
   (A5 (CN (BM K (AG K (pv 5) A9) A9))
   (A5 (CN (BM K (AG K (pv 5) A9) (Bm A8)))
   (A5 (CN (BM K (AG K (pv 8) A9) Ea))
   (A5 (AN (Ei (Ff (op_eqK (K:=K) rfl ((List Str) × (List Str)) hr (by decide)) (pv 4) (Cn (A4 (pv 2) (A4 (pv 3) A8))) (Ao _)) (FE (AK CP hr (by decide) rfl (A4 (AK Ct hr (by decide) rfl (A4 (pv 4) A8)) (A4 (pv 2) (A4 (pv 3) A8)))))))
   AA))))))))))))))))))))),?_⟩
 clear 2 Ad h10;refine Af (K:=K) (Fv (m:=ER) (BA (AX (m:=Ah) (A7 A6) Aw))) h10 xt.gh fun v5 G6 H7 x8 r9=>?_;clear 1 x8 A6;clear 2 stem_ h23;refine Af (K:=K) (L8 (m:=DE) (A7 A6) Aw (BA (AX (m:=Ah) (A7 A6) Aw)) (A7 r9)) h23 xt.gh fun v18 G19 H20 x21 r22=>?_;clear 1 x21 A6 r9;clear 2 ring_ h37;refine Af (K:=K) (L8 (m:=DE) (A7 A6) Aw (Be Aw (BA (AX (m:=Ah) (A7 A6) Aw))) (A7 r9)) h37 xt.gh fun v32 G33 H34 x35 r36=>?_;clear 1 x35 A6 r9 r22;clear 2 run_ h43;refine Af (K:=K) (Cu (FV.ev (Gf (A7 r22))) (FV.ev (Gf (A7 r36)))) h43 xt.gh fun v38 G39 H40 x41 r42=>?_;clear 1 x41 A6 r9 r22 r36;clear 2 Ec h50;have xtA:=xt;have aR:=r42;have aS:=r22;have aT:=r36;refine sv_set4 (K:=K) (HR (m:=Ca) (A7 r42)) h50 xt.gh fun v45 z1 z2 z3 z4 G46 H47 x48 r49 n5=>?_;have yt:=x48;clear 1 x48 A6 r9 r22 r36;clear 2 b58 h59;refine B9 (F4 (BC (Cf (K:=K) (Cr (m:=C4) (A7 r49) (A7 r22) (A7 r36)))) (BC (Cf (K:=K) (Fv (m:=F8) (A7 r49))))) h59 xt.gh fun G60 H61 x62=>?_;clear 1 x62;have yt:=yt.trans x62;have n5:=n5.mono x62.gg;clear 0 x62 A6 r9 r22 r36 r49
 cases b58 with
 | true =>
  clear 3;exact AQ (K:=K) (rest:=BY) (σ:=[some Ap,some v5,some v18,some v32,some v38,some v45,none,none,none,none,none,none,none]) Cv hm xt.gh fun v63 G64 H65 x66 r67=>q v63 G64 H65 (xt.trans x66) r67
 | false =>
  clear 4;clear 2 Ey h79;refine Af (K:=K) (FV.ev (C9 (cap:=[]) (fe:=fun (k_:Int)=>(some k_)) (DJ (Be (BH (A7 r22)) (BH (A7 r36)))) fun xc72 k_ Gc69 sc70 rc71=>(A7 rc71))) h79 xt.gh fun v74 G75 H76 x77 r78=>?_;clear 1 x77;have yt:=yt.trans x77;have n5:=n5.mono x77.gg;clear 0 x77 A6 r9 r22 r36 r49;clear 2 gone_ h85;refine Af (K:=K) (Cu (FV.ev (Dl (A7 r78) Fs (EA (K:=K) (BH (A7 r22))))) (FV.ev (Dl (A7 r78) (EA (K:=K) (BH (A7 r22))) Fs))) h85 xt.gh fun v80 G81 H82 x83 r84=>?_;clear 1 x83;have yt:=yt.trans x83;have n5:=n5.mono x83.gg;clear 0 x83 A6 r9 r22 r36 r49;clear 2 b90 h91;refine B9 (BC (Cf (K:=K) (Cr (m:=HW) (A7 r49) (Dv (A7 r84)) (EH (A7 r84))))) h91 xt.gh fun G92 H93 x94=>?_;clear 1 x94;have yt:=yt.trans x94;have n5:=n5.mono x94.gg;clear 0 x94 A6 r9 r22 r36 r49 r84
  cases b90 with
  | true =>
   clear 3;exact AQ (K:=K) (rest:=BY) (σ:=[some Ap,some v5,some v18,some v32,some v38,some v45,some v74,some v80,none,none,none,none,none]) Cv hm xt.gh fun v95 G96 H97 x98 r99=>q v95 G96 H97 (xt.trans x98) r99
  | false =>
   clear 4;clear 2 JS h108;refine sv_setP2 (K:=K) (LG (m:=E8) (A7 r49) (Dv (A7 r84)) (EH (A7 r84))) h108 xt.gh fun v103 w1 w2 G104 H105 x106 r107 n10=>?_;have n10:=n10.base yt.hh;clear 1 x106;have yt:=yt.trans x106;have n5:=n5.mono x106.gg;clear 0 x106 A6 r9 r22 r36 r49;clear 2 b118 h119;refine B9 (F4 (BC (Cf (K:=K) (Cr (m:=Dz) (A7 r107) (A7 r22) (A7 r36)))) (BC (Cf (K:=K) (Cr (m:=C4) (A7 r49) (A7 r22) (A7 r36))))) h119 xt.gh fun G120 H121 x122=>?_;clear 1 x122;have yt:=yt.trans x122;have n5:=n5.mono x122.gg;have n10:=n10.mono x122.gg;clear 0 x122 A6 r9
   cases b118 with
   | true =>
    clear 3;exact AQ (K:=K) (rest:=BY) (σ:=[some Ap,some v5,some v18,some v32,some v38,some v45,some v74,some v80,some v103,none,none,none,none]) Cv hm xt.gh fun v123 G124 H125 x126 r127=>q v123 G124 H125 (xt.trans x126) r127
   | false =>
    clear 4;clear 2 drawn_ h135;refine Af (K:=K) (AX (m:=Eh) (A7 A6) (A7 r9)) h135 xt.gh fun v130 G131 H132 x133 r134=>?_;clear 1 x133;have yt:=yt.trans x133;have n5:=n5.mono x133.gg;have n10:=n10.mono x133.gg;clear 0 x133 A6;clear 2 bare_ h141;refine Af (K:=K) (LR (GK (A7 r134)) (Gh (A7 r134)) (Eg (A7 r134)) (FV.ev (Bu (Bp (α:=(List Int)))))) h141 xt.gh fun v136 G137 H138 x139 r140=>?_;clear 1 x139;have yt:=yt.trans x139;have n5:=n5.mono x139.gg;have n10:=n10.mono x139.gg;clear 0 x139 A6;clear 2 walk_ h150;refine Af (K:=K) (Cr (m:=EN) (A7 A6) (A7 r140) Aw) h150 xt.gh fun v145 G146 H147 x148 r149=>?_;clear 1 x148;have yt:=yt.trans x148;have n5:=n5.mono x148.gg;have n10:=n10.mono x148.gg;clear 0 x148 r140;clear 2 b151 h152;refine B9 (tv_andP (AY (K:=K) (Jc (EH (A7 r149)) (FV.ev (Bu (Bp (α:=Int)))))) (AY (K:=K) (Jc (Eg (A7 r140)) (FV.ev (Bu (Bp (α:=Int))))))) h152 xt.gh fun G153 H154 x155=>?_;clear 1 x155;have yt:=yt.trans x155;have n5:=n5.mono x155.gg;have n10:=n10.mono x155.gg;clear 0 x155 r140 r149
    cases b151 with
    | true =>
     clear 3;clear 2 told_ h164;refine Af (K:=K) (NV.ev (LG (m:=E8) (A7 r140) (FV.ev (Gf (Dv (A7 r149)))) (FV.ev (Gf (EH (A7 r149)))))) h164 xt.gh fun v159 G160 H161 x162 r163=>?_;clear 1 x162;have yt:=yt.trans x162;have n5:=n5.mono x162.gg;have n10:=n10.mono x162.gg;clear 0 x162 r140 r149;clear 2 b183 h184;refine B9 (BC (Cf (K:=K) (Cr (m:=Dz) (A7 r163) (FV.ev (C9 (cap:=[10]) (fe:=fun (k_:Int)=>((some bare_.a).bind fun t169=>(some k_).bind fun t170=>atI t169 t170)) (Bo (Dv (A7 r149))) fun xc168 k_ Gc165 sc166 rc167=>(Dh (GK (A7 (Rp.mono sc166 r140))) (A7 rc167)))) (FV.ev (C9 (cap:=[10]) (fe:=fun (k_:Int)=>((some bare_.a).bind fun t176=>(some k_).bind fun t177=>atI t176 t177)) (Bo (EH (A7 r149))) fun xc175 k_ Gc172 sc173 rc174=>(Dh (GK (A7 (Rp.mono sc173 r140))) (A7 rc174))))))) h184 xt.gh fun G185 H186 x187=>?_;clear 1 x187;have yt:=yt.trans x187;have n5:=n5.mono x187.gg;have n10:=n10.mono x187.gg
     cases b183 with
     | true =>
      clear 3;exact AQ (K:=K) (rest:=BY) (σ:=[some Ap,some v5,some v18,some v32,some v38,some v45,some v74,some v80,some v103,some v130,some v136,some v145,some v159]) Cv hm xt.gh fun v188 G189 H190 x191 r192=>q v188 G189 H190 (xt.trans x191) r192
     | false =>
      clear 4;clear 2 _ hk;obtain ⟨S1,S2⟩:=Kx hk n5 n10 xt.gh;refine CD (K:=K) (i:=5) (j:=0) (n:=8) rfl S1 S2 rfl yt.hh (fun Q k=>k _ _ (Same.refl _)) fun HA A1 A2 A3=>?_;refine Jz (K:=K) (i:=5) (j:=1) (n:=7) rfl A1 A2 rfl A3 fun HB B1 B2 B3=>?_;refine CD (K:=K) (i:=5) (j:=2) (n:=6) rfl B1 B2 rfl B3 (fun Q k=>k _ _ (Same.refl _)) fun HC C1 C2 C3=>?_;refine CD (K:=K) (i:=5) (j:=3) (n:=5) rfl C1 C2 rfl C3 (fun Q k=>⟨qsB _,fun p hp=>k _ _ (Same.new hp)⟩) fun HD D1 D2 D3=>?_;refine CD (K:=K) (i:=8) (j:=1) (n:=4) rfl D2 D1 rfl D3 (fun Q k=>k _ _ (Same.refl _)) fun HE E1 E2 E3=>?_;have xt:=xtA.spoil E3;exact AQ (K:=K) (ED (ev_eq (A7 aR) (Cu (A7 aS) (A7 aT))) (Cr (m:=C4) (EV4.ev (HR (m:=Ca) (A7 aR))) (A7 aS) (A7 aT))) hm xt.gh fun v198 G199 H200 x201 r202=>q v198 G199 H200 (xt.trans x201) r202
    | false =>
     clear 4;clear 2 _ hk;obtain ⟨S1,S2⟩:=Kx hk n5 n10 xt.gh;refine CD (K:=K) (i:=5) (j:=0) (n:=8) rfl S1 S2 rfl yt.hh (fun Q k=>k _ _ (Same.refl _)) fun HA A1 A2 A3=>?_;refine Jz (K:=K) (i:=5) (j:=1) (n:=7) rfl A1 A2 rfl A3 fun HB B1 B2 B3=>?_;refine CD (K:=K) (i:=5) (j:=2) (n:=6) rfl B1 B2 rfl B3 (fun Q k=>k _ _ (Same.refl _)) fun HC C1 C2 C3=>?_;refine CD (K:=K) (i:=5) (j:=3) (n:=5) rfl C1 C2 rfl C3 (fun Q k=>⟨qsB _,fun p hp=>k _ _ (Same.new hp)⟩) fun HD D1 D2 D3=>?_;refine CD (K:=K) (i:=8) (j:=1) (n:=4) rfl D2 D1 rfl D3 (fun Q k=>k _ _ (Same.refl _)) fun HE E1 E2 E3=>?_;have xt:=xtA.spoil E3;exact AQ (K:=K) (ED (ev_eq (A7 aR) (Cu (A7 aS) (A7 aT))) (Cr (m:=C4) (EV4.ev (HR (m:=Ca) (A7 aR))) (A7 aS) (A7 aT))) hm xt.gh fun v208 G209 H210 x211 r212=>q v208 G209 H210 (xt.trans x211) r212
end
def abcN:List Nat:=List.range' 97 26
def one (c:Nat):Str:=⟨#[c]⟩
theorem one_len (c:Nat):(one c).length=1:=rfl
theorem LC:("abcdefghijklmnopqrstuvwxyz" : Str).cps.toList=abcN:=by decide +kernel
theorem Lp (x:Str):Hd x=x.cps.toList.map one:=rfl
theorem abc_pw:abcN.Pairwise (· < ·):=List.pairwise_lt_range'
def Mom (x:Str):Prop:=x.cps.toList.Sublist abcN
theorem Mom.pw {x:Str}(h:Mom x):x.cps.toList.Pairwise (· < ·):=abc_pw.sublist h
theorem pw_eq {a b:List Nat}(ha:a.Pairwise (· < ·))(hb:b.Pairwise (· < ·))(h:∀ x,x∈a ↔ x∈b):a=b :=
 List.Perm.eq_of_pairwise (le:=(· < ·)) (fun x y _ _ h1 h2=>absurd h1 (Nat.lt_asymm h2)) ha hb ((List.perm_ext_iff_of_nodup (ha.imp fun h=>qoB h) (hb.imp fun h=>qoB h)).mpr h)
theorem leS_one {a b:Nat}(h:a<=b):leS (one a) (one b)=true:=by
 unfold leS one;rw [Bool.not_eq_true',decide_eq_false_iff_not];intro q;have:=(LJ b a).mp q;omega
theorem sortS_eq {ys zs:List Str}(hp:zs.Perm ys)(hz:zs.Pairwise fun a b=>leS a b=true):Gn ys=zs :=
 (List.Perm.eq_of_pairwise (fun a b _ _ h1 h2=>K6 h1 h2) hz (List.pairwise_mergeSort GC IC ys) (hp.trans (DD ys).symm)).symm
theorem HZ {n i:Nat}{a:Int}(h:((List.range n).map fun (i:Nat)=>(0:Int)+(i:Int))[i]? = some a):i<n/\a=(i:Int):=by
 have hi:i<n:=by simpa using (qtA.mp h).1
 refine ⟨hi,?_⟩;simp [hi] at h;omega
theorem Cs (n:Nat):((List.range n).map fun (i:Nat)=>(0:Int)+(i:Int)).length=n:=by rw [qeA,qiA]
theorem Bf (s:Scr)(k:Int)(h0:0<=k)(h1:k<=100){P:Int->Prop}(hp:∀ n,P n):OK (AV s k) P:=by
 unfold AV;simp only [qfB,Bn,Av];refine An (fun h=>Gr h0 (of_decide_eq_true h) fun x _=>hp x) fun _=>?_;refine EQ (P:=fun z:Int=>-(2 ^ 64)<z/\z<2 ^ 64) (An (fun h=>?_) fun _=>AF (by omega)) fun z hz=>AC (ok_mul (.inl hz) (AF (hp _)));have h:=of_decide_eq_true h;refine AC (FN h (AC (Gr (qhB _ (by omega)) (qiB _ h) fun x _=>AF ?_)));have a0:=qhB (x * 48271+k * 7919) (b:=2147483647) (by decide);have a1:=qiB (x * 48271+k * 7919) (b:=2147483647) (by decide);omega
def hd (r:List Int):Int:=r.headD 0
def stp (st:List Int)(f:Int):List (Int × Int):=st.zip (st.drop 1++[f])
theorem M5 (st:List Int)(h:st ≠ []):Cm st (some (1:Int)) none=st.drop 1:=by
 have hl:1<=st.length:=List.length_pos_iff.mpr h;unfold Cm;have h1:HT.sIx st.length 0 (some (1:Int))=1:=(HT.sIx_nat st.length 0 1).trans (by omega);have h2:HT.sIx st.length st.length none=st.length:=rfl;rw [h1,h2];exact List.take_of_length_le (by rw [List.length_drop];omega)
theorem steps_eq {st:List Int}(h:st ≠ [])(hl:st.length<=4000)(f:Int):BG st f=some (stp st f):=by
 have hs:sizeLine=16777216:=qeB;have hp:1<=st.length:=List.length_pos_iff.mpr h;refine OK.eq ?_;unfold BG;simp only [qfB,Bn,Av,M5 st h];refine AC (Is (by rw [List.length_drop,qhA];omega) ⟨_,if_pos ⟨?_,hl⟩,rfl⟩);rw [qfA,List.length_drop,qhA];omega
def Ok1 (W:List (Int × Int))(mark:List Int):Prop:=∀ n∈mark,0<=n/\n<(W.length:Int)
abbrev Mac:=T4 (List Str) (List (Int × Int)) (List Int) (List (List Int))
theorem Ir (a b:Nat):decide ([a] < [b])=decide (a<b):=decide_eq_decide.mpr (LJ a b)
theorem KB {x:Str}(h:Mom x):Bt x=some true:=by
 refine OK.eq ?_;unfold Bt;simp only [qfB,Bn,Av,Bool.not_true,cond_false];have hp:=h.pw
 have hm:∀ c∈x.cps.toList,97<=c/\c<=122:=fun c hc=>by
  have:=(List.Sublist.subset h) hc;unfold abcN at this;have:=List.mem_range'_1.mp this;omega
 have a1:("a" : Str).cps.toList=[97]:=by decide +kernel
 have z1:("z" : Str).cps.toList=[122]:=by decide +kernel
 have e0:("" : Str).cps.toList=[]:=by decide +kernel
 rw [Lp];refine AC (DG (fun i (s:Str)=>(i=0/\s = "")\/∃ c,x.cps.toList[i - 1]? = some c/\s=one c/\0<i) (.inl ⟨rfl,rfl⟩) (fun i a s ha hI=>?_) fun s _=>AF rfl)
 obtain ⟨c,hc,rfl⟩:∃ c,x.cps.toList[i]? = some c/\a=one c:=by
  rw [List.getElem?_map] at ha;obtain ⟨c,h1,h2⟩:=Option.map_eq_some_iff.mp ha;exact ⟨c,h1,h2.symm⟩
 have hcb:=hm c (qsA hc);have oc:(one c).cps.toList=[c]:=rfl
 have hlast:decide (s.cps.toList<(one c).cps.toList)=true:=by
  rcases hI with ⟨_,rfl⟩ | ⟨d,hd,rfl,h0⟩
  ·rw [e0,oc]
   rfl
  ·show decide ([d] < [c])=true;rw [Ir,decide_eq_true_iff];obtain ⟨h1,h2⟩:=qtA.mp hc;obtain ⟨h3,h4⟩:=qtA.mp hd;have:=List.pairwise_iff_getElem.mp hp (i - 1) i h3 h1 (by omega);rw [h2,h4] at this;exact this
 rw [hlast,a1,z1,oc,Ir,Ir,decide_eq_false (by omega),decide_eq_false (by omega)];simp only [Bool.not_true,Bool.or_self,cond_false];exact AF ⟨_,rfl,.inr ⟨c,by simpa using hc,rfl,by omega⟩⟩
def Ltr (l:List Str):Prop:=∃ cs:List Nat,l=cs.map one/\cs.length=4/\cs.Nodup/\∀ c∈cs,c∈abcN
theorem abc_at (k:Int){P:Str->Prop}(hp:P (one (97+(k % 26).toNat))):OK ((atI ("abcdefghijklmnopqrstuvwxyz" : Str).cps.toList (k % 26)).bind fun z=>some (⟨#[z]⟩:Str)) P:=by
 have h0:=qhB k (b:=26) (by decide);have h1:=qiB k (b:=26) (by decide);rw [LC];refine AC (Gr h0 (by unfold abcN;rw [List.length_range'];exact h1) fun z hz=>AF ?_);unfold abcN at hz;rw [List.getElem?_range' (by omega)] at hz;have e:=qaB hz;have e2:z=97+(k % 26).toNat:=by omega
 rw [e2];exact hp
theorem abc_mem (k:Int):97+(k % 26).toNat∈abcN:=by
 have h1:=qiB k (b:=26) (by decide);have h0:=qhB k (b:=26) (by decide);unfold abcN;exact List.mem_range'_1.mpr ⟨by omega,by omega⟩
theorem map4 {f:Int->Option Str}{g:Int->Nat}(hf:∀ k,f k=some (one (g k)))(l:List Int):Ck f l=some ((l.map g).map one):=by
 refine OK.eq (Ig (g:=fun k=>one (g k)) (fun k _=>hf k) ?_);rw [List.map_map]
 rfl
theorem KJ (c:Int)(h0:0<=c){P:List Str->Prop}(hp:∀ l:List Str,Ltr l->P l):OK (Bk c) P:=by
 unfold Bk;simp only [qfB,Bn,Av];rw [map4 (g:=fun k=>97+(k % 26).toNat) fun k=>OK.eq (abc_at k rfl)];refine AF (hp _ ⟨_,rfl,rfl,?_,fun x hx=>?_⟩)
 ·simp only [qwA,List.map_nil,List.nodup_cons,qmA,qpB,or_false,not_or,not_false_eq_true,List.nodup_nil,and_true];have a0:=qhB (c / 26) (b:=8) (by decide);have a1:=qiB (c / 26) (b:=8) (by decide);have b0:=qhB (c / 208) (b:=8) (by decide);have b1:=qiB (c / 208) (b:=8) (by decide);have d0:=qhB (c / 1664) (b:=9) (by decide);have d1:=qiB (c / 1664) (b:=9) (by decide);generalize c / 26 % 8=a at *;generalize c / 208 % 8=b at *;generalize c / 1664 % 9=d at *;omega
 ·obtain ⟨k,_,rfl⟩:=qnA.mp hx;exact abc_mem k
theorem srt_ex {cs:List Nat}(hn:cs.Nodup):∃ ds:List Nat,ds.Perm cs/\ds.Pairwise (· < ·):=by
 refine ⟨cs.mergeSort (fun a b=>decide (a<=b)),List.mergeSort_perm _ _,?_⟩;have h1:=List.pairwise_mergeSort (le:=fun a b:Nat=>decide (a<=b)) (fun a b c h1 h2=>by simp at *;omega) (fun a b=>by simp;omega) cs;have h2:(cs.mergeSort (fun a b=>decide (a<=b))).Nodup:=(List.mergeSort_perm cs _).nodup_iff.mpr hn;exact (h1.and (List.nodup_iff_pairwise_ne.mp h2)).imp fun ⟨a,b⟩=>by simp at a;omega
theorem lit_ok (letters:List Str)(hL:Ltr letters)(bits:Int):OK (CI letters bits) Mom:=by
 have hs:sizeLine=16777216:=qeB;obtain ⟨cs,rfl,h4,hn,hm⟩:=hL;obtain ⟨ds,dp,dw⟩:=srt_ex hn;unfold CI;simp only [qfB,Bn,Av];have hd:ds.length=4:=by rw [dp.length_eq,h4]
 have es:Gn (cs.map one)=ds.map one:=sortS_eq (dp.map one) (List.pairwise_map.mpr (dw.imp fun h=>leS_one (Nat.le_of_lt h)))
 have eo:L5 (cs.map one)=some (ds.map one):=by
  unfold L5;rw [if_pos (by rw [qeA];omega),es]
 rw [eo];refine AC (AF (AC (DG (fun i (s:Int × Str)=>s.2.cps.toList.Sublist (ds.take i)) (List.Sublist.refl _) (fun i a s ha hI=>?_) fun s hI=>AF ?_)))
 ·rw [List.getElem?_map] at ha;obtain ⟨c,hc,rfl⟩:=Option.map_eq_some_iff.mp ha;have hi:=(qtA.mp hc).1;have et:ds.take (i+1)=ds.take i++[c]:=by rw [List.take_add_one,hc];rfl
  have hlen:s.2.length<=4:=by
   have:=hI.length_le;rw [qjA,qnB] at this;show s.2.cps.size<=4;omega
  refine EQ (P:=fun z:Str=>z.cps.toList.Sublist (ds.take (i+1))) (An (fun _=>ok_catS (by rw [one_len];omega) ?_) fun _=>AF (by rw [et];exact hI.trans (List.sublist_append_left _ _))) fun z hz=>AF ⟨_,rfl,hz⟩;show (s.2++one c).cps.toList.Sublist _;rw [et,show (s.2++one c).cps.toList=s.2.cps.toList++[c] from by show (s.2.cps++#[c]).toList=_;simp];exact hI.append (List.Sublist.refl _)
 ·rw [qeA,List.take_of_length_le (qxA _)] at hI
  have:ds=abcN.filter (fun c=>decide (c∈ds)):=pw_eq dw (abc_pw.sublist List.filter_sublist) fun x=>by
   rw [List.mem_filter];exact ⟨fun h=>⟨hm x (dp.mem_iff.mp h),decide_eq_true h⟩,fun h=>of_decide_eq_true h.2⟩
  exact hI.trans (this ▸ List.filter_sublist)
theorem abc_mom:Mom "abcdefghijklmnopqrstuvwxyz" := by
 unfold Mom;rw [LC];exact List.Sublist.refl _
theorem Hh (s:Scr)(at_:Int)(n:Nat)(h0:0<=at_)(h1:at_<=60)(hn:n<=20)(letters:List Str)(hL:Ltr letters){P:List Str->Prop}(hp:∀ l:List Str,l.length=n->(∀ x∈l,Mom x)->P l):OK (BL s at_ (n:Int) letters) P:=by
 have hs:sizeLine=16777216:=qeB;unfold BL;simp only [qfB,Bn,Av];refine AC (DT (n:=n) (by omega) (by omega) (by omega) ?_);refine AC (DG (fun i (l:List Str)=>l.length=i/\∀ x∈l,Mom x) ⟨rfl,fun x hx=>(by cases hx)⟩ (fun i a l ha ⟨e1,e2⟩=>?_) fun l ⟨e1,e2⟩=>AF (hp l (by rw [Cs] at e1;exact e1) e2));obtain ⟨hi,rfl⟩:=HZ ha;refine AC (Bf s _ (by omega) (by omega) fun c=>EQ (lit_ok letters hL _) fun x hx=>AC (Eu (by omega) (An (fun _=>?_) fun _=>AF ⟨_,rfl,?_,fun y hy=>?_⟩)))
 ·have e:setO (l++[x]) (-(1:Int)) ("abcdefghijklmnopqrstuvwxyz" : Str)=some (l++[("abcdefghijklmnopqrstuvwxyz" : Str)]):=by
   unfold setO;rw [show ixN (l++[x]).length (-(1:Int))=some l.length from ?_]
   ·show some ((l++[x]).set l.length _)=_;rw [List.set_append_right _ _ (qxA _),Nat.sub_self]
    rfl
   ·unfold ixN;rw [if_neg (by decide),if_pos (by rw [qfA,qhA];omega)]
    congr 1
    rw [qfA,qhA];omega
  rw [e];refine AC (AF (AF ⟨_,rfl,?_,fun y hy=>?_⟩))
  ·rw [qfA,qhA,e1]
  ·rcases qkA.mp hy with h|h
   ·exact e2 y h
   ·rw [qoA.mp h];exact abc_mom
 ·rw [qfA,qhA,e1]
 ·rcases qkA.mp hy with h|h
  ·exact e2 y h
  ·rw [qoA.mp h];exact hx
def Fl1 (d:D):Prop:=(∃ x,d = .str x)\/∃ i,d = .int i
theorem kL (l:List D):isK "list" (.lst l)=true:=by simp [isK,dk]
theorem kT (l:List D):isK "tuple" (.tup l)=true:=by simp [isK,dk]
theorem kTs (x:Str):isK "tuple" (.str x)=false:=by simp [isK,dk]
theorem kTi (i:Int):isK "tuple" (.int i)=false:=by simp [isK,dk]
theorem kBs (x:Str):isK "bool" (.str x)=false:=by simp [isK,dk]
theorem kBi (i:Int):isK "bool" (.int i)=false:=by simp [isK,dk]
theorem IF (self:D->D->Option Bool)(l:List D)(hl:l.length<=1000)(h:∀ d∈l,Fl1 d\/∃ es,d = .tup es/\self (.lst es) (.lst es)=some true):Bs self (.lst l) (.lst l)=some true:=by
 have hs:sizeLine=16777216:=qeB;refine OK.eq ?_;unfold Bs;simp only [qfB,Bn,Av,lenD,kL,Bool.not_true,cond_false];refine An (fun q=>?_) fun _=>?_
 ·simp at q
 refine AC (DT (n:=l.length) (by omega) (by omega) (by omega) ?_);refine AC (DG (fun _ _=>True) trivial (fun i a s ha _=>?_) fun s _=>AF rfl);obtain ⟨hi,rfl⟩:=HZ ha;have hd:l[i]? = some l[i]:=quA hi;have ea:atD (.lst l) (i:Int)=some l[i]:=Ip hd;have hm:=h l[i] (List.getElem_mem hi);generalize l[i]=d at ea hm;simp only [ea,Bn];rcases hm with (⟨x,rfl⟩ | ⟨k,rfl⟩) | ⟨es,rfl,he⟩
 ·simp only [kTs,kBs,cond_false,asSI,Bn];refine An (fun q=>?_) fun _=>An (fun q=>?_) fun _=>AF ⟨_,rfl,trivial⟩
  ·simp at q
  ·simp at q
 ·simp only [kTi,kBi,cond_false,asSI,Bn];refine An (fun q=>?_) fun _=>An (fun q=>?_) fun _=>AF ⟨_,rfl,trivial⟩
  ·simp at q
  ·simp at q
 ·have e2:(ToD.to es:D) = .lst es:=by show D.lst (es.map id)=_;rw [List.map_id]
  simp only [kT,cond_true,Bool.not_true,cond_false,Iv,Bn,e2,he];exact AF ⟨_,rfl,trivial⟩
theorem DH (n:Nat)(l:List D)(hl:l.length<=1000)(h:∀ d∈l,Fl1 d):Aj (n+1) (.lst l) (.lst l)=some true:=IF _ l hl fun d hd=>.inl (h d hd)
theorem Er (l:List Str)(hl:l.length<=1000):Aj 3 (ToD.to l) (ToD.to l)=some true :=
 DH 2 _ (by rw [qeA];exact hl) fun d hd=>by
  obtain ⟨x,_,rfl⟩:=qnA.mp hd;exact .inl ⟨x,rfl⟩
theorem JA (l:List (Int × Int))(hl:l.length<=1000):Aj 3 (ToD.to l) (ToD.to l)=some true :=
 IF _ _ (by rw [qeA];exact hl) fun d hd=>by
  obtain ⟨p,_,rfl⟩:=qnA.mp hd;refine .inr ⟨[.int p.1,.int p.2],rfl,DH 1 _ (by show 2<=1000;decide) fun d hd=>?_⟩;rcases qmA.mp hd with rfl|hd
  ·exact .inr ⟨_,rfl⟩
  ·rw [qoA.mp hd];exact .inr ⟨_,rfl⟩
theorem Gu (a b:List Str)(ha:a.length<=1000)(hb:b.length<=1000):Br (a,b) a b=some true:=by
 refine OK.eq ?_;unfold Br;simp only [qfB,Bn,Av,Er a ha,Er b hb,decide_true,Bool.not_true,Bool.or_self,cond_false,cond_true];exact AF rfl
def Wy (a b:Nat):List (Int × Int):=stp ((List.range (a+b)).map fun (i:Nat)=>(0:Int)+(i:Int)) (a:Int)
def Mc (st rg:List Str):Mac:=T4.mk (st++rg) (Wy st.length rg.length) [0] []
theorem LL {st rg:List Str}(h1:st.length<=4)(h2:rg.length<=4)(h3:1<=rg.length):BD (st,rg)=some (Mc st rg):=by
 have hs:sizeLine=16777216:=qeB;refine OK.eq ?_;unfold BD;simp only [qfB,Bn,Av];refine AC (Is (by omega) ?_);refine AC (DT (n:=st.length+rg.length) (by rw [qfA];omega) (by omega) (by omega) ?_);rw [steps_eq (by intro e;have:=congrArg List.length e;rw [Cs,List.length_nil] at this;omega) (by rw [Cs];omega)];exact AF rfl
theorem due_ways:∀ a,a<5->∀ b,b<5->1<=b->((List.range (a+b - 1)).map fun (i:Nat)=>((i:Int),(i:Int)+1))++[((a:Int)+(b:Int) - 1,(a:Int))]=Wy a b:=by decide +kernel
theorem rng1_at {lo:Int}{n i:Nat}{a:Int}(h:((List.range n).map fun (i:Nat)=>lo+(i:Int))[i]? = some a):i<n/\a=lo+(i:Int):=by
 have hi:i<n:=by simpa using (qtA.mp h).1
 refine ⟨hi,?_⟩;simp [hi] at h;omega
theorem Ek {st rg:List Str}(h1:st.length<=4)(h2:rg.length<=4)(h3:1<=rg.length):B8 (Mc st rg) st rg=some true:=by
 have hs:sizeLine=16777216:=qeB;refine OK.eq ?_;unfold B8;simp only [qfB,Bn,Av,decide_true,Bool.not_true,Bool.or_self,cond_false];refine AC (DT (n:=st.length+rg.length - 1) (by omega) (by omega) (by omega) ?_);refine AC (DG (fun i (w:List (Int × Int))=>w=(List.range i).map fun (j:Nat)=>((j:Int),(j:Int)+1)) rfl (fun i a w ha hI=>?_) fun w hI=>?_)
 ·obtain ⟨hi,rfl⟩:=rng1_at ha;subst hI;refine AC (Eu (by rw [qeA,qiA];omega) (AF ⟨_,rfl,?_⟩));rw [List.range_succ,List.map_append,List.map_singleton]
  congr 2
  simp only [Prod.mk.injEq];omega
 ·rw [qeA,qiA] at hI;subst hI;refine AC (Eu (by rw [qeA,qiA];omega) ?_);rw [due_ways _ (by omega) _ (by omega) h3];refine AC (Is (by omega) ?_);have l1:=Er (st++rg) (by rw [qfA];omega);have l2:=JA (Wy st.length rg.length) (by unfold Wy stp;rw [List.length_zip,Cs];omega);have l3:Aj 3 (ToD.to (Mc st rg).c) (ToD.to [(ToD.to (0:Int):D)])=some true:=DH 2 [.int 0] (by show 1<=1000;decide) fun d hd=>by rw [qoA.mp hd];exact .inr ⟨_,rfl⟩
  have l4:Aj 3 (ToD.to (Mc st rg).d) (ToD.to ([]:List D))=some true:=DH 2 [] (qsB _) fun d hd=>by cases hd
  have ea:(Mc st rg).a=st++rg:=rfl;have eb:(Mc st rg).b=Wy st.length rg.length:=rfl;rw [ea,eb,l1];simp only [Bn,Bool.not_true,cond_false,l2,l3,l4,cond_true];exact AF rfl
def pl (n:Nat):List Int:=(List.range n).map fun (i:Nat)=>(0:Int)+(i:Int)
theorem M2:∀ a,a<5->∀ b,b<5->1<=b->DF (Wy a b) ((a+b:Nat):Int)=some true:=by decide +kernel
theorem Lh:∀ n:Nat,n<9->1<=n->Au [0] (n:Int)=some true:=by decide +kernel
theorem Ko:∀ n:Nat,n<9->Cg [] (n:Int)=some true:=by decide +kernel
theorem walk_dec:∀ a,a<5->∀ b,b<5->1<=b->CG (T4.mk [] (Wy a b) [0] []) (Cm (pl (a+b)) none (some (a:Int))) (Cm (pl (a+b)) (some (a:Int)) none)=some true:=by decide +kernel
theorem cut_one:∀ a,a<5->∀ b,b<5->Cm (pl (a+b)) none (some (a:Int))=(List.range a).map (fun (i:Nat)=>(i:Int))/\Cm (pl (a+b)) (some (a:Int)) none=(List.range b).map (fun (i:Nat)=>((a+i:Nat):Int)):=by decide +kernel
theorem wy_len:∀ a,a<5->∀ b,b<5->1<=b->(Wy a b).length=a+b:=by decide +kernel
theorem walk_any (X Y:List Str)(W:List (Int × Int))(s r:List Int):CG (T4.mk X W [0] []) s r=CG (T4.mk Y W [0] []) s r:=rfl
theorem JM {l:List Str}(h:∀ x∈l,Mom x)(h0:1<=l.length)(h8:l.length<=8):Bj l=some true:=by
 refine OK.eq ?_;unfold Bj;simp only [qfB,Bn,Av];refine An (fun q=>?_) fun _=>AC (Ig (g:=fun _=>true) (fun x hx=>KB (h x hx)) (AF ?_))
 ·exfalso;simp only [Bool.not_true,Bool.false_or,Bool.or_eq_true,decide_eq_true_eq] at q;omega
 ·rw [List.all_map];simp
theorem JU {st rg:List Str}(h1:st.length<=4)(h2:rg.length<=4)(h3:1<=rg.length)(hm:∀ x∈st++rg,Mom x):Bx (Mc st rg)=some true:=by
 have hl:(st++rg).length=st.length+rg.length:=qfA;refine OK.eq ?_;unfold Bx;simp only [qfB,Bn,Av,decide_true,Bool.not_true,Bool.or_self,cond_false];have ea:(Mc st rg).a=st++rg:=rfl;have eb:(Mc st rg).b=Wy st.length rg.length:=rfl;have ec:(Mc st rg).c=[0]:=rfl;have ed:(Mc st rg).d=[]:=rfl;rw [ea,eb,ec,ed,JM hm (by omega) (by omega),hl,wy_len _ (by omega) _ (by omega) h3,M2 _ (by omega) _ (by omega) h3,Lh _ (by omega) (by omega),Ko _ (by omega)];exact AF rfl
theorem Lw {st rg:List Str}(h1:st.length<=4)(h2:rg.length<=4)(h3:1<=rg.length):CG (Mc st rg) (Cm (pl (st.length+rg.length)) none (some (st.length:Int))) (Cm (pl (st.length+rg.length)) (some (st.length:Int)) none)=some true :=
 (walk_any _ _ _ _ _).trans (walk_dec _ (by omega) _ (by omega) h3)
def lts (lit:List Str)(st:List Int):List Str:=st.map fun k=>lit.getD k.toNat ""
theorem Gc {lit:List Str}{st:List Int}(h:∀ k∈st,0<=k/\k<(lit.length:Int)):Ck (fun (k:Int)=>atI lit k) st=some (lts lit st):=by
 refine OK.eq (Ig (g:=fun k=>lit.getD k.toNat "") (fun k hk=>?_) rfl);have hk:=h k hk;obtain ⟨n,rfl⟩:=qgB hk.1;have:n<lit.length:=by omega
 exact Ip (by simp [this])
theorem Jm (M:Mac)(st rg:List Int)(h1:∀ k∈st,0<=k/\k<(M.a.length:Int))(h2:∀ k∈rg,0<=k/\k<(M.a.length:Int)):BZ M st rg=some (lts M.a st,lts M.a rg):=by
 refine OK.eq ?_;unfold BZ;simp only [qfB,Bn,Av];refine AC (OK.of (Gc h1) (AC (OK.of (Gc h2) (AF rfl))))
theorem Kr {st rg:List Str}(h1:st.length<=4)(h2:rg.length<=4):BZ (Mc st rg) (Cm (pl (st.length+rg.length)) none (some (st.length:Int))) (Cm (pl (st.length+rg.length)) (some (st.length:Int)) none)=some (st,rg):=by
 obtain ⟨c1,c2⟩:=cut_one st.length (by omega) rg.length (by omega);have hl:(Mc st rg).a.length=st.length+rg.length:=qfA;rw [c1,c2,Jm _ _ _ (fun k hk=>?_) (fun k hk=>?_)]
 ·have e1:lts (Mc st rg).a ((List.range st.length).map (fun (i:Nat)=>(i:Int)))=st:=by
   unfold lts;rw [List.map_map];refine List.ext_getElem (by rw [qeA,qiA]) fun i h1 h2=>?_;show _=_;rw [List.getElem_map,List.getElem_range];show (st++rg).getD i "" = _;rw [qvA,List.getElem?_append_left h2,quA h2]
   rfl
  have e2:lts (Mc st rg).a ((List.range rg.length).map (fun (i:Nat)=>((st.length+i:Nat):Int)))=rg:=by
   unfold lts;rw [List.map_map];refine List.ext_getElem (by rw [qeA,qiA]) fun i h1 h2=>?_;rw [List.getElem_map,List.getElem_range];show (st++rg).getD (st.length+i) "" = _;rw [qvA,List.getElem?_append_right (Nat.le_add_right _ _),Nat.add_sub_cancel_left,quA h2]
   rfl
  rw [e1,e2]
 ·obtain ⟨i,hi,rfl⟩:=qnA.mp hk;have:=qrA.mp hi;omega
 ·obtain ⟨i,hi,rfl⟩:=qnA.mp hk;have:=qrA.mp hi;omega
theorem IU (c:Int)(m:Nat)(hm:m<=100){P:List Int->Prop}(hp:∀ l:List Int,l.length<=m->(∀ n∈l,0<=n/\n<(m:Int))->P l):OK (BK c (m:Int)) P:=by
 have hs:sizeLine=16777216:=qeB;unfold BK;simp only [qfB,Bn,Av];refine AC (DT (n:=m) (by omega) (by omega) (by omega) ?_);refine AC (DG (fun i (s:Int × List Int)=>s.2.length<=i/\∀ n∈s.2,0<=n/\n<(i:Int)) ⟨qxA _,fun n hn=>(by cases hn)⟩ (fun i a s ha ⟨h1,h2⟩=>?_) fun s ⟨h1,h2⟩=>AF (hp _ (by rw [Cs] at h1;exact h1) fun n hn=>by rw [Cs] at h2;exact h2 n hn));obtain ⟨hi,rfl⟩:=HZ ha;have up:∀ n∈s.2,0<=n/\n<((i+1:Nat):Int):=fun n hn=>by have:=h2 n hn;omega
 refine EQ (P:=fun z:List Int=>z.length<=i+1/\∀ n∈z,0<=n/\n<((i+1:Nat):Int)) (An (fun _=>Eu (by omega) ⟨?_,fun n hn=>?_⟩) fun _=>AF ⟨by omega,up⟩) fun z ⟨z1,z2⟩=>AF ⟨_,rfl,z1,z2⟩
 ·rw [qfA,qhA];omega
 ·rcases qkA.mp hn with h|h
  ·exact up n h
  ·rw [qoA.mp h];omega
theorem Lj {l:List Int}{x:Int}(h:x∈(Gz l).reverse):x∈l:=(List.mergeSort_perm l leZ).mem_iff.mp (List.mem_reverse.mp h)
theorem Lc (c:Int){P:Int->Prop}(hp:∀ m:Nat,1<=m->m<=8->P (m:Int)):OK (Bv c) P:=by
 unfold Bv;simp only [Bn];have a0:=qhB c (b:=8) (by decide);have a1:=qiB c (b:=8) (by decide);have b0:=qhB c (b:=4) (by decide);have b1:=qiB c (b:=4) (by decide);refine An (fun _=>AF ?_) fun _=>AF ?_
 ·have:=hp (1+c % 8).toNat (by omega) (by omega)
  rwa [Int.toNat_of_nonneg (by omega)] at this
 ·have:=hp (1+c % 4).toNat (by omega) (by omega)
  rwa [Int.toNat_of_nonneg (by omega)] at this
def In (m:Nat)(k:Int):Prop:=0<=k/\k<(m:Int)
theorem Ke (s:Scr)(letters:List Str)(hL:Ltr letters){P:Mac->Prop}(hp:∀ (M:Mac) (m:Nat),1<=m->M.a.length=m->(∀ w∈M.b,In m w.2)->(∀ x∈M.c,In m x)->P M):OK (Bl s letters) P:=by
 have hs:sizeLine=16777216:=qeB;unfold Bl;simp only [qfB,Bn,Av];refine AC (Bf s 1 (by decide) (by decide) fun c1=>AC (Lc c1 fun m m1 m8=>AC (Bf s 2 (by decide) (by decide) fun c2=>?_)));refine EQ (P:=fun z:Int=>1<=z) (An (fun _=>ok_mul (.inl ⟨by omega,by omega⟩) ?_) fun _=>AF (by omega)) fun most hmost=>?_
 ·have:(1:Int) * 1<=(m:Int) * (m:Int):=Int.mul_le_mul (by omega) (by omega) (by decide) (by omega);omega
 ·refine AC (Bf s 2 (by decide) (by decide) fun c2'=>?_);have hpos:(0:Int)<(if most<24 then most else 24)+1:=by split<;>omega
  have hle:(if most<24 then most else 24)+1<=(25:Int):=by split<;>omega
  refine AC (FN hpos ?_);have a0:=qhB c2' (b:=(if most<24 then most else 24)+1) (by omega);have a1:=qiB c2' hpos;obtain ⟨n,hn⟩:=qgB a0;rw [hn] at a1 ⊢;refine AC (DT (n:=n) (by omega) (by omega) (by omega) ?_);refine AC (DG (fun i (w:List (Int × Int))=>w.length<=i/\∀ p∈w,In m p.2) ⟨qsB _,fun p hp=>(by cases hp)⟩ (fun i a w ha ⟨hI,hJ⟩=>?_) fun W ⟨hW,hV⟩=>?_)
  ·obtain ⟨hi,rfl⟩:=HZ ha;refine AC (Bf s _ (by omega) (by omega) fun ck=>AC (FN (by omega) (AC (FN (by omega) ?_))));have hin:In m (ck % (m:Int)):=⟨qhB _ (by omega),qiB _ (by omega)⟩;refine EQ (P:=fun z:Int × Int=>In m z.2) (An (fun _=>AC (FN (by omega) (AF hin))) fun _=>AF hin) fun way hway=>?_;refine An (fun _=>AC (Eu (by omega) (AF ⟨_,rfl,by rw [qfA,qhA];omega,fun p hp=>?_⟩))) fun _=>AF ⟨_,rfl,by omega,hJ⟩;rcases qkA.mp hp with h|h
   ·exact hJ p h
   ·rw [qoA.mp h];exact hway
  ·rw [Cs] at hW;refine AC (DT (n:=m) (by omega) (by omega) (by omega) ?_);refine AC (LE (R:=fun _ x=>Mom x) (fun a ha=>?_) fun lits hlits _ _=>?_)
   ·obtain ⟨k,hk,rfl⟩:=qnA.mp ha;have:=qrA.mp hk;exact AC (Bf s _ (by omega) (by omega) fun ck=>lit_ok letters hL _)
   ·refine AC (Bf s 3 (by decide) (by decide) fun c3=>AC (IU c3 m (by omega) fun st s1 s2=>AC (Bf s 3 (by decide) (by decide) fun c3'=>?_)));refine EQ (P:=fun z:List Int=>∀ x∈z,In m x) (An (fun _=>⟨_,if_pos (by omega),fun x hx=>s2 x (Lj hx)⟩) fun _=>AF s2) fun starts hst=>?_;refine AC (Bf s 4 (by decide) (by decide) fun c4=>?_);have d0:=qhB c4 (b:=4) (by decide);have d1:=qiB c4 (b:=4) (by decide);obtain ⟨q,hq⟩:=qgB d0;rw [hq] at d1 ⊢;refine AC (DT (n:=q) (by omega) (by omega) (by omega) ?_);refine AC (LE (R:=fun _ b=>Ok1 W b) (fun a ha=>?_) fun marks _ hm _=>AF (hp _ m m1 (by rw [Cs] at hlits;exact hlits) hV hst))
    ·obtain ⟨k,hk,rfl⟩:=qnA.mp ha;have:=qrA.mp hk;exact AC (Bf s _ (by omega) (by omega) fun ck=>IU ck W.length (by omega) fun l _ h=>h)
theorem cut_le {α:Type}(l:List α)(lo hi:Option Int):(Cm l lo hi).length<=l.length:=by
 unfold Cm;rw [qjA,List.length_drop];omega
theorem Kz {α:Type}{l:List α}{lo hi:Option Int}{x:α}(h:x∈Cm l lo hi):x∈l:=by
 unfold Cm at h;exact List.mem_of_mem_drop (List.mem_of_mem_take h)
theorem Ji (s:Scr)(M:Mac)(m:Nat)(m1:1<=m)(hW:∀ w∈M.b,In m w.2)(hC:∀ x∈M.c,In m x){P:List Int × List Int->Prop}(hp:∀ p:List Int × List Int,p.1.length<=20->p.2.length<=20->(∀ x∈p.1,In m x)->(∀ x∈p.2,In m x)->P p):OK (BU s M 50) P:=by
 have hs:sizeLine=16777216:=qeB;unfold BU;simp only [qfB,Bn,Av];refine EQ (P:=fun z:List Int=>z.length=1/\∀ x∈z,In m x) (An (fun h=>?_) fun _=>AF ⟨rfl,fun x hx=>by rw [qoA.mp hx];exact ⟨by omega,by omega⟩⟩) fun z ⟨hz,hzm⟩=>?_
 ·have hne:M.c ≠ []:=by simpa using h
  have hl:(0:Int)<(M.c.length:Int):=by have:=List.length_pos_iff.mpr hne;omega
  exact AC (Bf s 50 (by decide) (by decide) fun c=>AC (FN hl (AC (Gr (qhB _ (by omega)) (qiB _ hl) fun x hx=>AF ⟨rfl,fun y hy=>by rw [qoA.mp hy];exact hC x (qsA hx)⟩))))
 ·refine AC (DT (n:=14) (by omega) (by omega) (by omega) ?_);refine AC (DG (fun i (w:List Int)=>1<=w.length/\w.length<=i+1/\∀ x∈w,In m x) ⟨by omega,by omega,hzm⟩ (fun i a w ha ⟨h1,h2,h3⟩=>?_) fun w ⟨h1,h2,h3⟩=>?_)
  ·obtain ⟨hi,rfl⟩:=HZ ha;have hne:w ≠ []:=List.length_pos_iff.mp (by omega);have eL:atI w (-(1:Int))=some (w.getLast hne):=OK.eq (ok_last hne rfl);simp only [eL,Bn];refine AC (ok_comp (c:=fun way:Int × Int=>decide (way.1=w.getLast hne)) (g:=fun way:Int × Int=>way.2) (fun _ _=>rfl) (fun _ _ _=>rfl) ?_)
   have hO:∀ x∈(M.b.filter fun way:Int × Int=>decide (way.1=w.getLast hne)).map (fun way:Int × Int=>way.2),In m x:=fun x hx=>by
    obtain ⟨p,hp,rfl⟩:=qnA.mp hx;exact hW p (List.mem_filter.mp hp).1
   generalize (M.b.filter fun way:Int × Int=>decide (way.1=w.getLast hne)).map (fun way:Int × Int=>way.2)=outs at hO;refine An (fun h=>?_) fun _=>AF ⟨_,rfl,h1,by omega,h3⟩;have ho:outs ≠ []:=by simpa using h
   have hl:(0:Int)<(outs.length:Int):=by have:=List.length_pos_iff.mpr ho;omega
   exact AC (Bf s _ (by omega) (by omega) fun c=>AC (FN hl (AC (Gr (qhB _ (by omega)) (qiB _ hl) fun x hx=>AC (Eu (by omega) (AF ⟨_,rfl,by rw [qfA,qhA];omega,by rw [qfA,qhA];omega,fun y hy=>(qkA.mp hy).elim (h3 y) fun q=>by rw [qoA.mp q];exact hO x (qsA hx)⟩))))))
  ·rw [Cs] at h2;refine AC (ok_while (fun q:Int=>0<=q/\q<(w.length:Int)) (fun _=>False) (fun _=>False) (fun q=>q.toNat) ⟨by omega,by omega⟩ (by omega) (fun q ⟨q0,q1⟩=>?_) (fun _ h=>h.elim) fun _ h=>h.elim)
   have fin:OK ((atI w q).bind fun t=>(idxZ w t).bind fun b=>some ((Cm w none (some b)),(Cm w (some b) (some q)))) P:=by
    refine AC (Gr q0 q1 fun x hx=>ok_bC _ (if_pos ⟨qsA hx,by omega⟩) (AF (hp _ ?_ ?_ (fun x hx=>h3 x (Kz hx)) (fun x hx=>h3 x (Kz hx)))))
    ·exact qyA (cut_le ..) (by omega)
    ·exact qyA (cut_le ..) (by omega)
   refine An (fun h=>?_) fun h=>AF ?_
   ·have h:=of_decide_eq_true h;refine AC (Gr q0 q1 fun x _=>AF ?_);by_cases hb:(!decide (x∈Cm w none (some q)))=true
    ·rw [if_pos hb];exact AF ⟨⟨by omega,by omega⟩,by omega⟩
    ·rw [if_neg hb];exact fin
   ·rw [if_neg qjB];exact fin
theorem okS_ok {α β γ δ ε ζ:Type}[Rp α][Rp β][Rp γ][Rp δ]{f:T4 (List α) (List β) (List γ) (List δ)}{s:List ε × List ζ}(h:f.a.length<=1000/\f.b.length<=1000/\f.c.length<=1000/\f.d.length<=1000/\s.1.length<=1000/\s.2.length<=1000):okS f s=some ():=by
 have hs:sizeLine=16777216:=qeB;unfold okS;rw [if_pos];omega
theorem law_true (ns:List Int)(hl:ns.length<=63):Ja ⟨ns⟩=some true:=by
 have hs:sizeLine=16777216:=qeB;refine OK.eq ?_;unfold Ja;simp only [qfB,Bn,Av];refine AC (Bf _ 0 (by decide) (by decide) fun c0=>AC (KJ _ (qhB _ (by decide)) fun ls hL=>AC (Bf _ 40 (by decide) (by decide) fun c40=>?_)));have a0:=qhB c40 (b:=5) (by decide);have a1:=qiB c40 (b:=5) (by decide);obtain ⟨n1,hn1⟩:=qgB a0;rw [hn1] at a1 ⊢;refine AC (Hh _ 42 n1 (by decide) (by decide) (by omega) ls hL fun st e1 m1=>AC (Bf _ 41 (by decide) (by decide) fun c41=>?_));have b0:=qhB c41 (b:=4) (by decide);have b1:=qiB c41 (b:=4) (by decide);obtain ⟨n2,hn2⟩:=qgB b0;rw [hn2] at b1 ⊢;rw [show (1:Int)+((n2:Nat):Int)=((1+n2:Nat):Int) by omega];refine AC (Hh _ 46 (1+n2) (by decide) (by decide) (by omega) ls hL fun rg e2 m2=>?_);have h1:st.length<=4:=by omega
 have h2:rg.length<=4:=by omega
 have h3:1<=rg.length:=by omega
 have hM:∀ x∈st++rg,Mom x:=fun x hx=>(qkA.mp hx).elim (m1 x) (m2 x);have fx:¬ (!true)=true:=Bool.noConfusion;refine AC (OK.of (LL h1 h2 h3) (AC (OK.of (Ek h1 h2 h3) ?_)));refine EQ (P:=fun b=>b=false) (An (fun h=>absurd h fx) fun _=>AC (OK.of (JU h1 h2 h3 hM) (AF rfl))) fun b hb=>?_;refine An (fun h=>absurd (hb.symm.trans h) Bool.noConfusion) fun _=>?_;refine AC (DT (n:=st.length+rg.length) (by omega) (by omega) (by omega) ?_);refine AC (Ig (g:=fun k:Int=>k) (fun _ _=>rfl) ?_);rw [List.map_id'];have ew:=Lw h1 h2 h3;have el:=Kr h1 h2;unfold pl at ew el;refine AC (OK.of ew (An (fun h=>absurd h fx) fun _=>AC (OK.of el (AC (OK.of (Gu st rg (by omega) (by omega)) ?_)))));refine EQ (P:=fun b=>b=false) (An (fun h=>absurd h fx) fun _=>AC (OK.of (Ek h1 h2 h3) (AF rfl))) fun b hb=>?_;refine An (fun h=>absurd (hb.symm.trans h) Bool.noConfusion) fun _=>?_;refine AC (Ke _ ls hL fun M m q1 q2 q3 q4=>?_);refine AC (Ji _ (T4.mk M.a M.b M.c ([]:List (List Int)):Mac) m q1 q3 q4 fun pq l1 l2 i1 i2=>?_);have eS:okS (Mc st rg) (st,rg)=some ():=okS_ok ⟨by show (st++rg).length<=1000;rw [qfA];omega,by show (Wy st.length rg.length).length<=1000;rw [wy_len _ (by omega) _ (by omega) h3];omega,by show 1<=1000;decide,by show 0<=1000;decide,by show st.length<=1000;omega,by show rg.length<=1000;omega⟩
 have fin:∀ b:Bool,b=true->OK (cond b ((BD (st,rg)).bind fun t=>B8 t st rg) (some false)) fun b=>b=true:=fun b hb =>
  An (fun _=>AC (OK.of (LL h1 h2 h3) (OK.of (Ek h1 h2 h3) rfl))) fun h=>absurd (hb.symm.trans h) Bool.noConfusion
 refine An (fun _=>?_) fun _=>AC (OK.of eS (fin _ (decide_eq_true trivial)));have k1:∀ k∈pq.1,0<=k/\k<(M.a.length:Int):=fun k hk=>by have:=i1 k hk;rw [q2];exact this
 have k2:∀ k∈pq.2,0<=k/\k<(M.a.length:Int):=fun k hk=>by have:=i2 k hk;rw [q2];exact this
 refine AC (OK.of (Jm (T4.mk M.a M.b M.c ([]:List (List Int)):Mac) pq.1 pq.2 k1 k2) (AC (OK.of (Gc k1) (AC (OK.of (Gc k2) ?_)))));refine AC (OK.of (Gu (lts M.a pq.1) (lts M.a pq.2) (by unfold lts;rw [qeA];omega) (by unfold lts;rw [qeA];omega)) ?_);exact An (fun h=>absurd h fx) fun _=>AC (OK.of eS (fin _ (decide_eq_true trivial)))
theorem law_imp {K:FZ9}{vs:List V}{H:Hp}{Q:VK}{E:XK}(h:JC K vs H Q E):spM K mm_law vs H Q E:=by
 obtain ⟨a,ns,rfl,hS,hl,q⟩:=h;exact ⟨H,(⟨ns⟩,()),true,Same.refl H,⟨.ref a,[],rfl,⟨a,rfl,hS⟩,rfl⟩,law_true ns hl,fun v G2 H2 x r=>by cases r;exact q H2⟩
set_option maxHeartbeats 1000000 in
theorem all_mk {l:PySem.W.OpenLaw}{w:World}{K:FZ9}{h:Heap}{mg:Str->Option Value}{fa:Addr}(X:K.In h)(G:h.Ns mainGlobals mg)(hfa:mg "law" = some (.ref fa))
  (Z:DIn K mg "is_moment" Ej/\DIn K mg "is_number_below" CQ/\DIn K mg "are_numbers_once" C7/\DIn K mg "is_way" HP/\DIn K mg "are_moments" DY/\DIn K mg "are_ways" FS/\DIn K mg "are_marks" ES/\DIn K mg "is_machine" EM/\DIn K mg "steps_along" DR/\DIn K mg "is_gone" GF/\DIn K mg "is_walk" GM/\DIn K mg "lit_along" El/\DIn K mg "machine_of" Dt/\DIn K mg "_law_cell" FH/\DIn K mg "_law_letters" DS/\DIn K mg "_law_lit" GH/\DIn K mg "_law_chosen" EG/\DIn K mg "_law_states" Dq/\DIn K mg "_law_machine" DV/\DIn K mg "_law_strolled" D7/\DIn K mg "_law_moments" Dd/\DIn K mg "_law_listed" Cz/\DIn K mg "_law_as_due" Dp/\DIn K mg "_law_shows" Ef/\DIn K mg "law" s_law)
  {tk0 tk1 tk2:Tok}
  (gv0:PySem.W.nsIn K mainGlobals "MOST_STATES" = some (some (.int 8 tk0)))
  (gv1:PySem.W.nsIn K mainGlobals "MOST_WAYS" = some (some (.int 24 tk1)))
  (gv2:PySem.W.nsIn K mainGlobals "MOST_MARKS" = some (some (.int 3 tk2)))
  (zs:Nn K "all" /\ Nn K "any" /\ Nn K "bool" /\ Nn K "int" /\ Nn K "isinstance" /\ Nn K "len" /\ Nn K "list" /\ Nn K "min" /\ Nn K "range" /\ Nn K "set" /\ Nn K "sorted" /\ Nn K "str" /\ Nn K "tuple" /\ Nn K "zip") :
  ∃ fd:FuncData,(∀ (s:Shared) (v:Value),BindsTo s fd ⟨[v],[]⟩ [("_law_script",v)])/\∀ base:Heap,K.In base->base.Ns mainGlobals mg->FnOk l.prog w K mg base CX0 6 fa fd ["_law_script"] (JC K):=by
 obtain ⟨z0,z1,z2,z3,z4,z5,z6,z7,z8,z9,z10,z11,z12,z13,z14,z15,z16,z17,z18,z19,z20,z21,z22,z23,z24⟩:=Z;obtain ⟨y0,y1,y2,y3,y4,y5,y6,y7,y8,y9,y10,y11,y12,y13⟩:=zs;obtain ⟨f,fd,a,F⟩:=z24.ex;cases hfa.symm.trans a;have T:Txt mg:=⟨PySem.W.mg_none_of X G y0,PySem.W.mg_none_of X G y1,PySem.W.mg_none_of X G y2,PySem.W.mg_none_of X G y3,PySem.W.mg_none_of X G y4,PySem.W.mg_none_of X G y5,PySem.W.mg_none_of X G y6,PySem.W.mg_none_of X G y7,PySem.W.mg_none_of X G y8,PySem.W.mg_none_of X G y9,PySem.W.mg_none_of X G y10,PySem.W.mg_none_of X G y11,PySem.W.mg_none_of X G y12,PySem.W.mg_none_of X G y13,⟨_,PySem.W.mg_of X G gv0⟩,⟨_,PySem.W.mg_of X G gv1⟩,⟨_,PySem.W.mg_of X G gv2⟩⟩;refine ⟨fd,?_,fun base _ _=>?_⟩
 ·obtain ⟨_,_,_,_,_,_,_,_,_,rfl,_⟩:=F.ex;exact fun s v=>.of_eq rfl
 have DW:=@HH l.prog w K mg base z14 T;have AR:=@Jj l.prog w K mg base z13 T;have D5:=@KQ l.prog w K mg base z15 T;have Ce:=@HJ l.prog w K mg base z20 T AR D5;have BO:=@HI l.prog w K mg base z8 T;have Ct:=@Hs l.prog w K mg base z12 T BO;have DK:=@J9 l.prog w K mg base z11 T;have EC:=@Hk l.prog w K mg base z17 T;have Cw:=@Hj l.prog w K mg base z16 T;have Db:=@HM l.prog w K mg base z18 T EC Cw AR D5;have D9:=@GY l.prog w K mg base z19 T AR;have GJ:=@Kk l.prog w K mg base z9 T;have Fz:=@KU l.prog w K mg base z10 T BO GJ
 have Ar:E5 l.prog w K mg base:=by
  obtain ⟨f,fd,a,F⟩:=z21.ex
  have D:∀ n:Nat,DefOk l.prog w K mg base "_law_listed" (1+n) ["_law_found","_law_due"] (spM K (Am n)):=fun n=>by
   induction n with
   | zero=>exact KD F a (F.binds bn2) (Gq F)
   | succ n ih=>exact KD F a (F.binds bn2) (Hr F T n ih)
  exact D 3
 have CP:=@Hu l.prog w K mg base z22 T Ar;have Az:=@FR l.prog w K mg base z1 T;have B6:=@F2 l.prog w K mg base z2 T Az;have Em:=@Ij l.prog w K mg base z6 T B6;have En:=@JT l.prog w K mg base z0 T;have DO:=@Gk l.prog w K mg base z4 T En;have Gy:=@ML l.prog w K mg base z3 T Az;have FP:=@K5 l.prog w K mg base z5 T Gy;have EK:=@Ho l.prog w K mg base z7 T B6 Em DO FP;have DL:=@Iw l.prog w K mg base z23 T Ar;exact (ok_law F T DW Ce Ct DK Db D9 Fz CP AR EK DL).imp fun _ _ _ _ h=>law_imp h
theorem walk {l:PySem.W.OpenLaw}{q:Program}{loose:List Str}{XP:(Str->Option Value)->Heap->Prop}{YP:World->Heap->Prop}{d:DefRec}{K:Params->FZ9}(hn:l.most=some 63)(hdf:d.params.defaults=[])
  (hY:∀ (w:World) (h:Heap),YP w h->(K w.params).In h)
  (F:∀ (w:World) (mg:Str->Option Value) (fa:Addr) (h:Heap),(K w.params).In h->h.Ns mainGlobals mg->mg d.name=some (.ref fa) ->
   ∃ fd:FuncData,(∀ (s:Shared) (u:Value),BindsTo s fd ⟨[u],[]⟩ [("_law_script",u)])/\∀ base:Heap,(K w.params).In base->base.Ns mainGlobals mg->FnOk l.prog w (K w.params) mg base CX0 6 fa fd ["_law_script"] (JC (K w.params))) :
  PySem.W.WalkO q loose XP YP l.row.toRowW d [] (fun f vs=>PySem.call f vs) :=
 L2.walk_of (n:=63) (k:=6) (x := "_law_script") (CX:=fun _=>CX0) (sp:=fun w=>JC (K w.params)) hn (by decide) hdf ⟨rfl,by decide,by decide⟩ hY F (fun _ _ a ns hl _ hS=>⟨a,ns,rfl,hS,hl,fun _=>rfl⟩) fun _ _ _ _ _ z=>z
end My
open PySem PySem.W PyProof.Rows
theorem PySem.W.Fast.tw693107803892920665:True:=trivial
theorem PySem.W.Fast.tw1364068551820516032:True:=trivial
theorem PySem.W.Fast.tw8799271111811179727:True:=trivial
theorem PySem.W.Fast.tw13786189368558243061:True:=trivial
theorem PySem.W.Fast.tw17520905136532110082:True:=trivial
theorem PySem.W.Fast.tw14902504941585832262:True:=trivial
theorem PySem.W.Fast.tw4945047144338193834:True:=trivial
theorem PySem.W.Fast.tw9903635750912491220:True:=trivial
theorem PySem.W.Fast.tw8518137029593661331:True:=trivial
theorem PySem.W.Fast.tw5487676350181849268:True:=trivial
theorem PySem.W.Fast.tw1343144279680967109:True:=trivial
theorem PySem.W.Fast.tw7361031048725654288:True:=trivial
theorem PySem.W.Fast.tw5281633485430432659:True:=trivial
set_option maxRecDepth 100000 in
set_option maxHeartbeats 0 in
theorem PySem.Challenge.cw_lassoscribe_k52_a_runs_machine_holds : PySem.Challenge.rw_lassoscribe_k52_a_runs_machine.Holds := by
 w_on; o_law; k_head; (case hw => w_witness2)
 k_fill
 refine My.walk (l := PySem.Challenge.rw_lassoscribe_k52_a_runs_machine) rfl rfl (fun w h Y => PySem.W.kIn_of Y) ?F
 case F =>
  intro w mg fa h KX G hmg;refine' My.all_mk KX G hmg ?zz ?gv0 ?gv1 ?gv2 ?zy
  (case zz =>
   refine ⟨?_, ?_, ?_, ?_, ?_, ?_, ?_, ?_, ?_, ?_, ?_, ?_, ?_, ?_, ?_, ?_, ?_, ?_, ?_, ?_, ?_, ?_, ?_, ?_, ?_⟩
   all_goals (refine' L2.din KX G ?a ?l ?c ?k; (case a => k_is); (case l => k_is); (case c => k_is); (case k => k_is)))
  (case gv0 => k_is)
  (case gv1 => k_is)
  (case gv2 => k_is)
  (case zy => refine ⟨?_, ?_, ?_, ?_, ?_, ?_, ?_, ?_, ?_, ?_, ?_, ?_, ?_, ?_⟩ <;> (unfold L2.Nn; k_is))
end
