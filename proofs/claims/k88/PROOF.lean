import PyProof.Rows.All
import Wide.All
import OpenK.AllK
import Wide.FinOn
import Lean
import PyProof.EqAt
import PyProof.EqKinds
import PyProof.TupleCall
import PyProof.NeKinds
import PyProof.EnumFor
import PyProof.EnumMake
import PyProof.Rows.EnumRows
import PyProof.Rows.Range3
import PyProof.NoPylong
import PyProof.ListRange
import PyProof.TupleOfSeq
import PyProof.TupleOfStr
import PyProof.Draws
import PyProof.ZipIter
import PyProof.Rows.ZipGen
import PyProof.Rows.SortStr
import PyProof.Rows.TupAdd
import PyProof.SetRoads
import PyProof.Rows.SetFrom
import PyProof.StrWalks
import PyProof.CollectWalk
import KE.KDictList
import PyProof.Tail
import PyProof.TupleIter
import PyProof.AttrMiss
import KE.KDictOf
import OpenK.KTop
import PyProof.Rows.SortRev
import PyProof.Rows.CallKwBuiltin
import PyProof.Rows.CallKw2
import KE.KRevIter
import PyProof.SumWalkG
import Wide.Seal
import PyProof.AttrMissHeap
import PyProof.TupleKey
import PyProof.StrCalls2
import PyProof.Rows.StrKeys3
import PyProof.Conv_int
import PySem.Challenge.RW_lassoscribe_k88_machines_written
open Option renaming bind_eq_some_iff → qaA, bind_assoc → qfB
open PySem renaming wpAny_bind → qbA, wpAny_pure → qcA, sizeLine_eq → qeB
open List renaming length_map → qdA, length_append → qeA, length_cons → qfA, length_singleton → qgA, length_range → qhA, length_take → qiA, mem_append → qjA, mem_cons → qkA, mem_map → qmA, mem_singleton → qnA, mem_cons_self → qoA, mem_cons_of_mem → qpA, mem_range → qqA, mem_of_getElem? → qrA, getElem?_eq_some_iff → qsA, getElem?_eq_getElem → qtA, map_cons → quA, append_assoc → qvA, append_nil → qwA, size_toArray → qkB, not_mem_nil → qpB, mem_append_right → qrB, foldl_cons → qsB
open Nat renaming le_refl → qxA, le_trans → qyA, lt_irrefl → qzA, ne_of_lt → qoB, lt_of_lt_of_le → qqB, zero_le → qtB
open Option.some renaming inj → qaB
open PySem.Heap renaming lt_size → qbB, get?_push_of_some → qcB, get?_push_size → qdB
open Int renaming eq_ofNat_of_zero_le → qgB, emod_nonneg → qhB, emod_lt_of_pos → qiB
open Bool renaming false_ne_true → qjB, and_eq_true → quB
open PySem.W renaming fnOf → qmB
open Array renaming length_toList → qnB
noncomputable section
set_option Elab.async false
set_option linter.all false
set_option maxRecDepth 100000
set_option maxHeartbeats 4000000
local macro_rules
 | `(tactic| clear $n:num $rs*) => do
  let i := fun (n : Lean.Name) => Lean.mkIdent n
  match n.getNat with
  | 7 => let l := #[`G1, `s1, `c, `hc, `H, `sH, `Q, `k].map i; `(tactic| intro $l:ident*)
  | 8 => `(tactic| refine $(rs[0]!) $(i `G1) $(i `s1) $(rs[1]!) $(rs[2]!) $(i `H) $(i `sH) _ fun $(i `v) $(i `G2) $(i `H2) $(i `x2) $(i `r2) => ?_)
  | _ => Lean.Macro.throwUnsupported
theorem bE {α β : Type} {o : Option α} {f : α -> Option β} {b : β} {C : Prop} (h : o.bind f = some b) (k : ∀ a, o = some a -> f a = some b -> C) : C := by
 obtain ⟨a, h1, h2⟩ := qaA.mp h;exact k a h1 h2
abbrev FZ9 := PySem.W.Frag
namespace L2
open PySem PySem.Spec PyProof.Rows
abbrev Key:=Sum Int Str
def DQ:Key->Value->Bool
 | .inl k,v=>Value.isInt k v
 | .inr x,v=>Value.isStrOf x v
def Ka (w:World):Key->Int
 | .inl k=>hashInt k
 | .inr x=>hashStr w x
theorem BV:∀ {k:Key}{v:Value},DQ k v=true->(∃ i t,k=Sum.inl i/\v=Value.int i t)\/(∃ x t,k=Sum.inr x/\v=Value.str x t)
 | .inl i,v,h=>by
  obtain ⟨t,e⟩:=Value.isInt_shape (k:=i) (v:=v) h;exact .inl ⟨i,t,rfl,e⟩
 | .inr x,v,h=>by
  obtain ⟨t,e⟩:=Value.isStrOf_shape (x:=x) (v:=v) h;exact .inr ⟨x,t,rfl,e⟩
theorem GU (i:Int)(t:Tok):DQ (.inl i) (.int i t)=true:=by simp [DQ,Value.isInt]
theorem Mn (x:Str)(t:Tok):DQ (.inr x) (.str x t)=true:=by simp [DQ,Value.isStrOf]
theorem key_ll (a b:Int):decide ((Sum.inl a:Key)=Sum.inl b)=(a == b):=by
 by_cases e:a=b
 ·subst e;simp
 ·have h:¬ (Sum.inl a:Key)=Sum.inl b:=fun q=>e (Sum.inl.inj q);rw [decide_eq_false h];exact (beq_eq_false_iff_ne.mpr e).symm
theorem key_rr (a b:Str):decide ((Sum.inr a:Key)=Sum.inr b)=decide (a=b):=by
 by_cases e:a=b
 ·subst e;simp
 ·have h:¬ (Sum.inr a:Key)=Sum.inr b:=fun q=>e (Sum.inr.inj q);rw [decide_eq_false h,decide_eq_false e]
theorem key_lr (a:Int)(b:Str):decide ((Sum.inl a:Key)=Sum.inr b)=false:=decide_eq_false (fun q=>nomatch q)
theorem key_rl (a:Str)(b:Int):decide ((Sum.inr a:Key)=Sum.inl b)=false:=decide_eq_false (fun q=>nomatch q)
def CK (prog:Program)(w:World):PySem.KeyKind prog w Key where
 is:=DQ
 hash:=Ka w
 inj:=fun v a b ha hb=>by
  rcases BV ha with ⟨i,t,rfl,rfl⟩ | ⟨x,t,rfl,rfl⟩
  ·rcases BV hb with ⟨j,u,rfl,e⟩ | ⟨y,u,rfl,e⟩
   ·injection e with e1 _;rw [e1]
   ·exact nomatch e
  ·rcases BV hb with ⟨j,u,rfl,e⟩ | ⟨y,u,rfl,e⟩
   ·exact nomatch e
   ·injection e with e1 _;rw [e1]
 byValue:=fun k v h=>by
  rcases BV h with ⟨i,t,rfl,rfl⟩ | ⟨x,t,rfl,rfl⟩<;>rfl
 pyHash:=fun hv h=>by
  rcases BV hv with ⟨i,t,rfl,rfl⟩ | ⟨x,t,rfl,rfl⟩
  ·exact wpAny_pyHash_int h
  ·exact wpAny_pyHash_str h
 eqBool:=fun hu hv h=>by
  rcases BV hu with ⟨i,t,rfl,rfl⟩ | ⟨x,t,rfl,rfl⟩
  ·rcases BV hv with ⟨j,u,rfl,rfl⟩ | ⟨y,u,rfl,rfl⟩
   ·rw [key_ll] at h;exact wpAny_eqBool_int h
   ·rw [key_lr] at h;exact SeqAt.EqAt.int_str i t y u _ _ _ _ h
  ·rcases BV hv with ⟨j,u,rfl,rfl⟩ | ⟨y,u,rfl,rfl⟩
   ·rw [key_rl] at h;exact SeqAt.EqAt.str_int x t j u _ _ _ _ h
   ·rw [key_rr] at h;exact wpAny_eqBool_str h
 «strs»:=fun k x t v h=>by
  rcases BV h with ⟨i,u,rfl,e⟩ | ⟨y,u,rfl,e⟩
  ·exact nomatch e
  ·injection e with e1 _
   subst e1;cases v<;>rfl
inductive V where
 | non|bl (b:Bool)|int (i:Int)|str (x:Str)|byt (b:Array UInt8)|flt (b:UInt64)|ref (a:Addr)|ty (n:String)
 deriving DecidableEq
def RelV:V->Value->Prop
 | .non,u=>u=Value.none
 | .bl b,u=>u=Value.bool b
 | .int i,u=>∃ t,u=Value.int i t
 | .str x,u=>∃ t,u=Value.str x t
 | .byt b,u=>∃ t,u=Value.bytes b t
 | .flt b,u=>∃ t,u=Value.float b t
 | .ref a,u=>u=Value.ref a
 | .ty n,u=>u=Value.type n
abbrev Vals:List V->List Value->Prop:=Paired RelV
theorem Vals.length {xs:List V}{us:List Value}(r:Vals xs us):xs.length=us.length:=Paired.length r
theorem Vals.get:∀ {xs:List V}{us:List Value}{i:Nat}{x:V},Vals xs us->xs[i]? = some x->∃ u,us[i]? = some u/\RelV x u
 | _,_,_,_,.nil,e=>by simp at e
 | _,_,0,_,.cons r _,e=>by simp at e;subst e;exact ⟨_,rfl,r⟩
 | _,_,i+1,x,.cons _ t,e=>by
  obtain ⟨u,h1,h2⟩:=Vals.get (i:=i) (x:=x) t (by simpa using e);exact ⟨u,by simpa using h1,h2⟩
theorem Vals.append:∀ {xs ys:List V}{us ws:List Value},Vals xs us->Vals ys ws->Vals (xs++ys) (us++ws)
 | _,_,_,_,.nil,s=>s
 | _,_,_,_,.cons r t,s=>.cons r (Vals.append t s)
theorem Vals.take:∀ {xs:List V}{us:List Value}(n:Nat),Vals xs us->Vals (xs.take n) (us.take n)
 | _,_,0,_=>.nil
 | _,_,_+1,.nil=>.nil
 | _,_,n+1,.cons r t=>.cons r (Vals.take n t)
theorem Vals.drop:∀ {xs:List V}{us:List Value}(n:Nat),Vals xs us->Vals (xs.drop n) (us.drop n)
 | _,_,0,r=>r
 | _,_,_+1,.nil=>.nil
 | _,_,n+1,.cons _ t=>Vals.drop n t
def RelO:Option V->Option Value->Prop
 | some v,some u=>RelV v u
 | none,none=>True
 | _,_=>False
def KV {κ:Type}:List (κ × V)->List (κ × Value)->Prop:=Paired fun (p:κ × V) (q:κ × Value)=>p.1=q.1/\RelV p.2 q.2
def kV:Key->V
 | .inl i=>.int i
 | .inr x=>.str x
inductive HO where
 | lst (xs:List V)
 | tup (xs:List V)
 | dK (kvs:List (Key × V))|dT (kvs:List (List Key × V))
 | set (S:Int->Bool) (n:Nat)
 | ins (C dx:Addr) (fs:List (Str × V))
 | own (x:Addr)
 | xd (fs:List (Str × V))
 | met (f x:Addr)
 | rng (lo hi:Int)
 | frz (o:Obj) (u:HO)
 | tbl (ps:Array Value)
 | ext (φ:Heap->Prop)
abbrev Hp:=Addr->Option HO
def upd (H:Hp)(a:Addr)(o:HO):Hp:=fun b=>if b=a then some o else H b
theorem AI {H:Hp}{a:Addr}{o:HO}:upd H a o a=some o:=by unfold upd;rw [if_pos rfl]
theorem AU {H:Hp}{a b:Addr}{o:HO}(h:b≠a):upd H a o b=H b:=by unfold upd;rw [if_neg h]
theorem Ah {H:Hp}{a b:Addr}{o:HO}(h:H a=some o)(h':H b=none):a≠b:=by
 intro e;subst e;rw [h] at h';cases h'
section
variable (P:Program)(w:World)
def ObjOk (H:Hp)(h:Heap)(a:Addr):HO->Prop
 | .lst xs=>xs.length<=sizeLine/\∃ (its:List Value) (n:Nat),Vals xs its/\h.get? a=some { cls:=.type "list",data:=.seq its.toArray n }
 | .tup xs=>xs.length<=sizeLine/\∃ its:List Value,Vals xs its/\IsTup h a its.toArray
 | .dK kvs=>kvs.length<=sizeLine/\(a == sysModules)=false/\∃ vs,KV kvs vs/\h.DictOf (CK P w) a vs
 | .dT kvs=>kvs.length<=sizeLine/\(a == sysModules)=false/\∃ xs:List (List Key × Addr × Value),
   Paired (fun (p:List Key × V) (q:List Key × Addr × Value)=>p.1=q.1/\H q.2.1=some (.tup (p.1.map kV))/\RelV p.2 q.2.2) kvs xs /\
   ∃ o es ep,h.get? a=some o/\o.ExactDict/\o.data = .dict es ep/\es.toList=xs.map (entryOfKey (tupleKind (CK P w)))/\(xs.map (·.1)).Nodup
 | .set S n=>h.SetOf (intKind P w) a S n
 | .ins C dx fs=>H dx=some (.own a)/\fs.length<=1000/\dx≠a/\h.get? a=some (PySem.W.instObj C dx) /\
   ∃ mA,h.Ns1 dx mA/\(∀ f,RelO (fs.lookup f) (mA f))/\PySem.Within mA (fs.map (·.1))
 | .own _=>∃ o,h.get? a=some o
 | .xd fs=>∃ mA,h.Ns1 a mA/\∀ f,RelO (fs.lookup f) (mA f)
 | .rng lo hi=>∃ t u v,h.get? a=some { cls:=.type "range",data:=.fields #[.int lo t,.int hi u,.int 1 v] }
 | .frz o u=>h.get? a=some o/\ObjOk H h a u
 | .tbl ps=>h.get? a=some { cls:=.none,data:=.fields ps }
 | .met f x=>h.get? a=some (PySem.W.methodObj (.ref f) (.ref x))
 | .ext φ=>φ h/\(∃ o,h.get? a=some o)/\∀ h1 h2:Heap,φ h1->(∀ o,h1.get? a=some o->h2.get? a=some o)->φ h2
def HOk (H:Hp)(h:Heap):Prop:=∀ a o,H a=some o->ObjOk P w H h a o
end
section
variable {P:Program}{w:World}{H H':Hp}{h h':Heap}{a:Addr}{o:HO}
theorem ObjOk.lt (x:ObjOk P w H h a o):a<h.objs.size:=by
 cases o with
 | lst xs=>obtain ⟨_,_,_,_,e⟩:=x;exact qbB e
 | tup xs=>obtain ⟨_,_,_,p⟩:=x;exact p.lt
 | dK kvs=>obtain ⟨_,_,_,_,o,_,_,e,_⟩:=x;exact qbB e
 | dT kvs=>obtain ⟨_,_,_,_,o,_,_,e,_⟩:=x;exact qbB e
 | set S n=>obtain ⟨o,_,_,_,e,_⟩:=x;exact qbB e
 | ins C dx fs=>obtain ⟨_,_,_,e,_⟩:=x;exact qbB e
 | own y=>obtain ⟨_,e⟩:=x;exact qbB e
 | xd fs=>obtain ⟨_,⟨_,_,_,e,_⟩,_⟩:=x;exact qbB e
 | rng lo hi=>obtain ⟨_,_,_,e⟩:=x;exact qbB e
 | frz ob u=>obtain ⟨e,_⟩:=x;exact qbB e
 | tbl ps=>exact qbB (show h.get? a=some _ from x)
 | met f y=>exact qbB (show h.get? a=some _ from x)
 | ext φ=>obtain ⟨_,⟨_,e⟩,_⟩:=x;exact qbB e
theorem Paired.mapP {α β:Type}{F G:α->β->Prop}:∀ {l₁:List α}{l₂:List β},Paired F l₁ l₂->(∀ a b,F a b->G a b)->Paired G l₁ l₂
 | _,_,.nil,_=>.nil
 | _,_,.cons r t,f=>.cons (f _ _ r) (Paired.mapP t f)
theorem Paired.imp' {α β:Type}{F G:α->β->Prop}(f:∀ a b,F a b->G a b){l₁:List α}{l₂:List β}(r:Paired F l₁ l₂):Paired G l₁ l₂:=Paired.mapP r f
theorem ObjOk.stay (x:ObjOk P w H h a o)(k:∀ b u,(b=a\/H b=some (.own a))->h.get? b=some u->h'.get? b=some u)
  (ho:∀ b,H b=some (.own a)->H' b=some (.own a)) (ht:∀ b xs,H b=some (.tup xs)->H' b=some (.tup xs)):ObjOk P w H' h' a o:=by
 induction o with
 | lst xs=>obtain ⟨z,its,n,r,e⟩:=x;exact ⟨z,its,n,r,k _ _ (.inl rfl) e⟩
 | tup xs=>obtain ⟨z,its,r,ob,e,c⟩:=x;exact ⟨z,its,r,ob,k _ _ (.inl rfl) e,c⟩
 | dK kvs=>obtain ⟨z,y,vs,r,ob,es,ep,e,c⟩:=x;exact ⟨z,y,vs,r,ob,es,ep,k _ _ (.inl rfl) e,c⟩
 | dT kvs =>
  obtain ⟨z,y,xs,r,ob,es,ep,e,c⟩:=x;exact ⟨z,y,xs,Paired.mapP r fun p q z=>⟨z.1,ht _ _ z.2.1,z.2.2⟩,ob,es,ep,k _ _ (.inl rfl) e,c⟩
 | set S n=>obtain ⟨ob,es,ep,t,e,c⟩:=x;exact ⟨ob,es,ep,t,k _ _ (.inl rfl) e,c⟩
 | ins C dx fs =>
  obtain ⟨d,z,ne,e,mA,⟨od,es,ep,e2,c⟩,r⟩:=x;exact ⟨ho _ d,z,ne,k _ _ (.inl rfl) e,mA,⟨od,es,ep,k _ _ (.inr d) e2,c⟩,r⟩
 | own y=>obtain ⟨ob,e⟩:=x;exact ⟨ob,k _ _ (.inl rfl) e⟩
 | xd fs=>obtain ⟨mA,⟨od,es,ep,e,c⟩,r⟩:=x;exact ⟨mA,⟨od,es,ep,k _ _ (.inl rfl) e,c⟩,r⟩
 | rng lo hi=>obtain ⟨t,u,v,e⟩:=x;exact ⟨t,u,v,k _ _ (.inl rfl) e⟩
 | frz ob u ih=>obtain ⟨e,q⟩:=x;exact ⟨k _ _ (.inl rfl) e,ih q⟩
 | tbl ps =>
  have e:h.get? a=some { cls:=.none,data:=.fields ps }:=x;show h'.get? a=some { cls:=.none,data:=.fields ps };exact k a _ (.inl rfl) e
 | met f y =>
  have e:h.get? a=some (PySem.W.methodObj (.ref f) (.ref y)):=x;show h'.get? a=some (PySem.W.methodObj (.ref f) (.ref y));exact k a _ (.inl rfl) e
 | ext φ=>obtain ⟨p,⟨o,e⟩,st⟩:=x;exact ⟨st _ _ p fun o q=>k _ _ (.inl rfl) q,⟨o,k _ _ (.inl rfl) e⟩,st⟩
theorem HOk.lt (x:HOk P w H h)(e:H a=some o):a<h.objs.size:=(x a o e).lt
theorem HOk.fresh (x:HOk P w H h)(e:h.objs.size<=a):H a=none:=by
 cases q:H a with
 | none=>rfl
 | some u=>exact absurd (qqB (x.lt q) e) (qzA _)
theorem HOk.kept (x:HOk P w H h)(k:∀ b u,h.get? b=some u->h'.get? b=some u):HOk P w H h':=fun a o e =>
 (x a o e).stay (fun b u _ q=>k b u q) (fun _ q=>q) fun _ _ q=>q
theorem HOk.laid (x:HOk P w H h)(k:∀ b u,h.get? b=some u->h'.get? b=some u)(hp:h.objs.size<=a)(new:ObjOk P w (upd H a o) h' a o):HOk P w (upd H a o) h':=fun b u e=>by
 have hn:=x.fresh hp;by_cases hb:b=a
 ·subst hb;rw [AI] at e;cases e;exact new
 ·rw [AU hb] at e;exact (x b u e).stay (fun c v _ q=>k c v q) (fun c q=>by rw [AU (Ah q hn)];exact q) fun c xs q=>by rw [AU (Ah q hn)];exact q
end
def Rd (H:Hp)(a:Addr)(u:HO):Prop:=H a=some u\/∃ o,H a=some (.frz o u)
theorem Rd.ok {P:Program}{w:World}{H:Hp}{h:Heap}{a:Addr}{u:HO}(r:Rd H a u)(x:HOk P w H h):ObjOk P w H h a u:=by
 rcases r with r | ⟨o,r⟩
 ·exact x a u r
 ·obtain ⟨_,q⟩:=x a _ r;exact q
def Mut:Option HO->Prop
 | some (.lst _)=>True
 | some (.dK _)=>True
 | some (.dT _)=>True
 | some (.set _ _)=>True
 | some (.ins _ _ _)=>True
 | some (.ext _)=>True
 | _=>False
section
variable {P:Program}{w:World}{H:Hp}{h h':Heap}{x e:Addr}{o':HO}
theorem HOk.write (ok:HOk P w H h)(mu:Mut (H x))(he:e=x\/H e=some (.own x))(k:∀ b u,b≠e->h.get? b=some u->h'.get? b=some u)(heo:∃ u,h'.get? e=some u)
  (new:ObjOk P w (upd H x o') h' x o'):HOk P w (upd H x o') h':=fun b u q=>by
 have nown:∀ c y,H c=some (.own y)->c≠x:=fun c y r z=>by subst z;rw [r] at mu;exact mu
 have ntup:∀ c xs,H c=some (.tup xs)->c≠x:=fun c xs r z=>by subst z;rw [r] at mu;exact mu
 by_cases hb:b=x
 ·subst hb;rw [AI] at q;cases q;exact new
 ·rw [AU hb] at q;by_cases hbe:b=e
  ·have q':H b=some (.own x):=by
    rcases he with z|z
    ·exact absurd (hbe.trans z) hb
    ·rw [hbe];exact z
   rw [q] at q';cases q';obtain ⟨v,hv⟩:=heo;exact ⟨v,by rw [hbe];exact hv⟩
  ·refine (ok b u q).stay (fun c v hc r=>k c v ?_ r) (fun c r=>by rw [AU (nown c b r)];exact r) fun c xs r=>by rw [AU (ntup c xs r)];exact r
   rcases hc with rfl|hc
   ·exact hbe
   ·rintro rfl;rcases he with z|z
    ·exact nown c b hc z
    ·rw [hc] at z;cases z;exact hb rfl
end
structure Un (fs ex:List Addr)(H H':Hp)(h h':Heap):Prop where
 keep:∀ b o,h.get? b=some o->H b=none->b ∉ fs->b ∉ ex->h'.get? b=some o
 slot:∀ b o,h.get? b=some o->H b=none->b∈fs->b ∉ ex->∃ sl,h'.get? b=some { o with slots:=sl }
 free:∀ b o,h.get? b=some o->H b=none->b ∉ ex->H' b=none
 there:∀ b o,h.get? b=some o->b ∉ ex->∃ o',h'.get? b=some o'
 tups:∀ b xs,H b=some (.tup xs)->H' b=some (.tup xs)
 frzs:∀ b o u,H b=some (.frz o u)->H' b=some (.frz o u)
 tbls:∀ b ps,H b=some (.tbl ps)->∃ more,H' b=some (.tbl (ps++more))
section
variable {fs fs' ex ex':List Addr}{H H1 H2:Hp}{h h1 h2 h':Heap}{a x e:Addr}{o:HO}
theorem Un.any (u:Un fs ex H H1 h h1){b:Addr}{ob:Obj}(q:h.get? b=some ob)(n:H b=none)(hx:b ∉ ex):∃ sl,h1.get? b=some { ob with slots:=sl }:=by
 by_cases hb:b∈fs
 ·exact u.slot b ob q n hb hx
 ·exact ⟨ob.slots,u.keep b ob q n hb hx⟩
theorem Un.kept (k:∀ b u,h.get? b=some u->h'.get? b=some u):Un fs ex H H h h' :=
 ⟨fun b ob q _ _ _=>k b ob q,fun b ob q _ _ _=>⟨ob.slots,k b ob q⟩,fun _ _ _ n _=>n,fun b ob q _=>⟨ob,k b ob q⟩,fun _ _ q=>q,fun _ _ _ q=>q,fun _ ps q=>⟨#[],by rw [q];simp⟩⟩
theorem Un.refl:Un fs ex H H h h:=Un.kept fun _ _ q=>q
theorem Un.laid (k:∀ b u,h.get? b=some u->h'.get? b=some u)(hp:h.objs.size<=a)(hn:H a=none):Un fs ex H (upd H a o) h h' where
 keep:=fun b u q _ _ _=>k b u q
 slot:=fun b u q _ _ _=>⟨u.slots,k b u q⟩
 free:=fun b u q n _=>by rw [AU (qoB (qqB (qbB q) hp))];exact n
 there:=fun b u q _=>⟨u,k b u q⟩
 tups:=fun b xs q=>by rw [AU (Ah q hn)];exact q
 frzs:=fun b u xs q=>by rw [AU (Ah q hn)];exact q
 tbls:=fun b ps q=>⟨#[],by rw [AU (Ah q hn),q];simp⟩
theorem Un.write (mu:Mut (H x))(he:e=x\/H e=some (.own x))(k:∀ b u,b≠e->h.get? b=some u->h'.get? b=some u)(heo:∃ u,h'.get? e=some u):Un fs ex H (upd H x o) h h':=by
 have hx:∀ b,H b=none->b≠x:=fun b n z=>by subst z;rw [n] at mu;exact mu
 have hb:∀ b,H b=none->b≠e:=fun b n z=>by
  subst z;rcases he with r|r
  ·exact hx b n r
  ·rw [n] at r;cases r
 have hm:∀ b u,H b=some u->¬ Mut (some u)->b≠x:=fun b u q nm z=>by subst z;rw [q] at mu;exact nm mu
 refine ⟨fun b u q n _ _=>k b u (hb b n) q,fun b u q n _ _=>⟨u.slots,k b u (hb b n) q⟩,fun b u q n _=>by rw [AU (hx b n)];exact n,fun b u q _=>?_,
  fun b xs q=>by rw [AU (hm b _ q fun z=>z)];exact q,fun b u xs q=>by rw [AU (hm b _ q fun z=>z)];exact q,fun b ps q=>⟨#[],by rw [AU (hm b _ q fun z=>z),q];simp⟩⟩
 by_cases hbe:b=e
 ·subst hbe;exact heo
 ·exact ⟨u,k b u hbe q⟩
end
def trk (h:Heap)(H:Hp):List Addr:=(List.range h.objs.size).filter fun a=>(H a).isSome
def Ju (h:Heap)(H:Hp):Heap:=PySem.W.hideAll h (trk h H)
theorem M9 (h:Heap)(H:Hp):(Ju h H).objs.size=h.objs.size:=PySem.W.hideAll_size _ _
theorem hidT_get {h:Heap}{H:Hp}{b:Addr}{o:Obj}(e:h.get? b=some o)(n:H b=none):(Ju h H).get? b=some o :=
 PySem.W.hideAll_get _ e fun hm=>by
  have q:(H b).isSome=true:=(List.mem_filter.mp hm).2;rw [n] at q;simp at q
theorem of_hidT {h:Heap}{H:Hp}{b:Addr}{o:Obj}(e:(Ju h H).get? b=some o):h.get? b=some o/\H b=none:=by
 have e':h.get? b=some o:=PySem.W.of_hideAll (trk h H) e;refine ⟨e',?_⟩
 cases q:H b with
 | none=>rfl
 | some x =>
  have hm:b∈trk h H:=List.mem_filter.mpr ⟨qqA.mpr (qbB e'),by simp [q]⟩;have z:(Ju h H).get? b=none:=PySem.W.hideAll_none (trk h H) hm;rw [z] at e;cases e
structure Mod (K:FZ9)(mg:Str->Option Value)(base:Heap):Prop where
 kin:K.In base
 glob:base.Ns mainGlobals mg
 blt:∃ mb,base.Ns builtinsNs mb/\∀ x:Str,x ≠ "__name__" -> mb x=bootBuiltins x
 nolimit:base.NoLimit
structure Cx where
 prog:Program
 w:World
 K:FZ9
 mg:Str->Option Value
 base:Heap
 A:Around
 N:List Str
 s₀:Shared
 H₀:Hp
 env:Env
 outer:List Env
 stack:List Env
 ex:List Addr
 fn:Str->Bool
 calm:Bool
 pn:List (Addr × Obj)
 xe:Value->Shared->Prop
def frs (l:List Env):List Addr:=l.filterMap (·.frame)
abbrev Cx.fs (X:Cx):List Addr:=frs X.outer
def Vis (sc:Scope)(x:Str):Prop:=sc.names.lookup x=some .local \/ sc.names.lookup x=some .cell\/sc.names.lookup x=some .free
def Loc (sc:Scope)(x:Str):Prop:=sc.names.lookup x=some .local \/ sc.names.lookup x=some .cell
def Look (env:Env)(h:Heap)(m:Str->Option Value)(x:Str)(u:Value):Prop :=
 (env.kindOf x=some .local /\ m x=some u)\/((env.kindOf x=some .cell\/env.kindOf x=some .free)/\∃ c,env.cells.lookup x=some c/\h.IsCell c (some u))
structure Cx.Ok (X:Cx):Prop where
 mod:Mod X.K X.mg X.base
 kind:X.env.scope.kind = .function
 glob:X.env.globals=mainGlobals
 blt:X.env.builtins=builtinsNs
 above:X.s₀.heap.objs.size<=X.env.locals
 inj:∀ x y c,X.env.cells.lookup x=some c->X.env.cells.lookup y=some c->x=y
 has:∀ x,(X.env.kindOf x=some .cell\/X.env.kindOf x=some .free)->∃ c,X.env.cells.lookup x=some c
 cab:∀ x c,X.fn x=true->X.env.cells.lookup x=some c->X.s₀.heap.objs.size<=c
 hd:X.calm=true->X.A.handled=none
 frames:X.A.frames=some X.stack
 stk:X.stack=X.outer\/(X.stack=X.env::X.outer/\X.env.frame=some X.env.locals)
 exf:∀ b∈X.ex,b≠X.env.locals/\∀ x c,X.env.cells.lookup x=some c->c≠b
 bs:∀ b o,X.base.get? b=some o->X.s₀.heap.get? b=some o/\X.H₀ b=none
 bsz:X.base.objs.size<=X.s₀.heap.objs.size
 noex:∀ b o,X.base.get? b=some o->b ∉ X.ex
 exfs:∀ b∈X.ex,b ∉ X.fs
 funs:X.s₀.heap.FunFrames X.base X.outer
 frf:∀ b∈X.fs,X.H₀ b=none
structure Inv (X:Cx)(pins:List (Addr × Obj))(σ:List (Option V))(H:Hp)(s:Shared):Prop where
 ok:X.Ok
 os:s.os=X.s₀.os
 bare:AllBare s.gens
 base:Un X.fs X.ex X.H₀ H X.s₀.heap s.heap
 loc:∃ m,s.heap.Ns X.env.locals m/\∀ (i:Nat) (x:Str) (v:V),X.N[i]? = some x->σ[i]? = some (some v)->Vis X.env.scope x->∃ u,RelV v u/\Look X.env s.heap m x u
 cell:∀ x c,X.env.cells.lookup x=some c->∃ v,s.heap.IsCell c v
 free:H X.env.locals=none
 freeC:∀ x c,X.env.cells.lookup x=some c->H c=none
 pin:∀ p∈X.pn++pins,s.heap.get? p.1=some p.2/\H p.1=none/\p.1≠X.env.locals/\p.1 ∉ X.fs/\∀ v,p.2.data ≠ .cell v
 hok:HOk X.prog X.w H s.heap
 len:σ.length=X.N.length
section
variable {X:Cx}{pins:List (Addr × Obj)}{σ:List (Option V)}{H H':Hp}{s:Shared}{h':Heap}
theorem Cx.Ok.nofr (ok:X.Ok){b:Addr}{o:Obj}(e:X.base.get? b=some o):b ∉ X.fs:=fun hb=>by
 have:=(ok.funs.mem hb).1;rw [e] at this;cases this
theorem Inv.bs (I:Inv X pins σ H s):∀ b o,X.base.get? b=some o->s.heap.get? b=some o/\H b=none:=fun b o e =>
 ⟨I.base.keep b o (I.ok.bs b o e).1 (I.ok.bs b o e).2 (I.ok.nofr e) (I.ok.noex b o e),I.base.free b o (I.ok.bs b o e).1 (I.ok.bs b o e).2 (I.ok.noex b o e)⟩
theorem Inv.bk (I:Inv X pins σ H s):∀ b o,X.base.get? b=some o->s.heap.get? b=some o:=fun b o e=>(I.bs b o e).1
theorem Inv.mod (I:Inv X pins σ H s):Mod X.K X.mg X.base:=I.ok.mod
theorem Inv.kIn (I:Inv X pins σ H s):X.K.In s.heap:=I.ok.mod.kin.keeps I.bk
theorem Inv.lt (I:Inv X pins σ H s):X.env.locals<s.heap.objs.size:=let ⟨_,hn,_⟩:=I.loc;hn.lt
theorem Inv.sz (I:Inv X pins σ H s):X.s₀.heap.objs.size<=s.heap.objs.size:=qyA I.ok.above (Nat.le_of_lt I.lt)
theorem Inv.nofs (I:Inv X pins σ H s){a:Addr}(h:s.heap.objs.size<=a):a ∉ X.fs:=fun hb=>by
 obtain ⟨_,o,ho,_⟩:=I.ok.funs.mem hb;exact absurd (qqB (qbB ho) (qyA I.sz h)) (qzA _)
theorem Inv.cne (I:Inv X pins σ H s):∀ x c,X.env.cells.lookup x=some c->c≠X.env.locals:=fun x c e z=>by
 obtain ⟨v,o,ho,hd⟩:=I.cell x c e;obtain ⟨m,⟨o',es,ep,ho',hd',_⟩,_⟩:=I.loc;rw [z,ho'] at ho;cases ho;rw [hd'] at hd;cases hd
theorem Inv.funs (I:Inv X pins σ H s):s.heap.FunFrames X.base X.outer:=by
 have all:∀ (l:List Env),(∀ b∈frs l,b∈X.fs)->X.s₀.heap.FunFrames X.base l->s.heap.FunFrames X.base l:=by
  intro l
  induction l with
  | nil=>intro _ _;trivial
  | cons env r ih =>
   intro hs hl;obtain ⟨hk,⟨L,o,hf,hn,ho,hd⟩,hr⟩:=hl;have hL:L∈X.fs:=hs L (by unfold frs;rw [List.filterMap_cons,hf];exact qoA);obtain ⟨sl,e⟩:=I.base.slot L o ho (I.ok.frf L hL) hL fun z=>I.ok.exfs L z hL;exact ⟨hk,⟨L,_,hf,hn,e,hd⟩,ih (fun b hb=>hs b (by unfold frs;rw [List.filterMap_cons,hf];exact qpA _ hb)) hr⟩
 exact all X.outer (fun _ hb=>hb) I.ok.funs
theorem Inv.stack (I:Inv X pins σ H s):s.heap.FunFrames X.base X.stack:=by
 rcases I.ok.stk with e | ⟨e,hf⟩
 ·rw [e];exact I.funs
 ·rw [e];obtain ⟨m,hn,_⟩:=I.loc;refine .cons (by rw [I.ok.kind];decide) hf hn ?_ I.funs;exact Heap.get?_none_of_le (qyA I.ok.bsz I.ok.above)
theorem Inv.stkSub (I:Inv X pins σ H s):∀ b∈frs X.stack,b∈X.env.locals::X.fs:=fun b hb=>by
 rcases I.ok.stk with e | ⟨e,hf⟩
 ·rw [e] at hb;exact qpA _ hb
 ·rw [e] at hb;unfold frs at hb;rw [List.filterMap_cons,hf] at hb;exact hb
theorem Inv.stkFree (I:Inv X pins σ H s):∀ b∈frs X.stack,H b=none:=fun b hb=>by
 rcases qkA.mp (I.stkSub b hb) with e|hb
 ·rw [e];exact I.free
 ·obtain ⟨_,o,ho,_⟩:=I.ok.funs.mem hb;exact I.base.free b o ho (I.ok.frf b hb) fun z=>I.ok.exfs b z hb
theorem Inv.step {g':Array GenState}{t':Nat}{d':Drawn}{ch:List Addr}(I:Inv X pins σ H s)
  (hch:∀ b∈ch,(b∈X.ex\/X.s₀.heap.objs.size<=b)/\b≠X.env.locals/\(∀ x c,X.env.cells.lookup x=some c->c≠b)/\∀ p∈X.pn++pins,p.1≠b)
  (keep:∀ b o,b≠X.env.locals->b ∉ X.fs->b ∉ ch->s.heap.get? b=some o->H b=none->h'.get? b=some o)
  (slot:∀ b o,b≠X.env.locals->b∈X.fs->b ∉ ch->s.heap.get? b=some o->H b=none->∃ sl,h'.get? b=some { o with slots:=sl }) (free:∀ b o,b ∉ ch->s.heap.get? b=some o->H b=none->H' b=none)
  (there:∀ b o,b ∉ ch->s.heap.get? b=some o->∃ o',h'.get? b=some o')
  (tups:∀ b xs,H b=some (.tup xs)->H' b=some (.tup xs)) (frzs:∀ b o u,H b=some (.frz o u)->H' b=some (.frz o u)) (tbls:∀ b ps,H b=some (.tbl ps)->∃ more,H' b=some (.tbl (ps++more)))
  (ns:∀ m,s.heap.Ns X.env.locals m->h'.Ns X.env.locals m) (hok:HOk X.prog X.w H' h') (hg:AllBare g') :
  Inv X pins σ H' { s with heap:=h',gens:=g',drawn:=d',toks:=t' }:=by
 have neL:∀ b o,X.s₀.heap.get? b=some o->b≠X.env.locals:=fun b o e=>qoB (qqB (qbB e) I.ok.above)
 have neC:∀ b o,X.s₀.heap.get? b=some o->b ∉ X.ex->b ∉ ch:=fun b o e hx hb=>by
  rcases (hch b hb).1 with z|z
  ·exact hx z
  ·exact absurd (qqB (qbB e) z) (qzA _)
 have cellK:∀ x c,X.env.cells.lookup x=some c->∀ v,s.heap.IsCell c v->h'.IsCell c v:=fun x c e v ⟨o,ho,hd⟩=>by
  have nch:c ∉ ch:=fun z=>(hch c z).2.2.1 x c e rfl;by_cases hc:c∈X.fs
  ·obtain ⟨sl,q⟩:=slot c o (I.cne x c e) hc nch ho (I.freeC x c e);exact ⟨_,q,hd⟩
  ·exact ⟨o,keep c o (I.cne x c e) hc nch ho (I.freeC x c e),hd⟩
 refine ⟨I.ok,I.os,hg,⟨fun b o e n hb hx=>?_,fun b o e n hb hx=>?_,fun b o e n hx=>?_,fun b o e hx=>?_,fun b xs e=>tups b xs (I.base.tups b xs e),fun b o xs e=>frzs b o xs (I.base.frzs b o xs e),fun b ps e=>?_⟩,?_,fun x c e=>?_,?_,fun x c e=>?_,fun p hp=>?_,hok,I.len⟩
 ·exact keep b o (neL b o e) hb (neC b o e hx) (I.base.keep b o e n hb hx) (I.base.free b o e n hx)
 ·obtain ⟨sl,e1⟩:=I.base.slot b o e n hb hx;obtain ⟨sl',e2⟩:=slot b _ (neL b o e) hb (neC b o e hx) e1 (I.base.free b o e n hx);exact ⟨sl',e2⟩
 ·obtain ⟨o',e1⟩:=I.base.there b o e hx;exact free b o' (neC b o e hx) e1 (I.base.free b o e n hx)
 ·obtain ⟨o',e1⟩:=I.base.there b o e hx;exact there b o' (neC b o e hx) e1
 ·obtain ⟨m1,e1⟩:=I.base.tbls b ps e;obtain ⟨m2,e2⟩:=tbls b _ e1;exact ⟨m1++m2,by rw [e2,Array.append_assoc]⟩
 ·obtain ⟨m,hn,hl⟩:=I.loc;refine ⟨m,ns m hn,fun i x v e1 e2 e3=>?_⟩;obtain ⟨u,r,l⟩:=hl i x v e1 e2 e3;refine ⟨u,r,?_⟩;rcases l with l | ⟨k,c,e,z⟩
  ·exact .inl l
  ·exact .inr ⟨k,c,e,cellK x c e _ z⟩
 ·obtain ⟨v,z⟩:=I.cell x c e;exact ⟨v,cellK x c e v z⟩
 ·obtain ⟨m,⟨o,_,_,ho,_⟩,_⟩:=I.loc;exact free _ o (fun z=>(hch _ z).2.1 rfl) ho I.free
 ·obtain ⟨v,o,ho,hd⟩:=I.cell x c e;exact free c o (fun z=>(hch c z).2.2.1 x c e rfl) ho (I.freeC x c e)
 ·obtain ⟨e,n,ne,nf,d⟩:=I.pin p hp;have nch:p.1 ∉ ch:=fun z=>(hch p.1 z).2.2.2 p hp rfl;exact ⟨keep p.1 p.2 ne nf nch e n,free p.1 p.2 nch e n,ne,nf,d⟩
theorem Inv.un {t':Nat}(I:Inv X pins σ H s)(u:Un X.fs [] H H' s.heap h')(hok:HOk X.prog X.w H' h'):Inv X pins σ H' { s with heap:=h',toks:=t' }:=by
 obtain ⟨m,⟨o,es,ep,ho,r⟩,_⟩:=id I.loc;obtain ⟨sl,hL⟩:=u.any ho I.free (by simp)
 exact I.step (g':=s.gens) (d':=s.drawn) (ch:=[]) (fun _ z=>nomatch z) (fun b o _ hb _ e n=>u.keep b o e n hb (by simp)) (fun b o _ hb _ e n=>u.slot b o e n hb (by simp)) (fun b o _ e n=>u.free b o e n (by simp)) (fun b o _ e=>u.there b o e (by simp)) u.tups u.frzs u.tbls (fun m' hm=>by
  obtain ⟨o',es',ep',ho',r'⟩:=hm;rw [ho] at ho';cases ho'
  exact ⟨_,es',ep',hL,r'⟩) hok I.bare
theorem Inv.call {g':Array GenState}{t':Nat}{d':Drawn}{ch:List Addr}(I:Inv X pins σ H s)(u:Un (frs X.stack) ch H H' s.heap h')(hok:HOk X.prog X.w H' h')(hg:AllBare g')
  (hch:∀ b∈ch,(b∈X.ex\/X.s₀.heap.objs.size<=b)/\b≠X.env.locals/\(∀ x c,X.env.cells.lookup x=some c->c≠b)/\∀ p∈X.pn++pins,p.1≠b) :
  Inv X pins σ H' { s with heap:=h',gens:=g',drawn:=d',toks:=t' }:=by
 obtain ⟨m,⟨o,es,ep,ho,r⟩,_⟩:=id I.loc;obtain ⟨sl,hL⟩:=u.any ho I.free fun z=>(hch _ z).2.1 rfl
 exact I.step (ch:=ch) hch (fun b o hL hb hc e n=>u.keep b o e n (fun z=>(qkA.mp (I.stkSub b z)).elim hL hb) hc) (fun b o _ _ hc e n=>u.any e n hc) (fun b o hc e n=>u.free b o e n hc) (fun b o hc e=>u.there b o e hc) u.tups u.frzs u.tbls (fun m' hm=>by
  obtain ⟨o',es',ep',ho',r'⟩:=hm;rw [ho] at ho';cases ho'
  exact ⟨_,es',ep',hL,r'⟩) hok hg
theorem Inv.turned {t':Nat}{it:Addr}(I:Inv X pins σ H s)(k:∀ b o,b≠it->s.heap.get? b=some o->h'.get? b=some o)(hn:H it=none)(hL:it≠X.env.locals)
  (h1:it∈X.ex\/X.s₀.heap.objs.size<=it) (h2:∀ x c,X.env.cells.lookup x=some c->c≠it) (h3:∀ p∈X.pn++pins,p.1≠it):Inv X pins σ H { s with heap:=h',toks:=t' }:=by
 have nit:∀ b u,H b=some u->b≠it:=fun b u e z=>by rw [z,hn] at e;cases e
 refine I.step (g':=s.gens) (d':=s.drawn) (ch:=[it]) (fun b hb=>?_) (fun b o _ _ hc e _=>k b o (fun z=>hc (by simp [z])) e) (fun b o _ _ hc e _=>⟨o.slots,k b o (fun z=>hc (by simp [z])) e⟩) (fun _ _ _ _ n=>n)
  (fun b o hc e=>⟨o,k b o (fun z=>hc (by simp [z])) e⟩) (fun _ _ e=>e) (fun _ _ _ e=>e) (fun b ps e=>⟨#[],by rw [e];simp⟩) (fun m hm=>?_) (fun b u e=>?_) I.bare
 ·have e:b=it:=by simpa using hb
  subst e;exact ⟨h1,hL,h2,h3⟩
 ·obtain ⟨o,es,ep,ho,r⟩:=hm;exact ⟨o,es,ep,k _ o (Ne.symm hL) ho,r⟩
 ·refine (I.hok b u e).stay (fun c v hc q=>k c v ?_ q) (fun _ q=>q) fun _ _ q=>q;rcases hc with z|z
  ·rw [z];exact nit b u e
  ·exact nit c _ z
theorem Inv.tok (I:Inv X pins σ H s)(t:Nat):Inv X pins σ H { s with toks:=t }:=I.un (h':=s.heap) (t':=t) Un.refl I.hok
theorem Inv.kept {t':Nat}(I:Inv X pins σ H s)(k:∀ b u,s.heap.get? b=some u->h'.get? b=some u):Inv X pins σ H { s with heap:=h',toks:=t' }:=I.un (Un.kept k) (I.hok.kept k)
theorem Inv.laid {a:Addr}{o:HO}{t':Nat}(I:Inv X pins σ H s)(k:∀ b u,s.heap.get? b=some u->h'.get? b=some u)(hp:s.heap.objs.size<=a)(new:ObjOk X.prog X.w (upd H a o) h' a o) :
  Inv X pins σ (upd H a o) { s with heap:=h',toks:=t' }:=I.un (Un.laid k hp (I.hok.fresh hp)) (I.hok.laid k hp new)
theorem Inv.write {x e:Addr}{o:HO}{t':Nat}(I:Inv X pins σ H s)(mu:Mut (H x))(he:e=x\/H e=some (.own x))(k:∀ b u,b≠e->s.heap.get? b=some u->h'.get? b=some u)(heo:∃ u,h'.get? e=some u)
  (new:ObjOk X.prog X.w (upd H x o) h' x o):Inv X pins σ (upd H x o) { s with heap:=h',toks:=t' }:=I.un (Un.write mu he k heo) (I.hok.write mu he k heo new)
theorem Inv.weak {σ':List (Option V)}(I:Inv X pins σ H s)(hl:σ'.length=σ.length)(w:∀ (i:Nat) v,σ'[i]? = some (some v)->σ[i]? = some (some v)):Inv X pins σ' H s :=
 ⟨I.ok,I.os,I.bare,I.base,let ⟨m,hn,hl'⟩:=I.loc;⟨m,hn,fun i x v e1 e2 e3=>hl' i x v e1 (w i v e2) e3⟩,I.cell,I.free,I.freeC,I.pin,I.hok,hl.trans I.len⟩
theorem Inv.pins_of {pins':List (Addr × Obj)}(I:Inv X pins σ H s)(h:∀ p∈pins',s.heap.get? p.1=some p.2/\H p.1=none/\p.1≠X.env.locals/\p.1 ∉ X.fs/\∀ v,p.2.data ≠ .cell v):Inv X pins' σ H s :=
 ⟨I.ok,I.os,I.bare,I.base,I.loc,I.cell,I.free,I.freeC,fun p hp=>(qjA.mp hp).elim (fun z=>I.pin p (List.mem_append_left _ z)) (h p),I.hok,I.len⟩
theorem KU {N:List Str}(hN:N.Nodup){i j:Nat}{x:Str}(a:N[i]? = some x)(b:N[j]? = some x):i=j:=by
 obtain ⟨h1,e1⟩:=qsA.mp a;obtain ⟨h2,e2⟩:=qsA.mp b;exact (List.getElem_inj hN).mp (e1.trans e2.symm)
theorem Ij {M:Model}{A:Around}{E:Value->Shared->Prop}{i:Nat}{x:Str}{v:V}{u:Value}{Q:Unit->Shared->Prop}(I:Inv X pins σ H s)(hN:X.N.Nodup)(hi:X.N[i]? = some x)(hx:Loc X.env.scope x)(r:RelV v u)
  (h:∀ s',Inv X pins (σ.set i (some v)) H s'->(∃ a,Heap.SameBut a s.heap s'.heap/\(a=X.env.locals\/X.env.cells.lookup x=some a))->Q () s') (hf:X.fn x=true\/X.env.scope.names.lookup x=some .local := by first|exact .inl rfl|exact .inr rfl|assumption):wpAny M A (storeName X.env x u) Q E s:=by
 obtain ⟨m,hn,hl⟩:=id I.loc;have hcls:(X.env.scope.kind == .class || (X.env.scope.kind == .module && X.env.locals != X.env.globals))=false:=by rw [I.ok.kind];rfl
 have hiσ:i<σ.length:=by rw [I.len];exact (qsA.mp hi).1
 have cne:=I.cne
 have tracked:∀ {a:Addr}{h':Heap},(∃ o,s.heap.get? a=some o/\H a=none)->Heap.SameBut a s.heap h'->HOk X.prog X.w H h':=fun {a h'} ha hs b ob e=>by
  obtain ⟨_,_,hfree⟩:=ha;refine (I.hok b ob e).stay (fun c w' hc q=>(hs.2 c ?_).trans q) (fun _ q=>q) fun _ _ q=>q;rintro rfl;rcases hc with rfl|hc
  ·rw [hfree] at e;cases e
  ·rw [hfree] at hc;cases hc
 rcases hx with hk|hk
 ·refine wpAny_storeName_local hk hn (fun h' hn' hs=>?_) hcls;obtain ⟨oL,_,_,hoL,_⟩:=id hn;refine h _ ⟨I.ok,I.os,I.bare,⟨fun b o e n hb hx=>?_,fun b o e n hb hx=>?_,I.base.free,fun b o e hx=>?_,I.base.tups,I.base.frzs,I.base.tbls⟩,⟨_,hn',fun j y v' e1 e2 e3=>?_⟩,fun y c e=>?_,I.free,I.freeC,fun p hp=>?_,tracked ⟨oL,hoL,I.free⟩ hs,by simpa using I.len⟩ ⟨_,hs,.inl rfl⟩
  ·exact (hs.2 b (qoB (qqB (qbB e) I.ok.above))).trans (I.base.keep b o e n hb hx)
  ·obtain ⟨sl,e1⟩:=I.base.slot b o e n hb hx;exact ⟨sl,(hs.2 b (qoB (qqB (qbB e) I.ok.above))).trans e1⟩
  ·obtain ⟨o',e1⟩:=I.base.there b o e hx;exact ⟨o',(hs.2 b (qoB (qqB (qbB e) I.ok.above))).trans e1⟩
  ·by_cases hj:j=i
   ·subst hj;rw [hi] at e1;cases e1;rw [List.getElem?_set_self hiσ] at e2;cases e2;exact ⟨u,r,.inl ⟨hk,by simp⟩⟩
   ·rw [List.getElem?_set_ne (Ne.symm hj)] at e2;obtain ⟨u',r',q⟩:=hl j y v' e1 e2 e3;refine ⟨u',r',?_⟩;rcases q with ⟨k,e⟩ | ⟨k,c,e,z⟩
    ·refine .inl ⟨k,?_⟩;have:y≠x:=fun e=>hj (KU hN e1 (e ▸ hi));simp [this,e]
    ·exact .inr ⟨k,c,e,z.sameBut hs (cne y c e)⟩
  ·obtain ⟨w',z⟩:=I.cell y c e;exact ⟨w',z.sameBut hs (cne y c e)⟩
  ·obtain ⟨e,n,ne,nf,d⟩:=I.pin p hp;exact ⟨(hs.2 p.1 ne).trans e,n,ne,nf,d⟩
 ·have hfn:X.fn x=true:=by
   rcases hf with z|z
   ·exact z
   ·rw [z] at hk;cases hk
  obtain ⟨c,hc⟩:=I.ok.has x (.inl hk);obtain ⟨w',z⟩:=I.cell x c hc;refine wpAny_storeName_cell I.ok.kind hk hc z (fun h' hc' hs=>?_);obtain ⟨oc,hoc,hocd⟩:=id z;refine h { s with heap:=h' } ⟨I.ok,I.os,I.bare,⟨fun b o e n hb hx=>?_,fun b o e n hb hx=>?_,I.base.free,fun b o e hx=>?_,I.base.tups,I.base.frzs,I.base.tbls⟩,⟨m,hn.sameBut hs (Ne.symm (cne x c hc)),fun j y v' e1 e2 e3=>?_⟩,fun y c' e=>?_,I.free,I.freeC,fun p hp=>?_,tracked ⟨oc,hoc,I.freeC x c hc⟩ hs,by simpa using I.len⟩ ⟨c,hs,.inr hc⟩
  ·exact (hs.2 b (qoB (qqB (qbB e) (I.ok.cab x c hfn hc)))).trans (I.base.keep b o e n hb hx)
  ·obtain ⟨sl,e1⟩:=I.base.slot b o e n hb hx;exact ⟨sl,(hs.2 b (qoB (qqB (qbB e) (I.ok.cab x c hfn hc)))).trans e1⟩
  ·obtain ⟨o',e1⟩:=I.base.there b o e hx;exact ⟨o',(hs.2 b (qoB (qqB (qbB e) (I.ok.cab x c hfn hc)))).trans e1⟩
  ·by_cases hj:j=i
   ·subst hj;rw [hi] at e1;cases e1;rw [List.getElem?_set_self hiσ] at e2;cases e2;exact ⟨u,r,.inr ⟨.inl hk,c,hc,hc'⟩⟩
   ·rw [List.getElem?_set_ne (Ne.symm hj)] at e2;obtain ⟨u',r',q⟩:=hl j y v' e1 e2 e3;refine ⟨u',r',?_⟩;rcases q with q | ⟨k,c',e,z'⟩
    ·exact .inl q
    ·refine .inr ⟨k,c',e,z'.sameBut hs ?_⟩;rintro rfl;exact hj (KU hN e1 (I.ok.inj _ _ _ e hc ▸ hi))
  ·by_cases hcc:c'=c
   ·subst hcc;exact ⟨_,hc'⟩
   ·obtain ⟨w2,z2⟩:=I.cell y c' e;exact ⟨w2,z2.sameBut hs hcc⟩
  ·obtain ⟨e,n,ne,nf,d⟩:=I.pin p hp;refine ⟨(hs.2 p.1 ?_).trans e,n,ne,nf,d⟩;intro q;rw [q,hoc] at e;have q':oc=p.2:=qaB e;exact d w' (by rw [<- q'];exact hocd)
theorem He {M:Model}{A:Around}{E:Value->Shared->Prop}{i:Nat}{x:Str}{v:V}{u:Value}{Q:Unit->Shared->Prop}(I:Inv X pins σ H s)(hN:X.N.Nodup)(hi:X.N[i]? = some x)(hx:Loc X.env.scope x)(r:RelV v u)
  (h:∀ s',Inv X pins (σ.set i (some v)) H s'->Q () s') (hf:X.fn x=true\/X.env.scope.names.lookup x=some .local := by first|exact .inl rfl|exact .inr rfl|assumption):wpAny M A (storeName X.env x u) Q E s :=
 Ij I hN hi hx r (fun s' I' _=>h s' I') hf
theorem Inv.call' {s':Shared}{ch:List Addr}(I:Inv X pins σ H s)(ho:s'.os=s.os)(u:Un (frs X.stack) ch H H' s.heap s'.heap)(hok:HOk X.prog X.w H' s'.heap)(hg:AllBare s'.gens)
  (hch:∀ b∈ch,(b∈X.ex\/X.s₀.heap.objs.size<=b)/\b≠X.env.locals/\(∀ x c,X.env.cells.lookup x=some c->c≠b)/\∀ p∈X.pn++pins,p.1≠b):Inv X pins σ H' s':=by
 obtain ⟨h',g',d',t',o'⟩:=s';have e:o'=s.os:=ho;subst e;exact I.call (g':=g') (t':=t') (d':=d') u hok hg hch
end
abbrev XK:=Value->Option Addr->Hp->Prop
abbrev St:=List (Option V)
abbrev VK:=V->Hp->Prop
abbrev TE:=St->Hp->VK->Prop
abbrev TT:=St->Hp->(Bool->Hp->Prop)->Prop
abbrev TA:=St->Hp->(List V->Hp->Prop)->Prop
structure Ends where
 nx:St->Hp->Prop
 rt:VK
 bk:St->Hp->Prop:=fun _ _=>False
 ct:St->Hp->Prop:=fun _ _=>False
abbrev TS:=Ends->St->Hp->Prop
def EP (X:Cx)(pins:List (Addr × Obj))(σ:St)(Q:VK)(u:Value)(s':Shared):Prop:=∃ v H',Inv X pins σ H' s'/\RelV v u/\Q v H'
def TP (X:Cx)(pins:List (Addr × Obj))(σ:St)(Q:Bool->Hp->Prop)(b:Bool)(s':Shared):Prop:=∃ H',Inv X pins σ H' s'/\Q b H'
def AP (X:Cx)(pins:List (Addr × Obj))(σ:St)(Q:List V->Hp->Prop)(us:List Value)(s':Shared):Prop:=∃ vs H',Inv X pins σ H' s'/\Vals vs us/\Q vs H'
def SP (X:Cx)(pins:List (Addr × Obj))(D:Ends)(f:Flow)(s':Shared):Prop :=
 match f with
 | .next=>∃ σ' H',Inv X pins σ' H' s'/\D.nx σ' H'
 | .brk=>∃ σ' H',Inv X pins σ' H' s'/\D.bk σ' H'
 | .cont=>∃ σ' H',Inv X pins σ' H' s'/\D.ct σ' H'
 | .ret u=>∃ v σ' H',Inv X pins σ' H' s'/\RelV v u/\D.rt v H'
def PE (X:Cx)(e:Expr)(t:TE):Prop :=
 ∀ (pins:List (Addr × Obj)) (s:Shared) (σ:St) (H:Hp) (Q:VK),Inv X pins σ H s->t σ H Q->wpAny (model X.prog X.w) X.A (eval e X.env) (EP X pins σ Q) X.xe s
def PT (X:Cx)(e:Expr)(t:TT):Prop :=
 ∀ (pins:List (Addr × Obj)) (s:Shared) (σ:St) (H:Hp) (Q:Bool->Hp->Prop),Inv X pins σ H s->t σ H Q->wpAny (model X.prog X.w) X.A (isTrue e X.env (eval e X.env)) (TP X pins σ Q) X.xe s
def PW (X:Cx)(e:Expr)(t:TT):Prop :=
 ∀ (whole:Sem Value) (pins:List (Addr × Obj)) (s:Shared) (σ:St) (H:Hp) (Q:Bool->Hp->Prop),Inv X pins σ H s->t σ H Q->wpAny (model X.prog X.w) X.A (isTrue e X.env whole) (TP X pins σ Q) X.xe s
theorem PW.pt {X:Cx}{e:Expr}{t:TT}(h:PW X e t):PT X e t:=h _
def PA (X:Cx)(es:List Expr)(t:TA):Prop :=
 ∀ (pos:Pos) (pins:List (Addr × Obj)) (s:Shared) (σ:St) (H:Hp) (Q:List V->Hp->Prop),Inv X pins σ H s->t σ H Q->wpAny (model X.prog X.w) X.A (spliced (backTo pos (starEach es X.env))) (AP X pins σ Q) X.xe s
def PS (X:Cx)(st:Stmt)(t:TS):Prop :=
 ∀ (pins:List (Addr × Obj)) (s:Shared) (σ:St) (H:Hp) (D:Ends),Inv X pins σ H s->t D σ H->wpAny (model X.prog X.w) X.A (exec st X.env) (SP X pins D) X.xe s
def PSs (X:Cx)(st:List Stmt)(t:TS):Prop :=
 ∀ (pins:List (Addr × Obj)) (s:Shared) (σ:St) (H:Hp) (D:Ends),Inv X pins σ H s->t D σ H->wpAny (model X.prog X.w) X.A (execs st X.env) (SP X pins D) X.xe s
theorem thn {α:Type}{t:Sem α}{Q Q':α->Shared->Prop}{M:Model}{A:Around}{E:Value->Shared->Prop}{s:Shared}(h:wpAny M A t Q E s)(hQ:∀ a s,Q a s->Q' a s):wpAny M A t Q' E s:=wpAny_mono h hQ fun _ _ x=>x
section
variable {X:Cx}
abbrev GJ (i:Nat):TE:=fun σ H Q=>∃ v,σ[i]? = some (some v)/\Q v H
abbrev tC (v:V):TE:=fun _ H Q=>Q v H
theorem pe_var {i:Nat}{x:Str}{pos:Pos}(hN:X.N[i]? = some x)(hv:Vis X.env.scope x)(hd:(x == ("__debug__" : Str))=false:=by decide)(hcd:(x == ("__classdict__" : Str))=false:=by decide):PE X (.Name x pos) (GJ i):=by
 intro pins s σ H Q I h;obtain ⟨v,e,h⟩:=h;obtain ⟨m,hn,hl⟩:=I.loc;obtain ⟨u,r,l⟩:=hl i x v hN e hv;have fin:EP X pins σ Q u s:=⟨v,H,I,r,h⟩;rcases l with ⟨hk,hm⟩ | ⟨hk,c,hc,hcell⟩
 ·exact wpAny_Name (wpAny_loadName_local I.ok.kind hk hn hm fin) hd
 ·rcases hk with hk|hk
  ·exact wpAny_Name (wpAny_loadName_cell I.ok.kind hk hc hcell fin) hd
  ·exact wpAny_Name (wpAny_loadName_free I.ok.kind hk hc hcell fin hcd) hd
theorem A7 {i j pos}:PE X (.Constant (.int i) j pos) (tC (.int i)):=fun _ _ _ H _ I h=>wpAny_Constant_int ⟨.int i,H,I.tok _,⟨_,rfl⟩,h⟩
theorem C1 {b j pos}:PE X (.Constant (.bool b) j pos) (tC (.bl b)):=fun _ _ _ H _ I h=>Constant_bool ⟨.bl b,H,I,rfl,h⟩
theorem Ap {x j pos}:PE X (.Constant (.str x) j pos) (tC (.str x)):=fun _ _ _ H _ I h=>Calls.Constant_str ⟨.str x,H,I.tok _,⟨_,rfl⟩,h⟩
def Gl (X:Cx)(x:Str):Prop:=X.env.kindOf x=some .globalImplicit
theorem Lo {E:Value->Shared->Prop}{pins:List (Addr × Obj)}{s:Shared}{σ:St}{H:Hp}{x:Str}{u:Value}{pos:Pos}{Q:Value->Shared->Prop}(I:Inv X pins σ H s)(hg:Gl X x)(hm:X.mg x=some u)(h:Q u s)
  (hd:(x == ("__debug__" : Str))=false:=by decide):wpAny (model X.prog X.w) X.A (eval (.Name x pos) X.env) Q E s :=
 Calls.Name_function_global I.ok.kind hg (Calls.loadGlobal_global (by rw [I.ok.glob];exact I.mod.glob.keeps I.bk) hm h) hd
theorem Hr {E:Value->Shared->Prop}{pins:List (Addr × Obj)}{s:Shared}{σ:St}{H:Hp}{x:Str}{u:Value}{pos:Pos}{Q:Value->Shared->Prop}(I:Inv X pins σ H s)(hg:Gl X x)(hm:X.mg x=none)(hv:bootBuiltins x=some u)(h:Q u s)
  (hn:x ≠ "__name__" := by decide) (hd:(x == ("__debug__" : Str))=false:=by decide):wpAny (model X.prog X.w) X.A (eval (.Name x pos) X.env) Q E s:=by
 obtain ⟨mb,h1,h2⟩:=I.mod.blt;exact Calls.Name_function_global I.ok.kind hg (Calls.loadGlobal_builtin (by rw [I.ok.glob];exact I.mod.glob.keeps I.bk) hm (by rw [I.ok.blt];exact h1.keeps I.bk) ((h2 x hn).trans hv) h) hd
theorem Lh {x:Str}{v:V}{u:Value}{pos:Pos}(hg:Gl X x)(hm:X.mg x=some u)(r:RelV v u)(hd:(x == ("__debug__" : Str))=false:=by decide):PE X (.Name x pos) (tC v) :=
 fun _ _ _ H _ I h=>Lo I hg hm ⟨v,H,I,r,h⟩ hd
theorem BK {x:Str}{v:V}{u:Value}{pos:Pos}(hg:Gl X x)(hm:X.mg x=none)(hv:bootBuiltins x=some u)(r:RelV v u)(hn:x ≠ "__name__" := by decide)(hd:(x == ("__debug__" : Str))=false:=by decide):PE X (.Name x pos) (tC v) :=
 fun _ _ _ H _ I h=>Hr I hg hm hv ⟨v,H,I,r,h⟩ hn hd
variable {a b:Expr}{ta tb:TE}{pos:Pos}
variable {tA tB':TT}{rest:List Expr}
abbrev tAnd (t u:TT):TT:=fun σ H Q=>t σ H fun c H1=>if c=true then u σ H1 Q else Q false H1
abbrev tOr (t u:TT):TT:=fun σ H Q=>t σ H fun c H1=>if c=true then Q true H1 else u σ H1 Q
abbrev tNot (t:TT):TT:=fun σ H Q=>t σ H fun c H1=>Q (!c) H1
theorem Ld (ha:PT X a tA):PW X (.BoolOp .And [a] pos) tA:=by
 intro wh pins s σ H Q I h;refine isTrue_and (thn (ha pins s σ H Q I h) fun c s1 e=>?_)
 cases c with
 | true=>exact isTrue_and_nil e
 | false=>exact e
theorem Bm (ha:PT X a tA):PW X (.BoolOp .Or [a] pos) tA:=by
 intro wh pins s σ H Q I h;refine isTrue_or (thn (ha pins s σ H Q I h) fun c s1 e=>?_)
 cases c with
 | false=>exact isTrue_or_nil e
 | true=>exact e
theorem pw_and (ha:PT X a tA)(hb:PW X (.BoolOp .And (b::rest) pos) tB'):PW X (.BoolOp .And (a::b::rest) pos) (tAnd tA tB'):=by
 intro wh pins s σ H Q I h;refine isTrue_and (thn (ha pins s σ H _ I h) fun c s1 ⟨H1,I1,q1⟩=>?_)
 cases c with
 | true=>exact hb wh pins s1 σ H1 Q I1 q1
 | false=>exact ⟨H1,I1,q1⟩
theorem Bi (ha:PT X a tA)(hb:PW X (.BoolOp .Or (b::rest) pos) tB'):PW X (.BoolOp .Or (a::b::rest) pos) (tOr tA tB'):=by
 intro wh pins s σ H Q I h;refine isTrue_or (thn (ha pins s σ H _ I h) fun c s1 ⟨H1,I1,q1⟩=>?_)
 cases c with
 | true=>exact ⟨H1,I1,q1⟩
 | false=>exact hb wh pins s1 σ H1 Q I1 q1
theorem B9 (ha:PT X a tA):PT X (.UnaryOp .Not a pos) (tNot tA):=by
 intro pins s σ H Q I h;exact isTrue_not (ha pins s σ H (fun c H1=>Q (!c) H1) I h)
abbrev tAndV (ta tb:TE):TE:=fun σ H Q=>ta σ H fun x H1=>∃ c,x = .bl c/\if c=true then tb σ H1 Q else Q (.bl false) H1
abbrev tNotV (ta:TE):TE:=fun σ H Q=>ta σ H fun x H1=>∃ c,x = .bl c/\Q (.bl (!c)) H1
theorem HQ {op}{t:TE}(h:PE X a t):PE X (.BoolOp op [a] pos) t:=fun pins s σ H Q I hw=>BoolOp_one (h pins s σ H Q I hw)
theorem GI (ha:PE X a ta)(hb:PE X (.BoolOp .And (b::rest) pos) tb):PE X (.BoolOp .And (a::b::rest) pos) (tAndV ta tb):=by
 intro pins s σ H Q I h;refine BoolOp_and (thn (ha pins s σ H _ I h) fun v s1 ⟨x,H1,I1,r1,q1⟩=>?_);obtain ⟨c,rfl,q1⟩:=q1;cases r1;refine wpAny_truthy_bool ?_
 cases c with
 | true=>exact hb pins s1 σ H1 Q I1 q1
 | false=>exact ⟨.bl false,H1,I1,rfl,q1⟩
theorem pe_not (ha:PE X a ta):PE X (.UnaryOp .Not a pos) (tNotV ta):=by
 intro pins s σ H Q I h;refine UnaryOp_ (thn (ha pins s σ H _ I h) fun v s1 ⟨x,H1,I1,r1,q1⟩=>?_);obtain ⟨c,rfl,q1⟩:=q1;cases r1;exact not_of (wpAny_truthy_bool ⟨.bl (!c),H1,I1,rfl,q1⟩)
def tIf (t:TT)(ta tb:TE):TE:=fun σ H Q=>t σ H fun c H1=>if c=true then ta σ H1 Q else tb σ H1 Q
theorem pe_ifExp {c:Expr}(hc:PT X c tA)(ha:PE X a ta)(hb:PE X b tb):PE X (.IfExp c a b pos) (tIf tA ta tb):=by
 intro pins s σ H Q I h;refine wpAny_IfExp (thn (hc pins s σ H _ I h) fun d s1 ⟨H1,I1,q1⟩=>?_)
 cases d with
 | true=>exact ha pins s1 σ H1 Q I1 q1
 | false=>exact hb pins s1 σ H1 Q I1 q1
end
def SqL (K:FZ9)(H:Hp)(a:Addr)(xs:List V):Prop :=
 Rd H a (.lst xs) \/
  ∃ (o:Obj) (its:Array Value) (n:Nat),K.lookup a=some o/\o.cls = .type "list" /\ o.dict=none/\o.data = .seq its n/\its.size<=sizeLine/\Vals xs its.toList
def SqT (K:FZ9)(H:Hp)(a:Addr)(xs:List V):Prop :=
 Rd H a (.tup xs) \/
  ∃ (o:Obj) (its:Array Value) (n:Nat),K.lookup a=some o/\o.cls = .type "tuple" /\ o.data = .seq its n/\its.size<=sizeLine/\Vals xs its.toList
def absV:Value->Option V
 | .none=>some .non
 | .bool b=>some (.bl b)
 | .int i _=>some (.int i)
 | .str x _=>some (.str x)
 | .bytes b _=>some (.byt b)
 | .float b _=>some (.flt b)
 | .ref a=>some (.ref a)
 | .type n=>some (.ty n)
 | _=>none
theorem RelV.abs {x:V}{u:Value}(r:RelV x u):absV u=some x:=by
 cases x with
 | non=>cases r;rfl
 | bl _=>cases r;rfl
 | int _=>obtain ⟨t,rfl⟩:=r;rfl
 | str _=>obtain ⟨t,rfl⟩:=r;rfl
 | byt _=>obtain ⟨t,rfl⟩:=r;rfl
 | flt _=>obtain ⟨t,rfl⟩:=r;rfl
 | ref _=>cases r;rfl
 | ty _=>cases r;rfl
theorem RelV.inj {x y:V}{u:Value}(r:RelV x u)(q:RelV y u):x=y:=qaB (r.abs.symm.trans q.abs)
theorem Vals.inj:∀ {xs ys:List V}{us:List Value},Vals xs us->Vals ys us->xs=ys
 | _,_,_,.nil,.nil=>rfl
 | _,_,_,.cons r t,.cons r' t'=>by rw [r.inj r',Vals.inj t t']
section
variable {X:Cx}{pins:List (Addr × Obj)}{σ:St}{H:Hp}{s:Shared}{a:Addr}{xs ys:List V}
theorem SqL.of {K:FZ9}(h:H a=some (.lst xs)):SqL K H a xs:=.inl (.inl h)
theorem SqT.of {K:FZ9}(h:H a=some (.tup xs)):SqT K H a xs:=.inl (.inl h)
theorem Inv.list (I:Inv X pins σ H s)(h:SqL X.K H a xs):∃ its:List Value,Vals xs its/\PlainL s.heap a its.toArray/\xs.length<=sizeLine:=by
 rcases h with h | ⟨o,its,n,hk,hc,hd,hs,hz,r⟩
 ·obtain ⟨z,its,n,r,e⟩:=h.ok I.hok;exact ⟨its,r,⟨_,n,e,rfl,rfl,rfl⟩,z⟩
 ·refine ⟨its.toList,r,⟨o,n,I.kIn a o hk,hc,hd,by simpa using hs⟩,?_⟩;have e:=r.length;simp only [qnB] at e;omega
theorem Inv.tuple (I:Inv X pins σ H s)(h:SqT X.K H a xs):∃ its:List Value,Vals xs its/\IsTup s.heap a its.toArray/\xs.length<=sizeLine:=by
 rcases h with h | ⟨o,its,n,hk,hc,hs,hz,r⟩
 ·obtain ⟨z,its,r,p⟩:=h.ok I.hok;exact ⟨its,r,p,z⟩
 ·refine ⟨its.toList,r,⟨o,I.kIn a o hk,hc,n,by simpa using hs⟩,?_⟩;have e:=r.length;simp only [qnB] at e;omega
theorem Inv.list_inj (I:Inv X pins σ H s)(h:SqL X.K H a xs)(h':SqL X.K H a ys):xs=ys:=by
 obtain ⟨its,r,⟨o,n,e,_,_,d⟩,_⟩:=I.list h;obtain ⟨its',r',⟨o',n',e',_,_,d'⟩,_⟩:=I.list h';rw [e] at e';cases e';rw [d] at d';injection d' with d1 _
 have:its=its':=by simpa using congrArg Array.toList d1
 subst this;exact r.inj r'
theorem Inv.tuple_inj (I:Inv X pins σ H s)(h:SqT X.K H a xs)(h':SqT X.K H a ys):xs=ys:=by
 obtain ⟨its,r,⟨o,e,_,n,d⟩,_⟩:=I.tuple h;obtain ⟨its',r',⟨o',e',_,n',d'⟩,_⟩:=I.tuple h';rw [e] at e';cases e';rw [d] at d';injection d' with d1 _
 have:its=its':=by simpa using congrArg Array.toList d1
 subst this;exact r.inj r'
end
abbrev Cx.wish (X:Cx)(E:Value->Shared->Prop):Cx:={ X with xe:=E }
abbrev Cx.nox (X:Cx):Cx:=X.wish fun _ _=>False
theorem Cx.Ok.wish {X:Cx}(ok:X.Ok)(E:Value->Shared->Prop):(X.wish E).Ok :=
 ⟨ok.mod,ok.kind,ok.glob,ok.blt,ok.above,ok.inj,ok.has,ok.cab,ok.hd,ok.frames,ok.stk,ok.exf,ok.bs,ok.bsz,ok.noex,ok.exfs,ok.funs,ok.frf⟩
theorem Cx.Ok.unwish {X:Cx}{E:Value->Shared->Prop}(ok:(X.wish E).Ok):X.Ok :=
 ⟨ok.mod,ok.kind,ok.glob,ok.blt,ok.above,ok.inj,ok.has,ok.cab,ok.hd,ok.frames,ok.stk,ok.exf,ok.bs,ok.bsz,ok.noex,ok.exfs,ok.funs,ok.frf⟩
section
variable {X:Cx}{pins:List (Addr × Obj)}{σ:St}{H:Hp}{s:Shared}{E:Value->Shared->Prop}
theorem Inv.wish (I:Inv X pins σ H s)(E:Value->Shared->Prop):Inv (X.wish E) pins σ H s:=⟨I.ok.wish E,I.os,I.bare,I.base,I.loc,I.cell,I.free,I.freeC,I.pin,I.hok,I.len⟩
theorem Inv.unwish (I:Inv (X.wish E) pins σ H s):Inv X pins σ H s:=⟨I.ok.unwish,I.os,I.bare,I.base,I.loc,I.cell,I.free,I.freeC,I.pin,I.hok,I.len⟩
theorem SP.unwish {D:Ends}{f:Flow}{s':Shared}(h:SP (X.wish E) pins D f s'):SP X pins D f s':=by
 cases f with
 | next=>obtain ⟨σ',H',I,q⟩:=h;exact ⟨σ',H',I.unwish,q⟩
 | brk=>obtain ⟨σ',H',I,q⟩:=h;exact ⟨σ',H',I.unwish,q⟩
 | cont=>obtain ⟨σ',H',I,q⟩:=h;exact ⟨σ',H',I.unwish,q⟩
 | ret u=>obtain ⟨v,σ',H',I,r,q⟩:=h;exact ⟨v,σ',H',I.unwish,r,q⟩
theorem PSs.nox {st:List Stmt}{t:TS}(h:PSs X.nox st t):PSs X st t:=fun pins s σ H D I hw =>
 wpAny_mono (h pins s σ H D (I.wish _) hw) (fun _ _ q=>q.unwish) fun _ _ z=>False.elim z
end
section
variable {X:Cx}{st:Stmt}{rest:List Stmt}{t u:TS}{e:Expr}{te:TE}{pos:Pos}
abbrev Bj:TS:=fun D σ H=>D.nx σ H
abbrev Ds (t u:TS):TS:=fun D σ H=>t { D with nx:=u D } σ H
theorem A5:PSs X [] Bj:=fun _ _ σ H _ I h=>wpAny_execs_nil ⟨σ,H,I,h⟩
theorem A4 (h1:PS X st t)(h2:PSs X rest u):PSs X (st::rest) (Ds t u):=by
 intro pins s σ H D I h;refine wpAny_execs_cons (thn (h1 pins s σ H { D with nx:=u D } I h) fun f s1 q=>?_)
 cases f with
 | next =>
  obtain ⟨σ',H',I',q⟩:=q;exact h2 pins s1 σ' H' D I' q
 | ret v=>exact q
 | brk=>exact q
 | cont=>exact q
theorem Inv.quiet {pins:List (Addr × Obj)}{σ:St}{H:Hp}{s:Shared}(I:Inv X pins σ H s):interactive X.env=false:=by simp [interactive,I.ok.kind]
abbrev Eb (te:TE):TS:=fun D σ H=>te σ H fun _ H1=>D.nx σ H1
theorem BN (he:PE X e te)(hs:swapsWith e none pos.line X.env=pure false:=by rfl):PS X (.Expr e pos) (Eb te):=by
 intro pins s σ H D I h;exact wpAny_Expr_any (thn (he pins s σ H _ I h) fun v s1 ⟨x,H1,I1,r1,q1⟩=>⟨σ,H1,I1,q1⟩) I.quiet hs
abbrev tRet (te:TE):TS:=fun D σ H=>te σ H D.rt
theorem AQ (he:PE X e te):PS X (.Return (some e) pos) (tRet te):=by
 intro pins s σ H D I h;exact wpAny_Return_some (thn (he pins s σ H _ I h) fun v s1 ⟨x,H1,I1,r1,q1⟩=>⟨x,σ,H1,I1,r1,q1⟩)
abbrev Ie (c:TT)(t u:TS):TS:=fun D σ H=>c σ H fun b H1=>if b=true then t D σ H1 else u D σ H1
theorem Az {c:Expr}{a b:List Stmt}{tc:TT}(hc:PT X c tc)(ha:PSs X a t)(hb:PSs X b u):PS X (.If c a b pos) (Ie tc t u):=by
 intro pins s σ H D I h;refine wpAny_If (thn (hc pins s σ H _ I h) fun d s1 ⟨H1,I1,q1⟩=>?_)
 cases d with
 | true=>exact ha pins s1 σ H1 D I1 q1
 | false=>exact hb pins s1 σ H1 D I1 q1
def tNever:TS:=fun _ _ _=>False
theorem Eg:PS X st tNever:=fun _ _ _ _ _ _ h=>h.elim
end
abbrev TG:=V->St->Hp->(St->Hp->Prop)->Prop
def PG (X:Cx)(target:Expr)(t:TG):Prop :=
 ∀ (pins:List (Addr × Obj)) (s:Shared) (σ:St) (H:Hp) (v:V) (u:Value) (Q:St->Hp->Prop),Inv X pins σ H s->RelV v u->t v σ H Q ->
  wpAny (model X.prog X.w) X.A (assign target X.env u) (fun _ s'=>∃ σ' H',Inv X pins σ' H' s'/\Q σ' H') X.xe s
section
variable {X:Cx}{pos:Pos}
abbrev Es (i:Nat):TG:=fun v σ H Q=>Q (σ.set i (some v)) H
theorem pg_name {i:Nat}{x:Str}(hN:X.N.Nodup)(hi:X.N[i]? = some x)(hx:Loc X.env.scope x)(hf:X.fn x=true\/X.env.scope.names.lookup x=some .local := by first|exact .inl rfl|exact .inr rfl|assumption):PG X (.Name x pos) (Es i):=by
 intro pins s σ H v u Q I r h;exact wpAny_assign_Name (He I hN hi hx r (fun s' I'=>⟨_,H,I',h⟩) hf)
abbrev LN (te:TE)(g:TG):TS:=fun D σ H=>te σ H fun x H1=>g x σ H1 D.nx
theorem ps_set {i:Nat}{x:Str}{e:Expr}{te:TE}{pos':Pos}(hN:X.N.Nodup)(hi:X.N[i]? = some x)(hx:Loc X.env.scope x)(he:PE X e te)(hs:swapsWith e (some (.Name x pos')) pos.line X.env=pure false:=by rfl)(hf:X.fn x=true\/X.env.scope.names.lookup x=some .local := by first|exact .inl rfl|exact .inr rfl|assumption) :
  PS X (.Assign [.Name x pos'] e pos) (LN te (Es i)):=by
 intro pins s σ H D I h;refine wpAny_Assign_Name (thn (he pins s σ H _ I h) fun v s1 ⟨y,H1,I1,r1,q1⟩=>?_) hs;exact He I1 hN hi hx r1 (fun s2 I2=>⟨_,H1,I2,q1⟩) hf
end
structure It where
 go:Nat->Hp->Prop
 yld:Nat->Hp->V->Hp->Prop
 stop:Nat->Hp->Prop
def HS (X:Cx)(pins:List (Addr × Obj))(H:Hp)(b:Addr):Prop :=
 H b=none/\b≠X.env.locals/\b ∉ X.fs/\(b∈X.ex\/X.s₀.heap.objs.size<=b)/\(∀ x c,X.env.cells.lookup x=some c->c≠b)/\∀ p∈X.pn++pins,p.1≠b
theorem Inv.fpOk {X:Cx}{pins:List (Addr × Obj)}{σ:St}{H H':Hp}{s:Shared}{b:Addr}(I:Inv X pins σ H s)(hb:s.heap.objs.size<=b)(hn:H' b=none):HS X pins H' b:=by
 refine ⟨hn,Nat.ne_of_gt (qqB I.lt hb),I.nofs hb,.inr (qyA I.sz hb),fun x c e z=>?_,fun p hp z=>?_⟩
 ·obtain ⟨v,q⟩:=I.cell x c e;exact absurd (qqB q.lt (by rw [z];exact hb)) (qzA _)
 ·exact absurd (qqB (qbB (I.pin p hp).1) (by rw [z];exact hb)) (qzA _)
structure Turn (P:Program)(w:World)(K:FZ9)(tg:Expr)(J:It)(fp:List Addr)(it:Addr)(tn:Nat->Heap->Prop):Prop where
 mem:it∈fp
 obj:∀ i h,tn i h->∀ b∈fp,∃ o,h.get? b=some o/\∀ v,o.data ≠ .cell v
 keep:∀ i h h',tn i h->(∀ b∈fp,∀ o,h.get? b=some o->h'.get? b=some o)->tn i h'
 item:∀ (X:Cx),X.prog=P->X.w=w->X.K=K->X.calm=true->∀ (i:Nat) (pins:List (Addr × Obj)) (s:Shared) (σ:St) (H:Hp) (E:Value->Shared->Prop),Inv X pins σ H s->(∀ b∈fp,HS X pins H b)->tn i s.heap->J.go i H ->
  wpAny (model P w) X.A (pyNext (.ref it)) (fun r s1=>∃ u,r=some u /\
   wpAny (model P w) X.A (letOwnedTupleGo tg (.ref it) u) (fun _ s2=>∃ x H',Inv X pins σ H' s2/\RelV x u/\J.yld i H x H'/\tn (i+1) s2.heap/\∀ b∈fp,H' b=none) E s1) E s
 done:∀ (X:Cx),X.prog=P->X.w=w->X.K=K->X.calm=true->∀ (i:Nat) (pins:List (Addr × Obj)) (s:Shared) (σ:St) (H:Hp) (E:Value->Shared->Prop),Inv X pins σ H s->(∀ b∈fp,HS X pins H b)->tn i s.heap->J.stop i H ->
  wpAny (model P w) X.A (pyNext (.ref it)) (fun r s1=>r=none/\Inv X pins σ H s1) E s
 self:∀ (A:Around) (i:Nat) (s:Shared) (Q:Value->Shared->Prop) (E:Value->Shared->Prop),tn i s.heap->Q (.ref it) s->wpAny (model P w) A (pyIter (.ref it)) Q E s
abbrev TI:=St->Hp->(It->Hp->Prop)->Prop
def PIE (X:Cx)(pins:List (Addr × Obj))(σ:St)(tg:Expr)(R:It->Hp->Prop)(itv:Value)(s2:Shared):Prop :=
 ∃ (it:Addr) (fp:List Addr) (tn:Nat->Heap->Prop) (J:It) (H':Hp),itv = .ref it/\Inv X pins σ H' s2/\Turn X.prog X.w X.K tg J fp it tn/\tn 0 s2.heap/\(∀ b∈fp,HS X pins H' b)/\R J H'
def PI (X:Cx)(tg iter:Expr)(wi:TI):Prop :=
 ∀ (pins:List (Addr × Obj)) (s:Shared) (σ:St) (H:Hp) (R:It->Hp->Prop),Inv X pins σ H s->wi σ H R ->
  wpAny (model X.prog X.w) X.A (eval iter X.env) (fun v s1=>wpAny (model X.prog X.w) X.A (pyIter v) (PIE X pins σ tg R) X.xe s1) X.xe s
theorem KS {M:Model}{A:Around}{E:Value->Shared->Prop}{s:Shared}{tg:Expr}{it:Addr}{u:Value}{o:Obj}{n:String}{vs:Array Value}{Q:Unit->Shared->Prop}(ho:s.heap.get? it=some o)(hc:o.cls = .type n)(hd:o.data = .fields vs)
  (hn:["enumerate","zip","dict_itemiterator","dict_reverseitemiterator","odict_iterator","itertools.zip_longest","itertools.pairwise"].contains n=false) (hQ:Q () s):wpAny M A (letOwnedTupleGo tg (.ref it) u) Q E s:=by
 unfold letOwnedTupleGo
 cases tg<;>first
  | exact qcA hQ
  | (cases u<;>first
    | exact qcA hQ
    | (refine qbA (wpAny_load ho ?_)
       rw [hc,hd];show wpAny M A (if (["enumerate","zip","dict_itemiterator","dict_reverseitemiterator","odict_iterator","itertools.zip_longest","itertools.pairwise"].contains n && vs[0]? == some (rawInt _))=true then _ else _) Q E s;rw [if_neg (by intro h;rw [hn,Bool.false_and] at h;cases h)]
       exact qcA hQ))
def Itl (K:FZ9)(a:Addr):It :=
 ⟨fun i H=>∃ xs x,SqL K H a xs/\xs[i]? = some x,fun i H x H'=>H'=H/\∀ xs,SqL K H a xs->xs[i]? = some x,fun i H=>∃ xs,SqL K H a xs/\xs.length<=i⟩
def Itt (K:FZ9)(a:Addr):It :=
 ⟨fun i H=>∃ xs x,SqT K H a xs/\xs[i]? = some x,fun i H x H'=>H'=H/\∀ xs,SqT K H a xs->xs[i]? = some x,fun i H=>∃ xs,SqT K H a xs/\xs.length<=i⟩
def Itr (lo:Int)(n:Nat):It:=⟨fun i _=>i<n,fun i H x H'=>H'=H/\x = .int (lo+i),fun i _=>n<=i⟩
theorem Mk {P:Program}{w:World}{K:FZ9}{tg:Expr}(a it:Addr):Turn P w K tg (Itl K a) [it] it (fun i h=>h.IsListIter it a i) where
 mem:=by simp
 obj:=fun i h st b hb=>by
  have e:b=it:=by simpa using hb
  subst e;obtain ⟨o,e,c,d⟩:=st;exact ⟨o,e,fun v z=>by rw [d] at z;cases z⟩
 keep:=fun i h h' st k=>st.at fun o e=>k it (by simp) o e
 item:=by
  intro X hP hw hK hc i pins s σ H E I hf st hg;subst hP hw hK;obtain ⟨xs,x,hq,hx⟩:=hg;obtain ⟨its,rv,p,hz⟩:=I.list hq;obtain ⟨u,hu,ru⟩:=rv.get hx;obtain ⟨f0,f1,f2,f3,f4,f5⟩:=hf it (by simp);refine wpAny_pyNext_list_item st p.isList (x:=u) (by simpa using hu) fun h' st' sb=>?_;have I1:Inv X pins σ H { s with heap:=h' }:=I.turned (t':=s.toks) (fun b o hb e=>(sb.2 b hb).trans e) f0 f1 f3 f4 f5;obtain ⟨o,e,c,d⟩:=id st';exact ⟨u,rfl,KS (s:={ s with heap:=h' }) e c d (by decide) ⟨x,H,I1,ru,⟨rfl,fun ys hy=>by rw [I.list_inj hy hq];exact hx⟩,st',fun b hb=>(hf b hb).1⟩⟩
 done:=by
  intro X hP hw hK hc i pins s σ H E I hf st hg;subst hP hw hK;obtain ⟨xs,hq,hx⟩:=hg;obtain ⟨its,rv,p,hz⟩:=I.list hq;obtain ⟨f0,f1,f2,f3,f4,f5⟩:=hf it (by simp);have hl:=rv.length;exact wpAny_pyNext_list_end (I.ok.hd hc) st p.isList (by simp;omega) fun h' eb=>⟨rfl,I.turned (t':=s.toks) (fun b o hb e=>eb b o hb e) f0 f1 f3 f4 f5⟩
 self:=fun _ _ _ _ _ st h=>wpAny_pyIter_listiter st h
theorem Kl {P:Program}{w:World}{K:FZ9}{tg:Expr}(a it:Addr):Turn P w K tg (Itt K a) [it] it (fun i h=>h.IsTupleIter it a i) where
 mem:=by simp
 obj:=fun i h st b hb=>by
  have e:b=it:=by simpa using hb
  subst e;obtain ⟨o,e,c,d⟩:=st;exact ⟨o,e,fun v z=>by rw [d] at z;cases z⟩
 keep:=fun i h h' st k=>st.at fun o e=>k it (by simp) o e
 item:=by
  intro X hP hw hK hc i pins s σ H E I hf st hg;subst hP hw hK;obtain ⟨xs,x,hq,hx⟩:=hg;obtain ⟨its,rv,p,hz⟩:=I.tuple hq;obtain ⟨u,hu,ru⟩:=rv.get hx;obtain ⟨f0,f1,f2,f3,f4,f5⟩:=hf it (by simp);refine wpAny_pyNext_tuple_item st (show s.heap.IsTuple a its.toArray from p) (x:=u) (by simpa using hu) fun h' st' sb=>?_;have I1:Inv X pins σ H { s with heap:=h' }:=I.turned (t':=s.toks) (fun b o hb e=>(sb.2 b hb).trans e) f0 f1 f3 f4 f5;obtain ⟨o,e,c,d⟩:=id st';exact ⟨u,rfl,KS (s:={ s with heap:=h' }) e c d (by decide) ⟨x,H,I1,ru,⟨rfl,fun ys hy=>by rw [I.tuple_inj hy hq];exact hx⟩,st',fun b hb=>(hf b hb).1⟩⟩
 done:=by
  intro X hP hw hK hc i pins s σ H E I hf st hg;subst hP hw hK;obtain ⟨xs,hq,hx⟩:=hg;obtain ⟨its,rv,p,hz⟩:=I.tuple hq;obtain ⟨f0,f1,f2,f3,f4,f5⟩:=hf it (by simp);have hl:=rv.length;exact wpAny_pyNext_tuple_end (I.ok.hd hc) st (show s.heap.IsTuple a its.toArray from p) (by simp;omega) fun h' eb=>⟨rfl,I.turned (t':=s.toks) (fun b o hb e=>eb b o hb e) f0 f1 f3 f4 f5⟩
 self:=fun _ _ _ _ _ st h=>wpAny_pyIter_tupleiter st h
theorem LD {P:Program}{w:World}{K:FZ9}{tg:Expr}(it:Addr)(lo:Int)(n:Nat):Turn P w K tg (Itr lo n) [it] it (fun i h=>IsRangeIter h it (lo+(i:Nat) * 1) ((n:Int) - (i:Nat)) 1) where
 mem:=by simp
 obj:=fun i h st b hb=>by
  have e:b=it:=by simpa using hb
  subst e
  exact ⟨_,st,fun v z=>by
   have z':Data.fields _=Data.cell v:=z
   cases z'⟩
 keep:=fun i h h' st k=>k it (by simp) _ st
 item:=by
  intro X hP hw hK hc i pins s σ H E I hf st hg;subst hP hw hK;obtain ⟨f0,f1,f2,f3,f4,f5⟩:=hf it (by simp);have W:=Walks.range (prog:=X.prog) (w:=X.w) (I.ok.hd hc) it lo 1 n;refine W.item i s _ _ hg st fun v h' tk hv st' kk=>?_;obtain ⟨t,rfl⟩:=hv;have I1:Inv X pins σ H { s with heap:=h',toks:=tk }:=I.turned (fun b o hb e=>kk b o (by simpa using hb) e) f0 f1 f3 f4 f5;refine ⟨_,rfl,KS (s:={ s with heap:=h',toks:=tk }) (n := "range_iterator") st' rfl rfl (by decide) ⟨.int (lo+i),H,I1,⟨t,?_⟩,⟨rfl,rfl⟩,st',fun b hb=>(hf b hb).1⟩⟩;rw [Int.mul_one]
 done:=by
  intro X hP hw hK hc i pins s σ H E I hf st hg;subst hP hw hK;obtain ⟨f0,f1,f2,f3,f4,f5⟩:=hf it (by simp);exact wpAny_pyNext_range_end (I.ok.hd hc) st (by have:n<=i:=hg;omega) fun h' eb=>⟨rfl,I.turned (t':=s.toks) (fun b o hb e=>eb b o hb e) f0 f1 f3 f4 f5⟩
 self:=fun _ _ _ _ _ st h=>wpAny_pyIter_rangeiter st h
section
variable {X:Cx}{tg:Expr}
theorem range_it {pins:List (Addr × Obj)}{σ:St}{H:Hp}{s:Shared}{R:It->Hp->Prop}{E:Value->Shared->Prop}{lo hi:Int}{t u v:Tok}{tk:Nat}(I:Inv X pins σ H s)(h1:-(2 ^ 62)<=lo)(h2:lo<2 ^ 62)(h3:-(2 ^ 62)<=hi)(h4:hi<2 ^ 62)
  (q:R (Itr lo (hi - lo).toNat) H):wpAny (model X.prog X.w) X.A (pyIter (.ref s.heap.objs.size)) (PIE X pins σ tg R) E { s with heap:=s.heap.push { cls:=.type "range",data:=.fields #[.int lo t,.int hi u,.int 1 v] },toks:=tk }:=by
 refine wpAny_pyIter_range (IsRange.new ..) (small_one h1 h2 h3 h4) ?_;have I1:Inv X pins σ H { s with heap:=s.heap.push { cls:=.type "range",data:=.fields #[.int lo t,.int hi u,.int 1 v] },toks:=tk }:=I.kept fun b o e=>qcB _ e
 refine ⟨(s.heap.push { cls:=.type "range",data:=.fields #[.int lo t,.int hi u,.int 1 v] }).objs.size,[(s.heap.push { cls:=.type "range",data:=.fields #[.int lo t,.int hi u,.int 1 v] }).objs.size],_,_,H,rfl,
  I1.kept (t':=tk) fun b o e=>qcB _ e,LD _ lo (hi - lo).toNat,?_,fun b hb=>?_,q⟩
 ·have e1:lo+((0:Nat):Int) * 1=lo:=by simp
  have e2:(((hi - lo).toNat:Nat):Int) - ((0:Nat):Int)=Builtin.Range.rangeSize lo hi 1:=by rw [rangeSize_one];split<;>omega
  show IsRangeIter _ _ (lo+((0:Nat):Int) * 1) ((((hi - lo).toNat:Nat):Int) - ((0:Nat):Int)) 1;rw [e1,e2];exact qdB _ rfl
 ·have e:b=(s.heap.push { cls:=.type "range",data:=.fields #[.int lo t,.int hi u,.int 1 v] }).objs.size:=by simpa using hb
  subst e;exact I1.fpOk (qxA _) (I1.hok.fresh (qxA _))
def iRng1 (ta:TA):TI:=fun σ H R=>ta σ H fun vs H1=>∃ j:Int,vs=[.int j]/\-(2 ^ 62)<=j/\j<2 ^ 62/\R (Itr 0 j.toNat) H1
theorem C8 {a:Expr}{ta:TA}{p pos:Pos}(hg:Gl X "range")(hm:X.mg "range" = none)(ha:PA X [a] ta)(hs:starEach [a] X.env=[(false,eval a X.env)]:=by rfl):PI X tg (.Call (.Name "range" p) [a] [] pos) (iRng1 ta):=by
 intro pins s σ H R I h;refine Call_ (Hr I hg hm boot_range (PyProof.Rows.callWith_type1 (thn (ha pos pins s σ H _ I h) fun us s1 ⟨vs,H1,I1,r1,q1⟩=>?_) hs rfl));obtain ⟨j,e,q1,q2,q⟩:=q1;subst e
 cases r1 with
 | cons r rr =>
  cases rr;obtain ⟨t,rfl⟩:=r;exact call_range_1 (range_it I1 (by omega) (by omega) q1 q2 (by simpa using q))
def tFor (wi:TI)(g:TG)(tb:TS):TS:=fun D σ H=>wi σ H fun J H1=>∃ W:Nat->Nat->St->Hp->Prop,(∃ m,W 0 m σ H1)/\∀ i m σ H,W i m σ H ->
 (J.stop i H/\D.nx σ H)\/(J.go i H/\∃ N:St->Hp->Prop,(∀ σ' H',N σ' H'->∃ m',m'<m/\W (i+1) m' σ' H')/\∀ x H',J.yld i H x H'->g x σ H' fun σ2 H2=>tb { D with nx:=N,ct:=N,bk:=D.nx } σ2 H2)
def Hz (fp:List Addr)(h:Heap):List (Addr × Obj):=fp.filterMap fun b=>(h.get? b).map fun o=>(b,o)
theorem EC {fp:List Addr}{h:Heap}{b:Addr}{o:Obj}(hb:b∈fp)(e:h.get? b=some o):(b,o)∈Hz fp h:=List.mem_filterMap.mpr ⟨b,hb,by rw [e];rfl⟩
theorem Mg {fp:List Addr}{h:Heap}{p:Addr × Obj}(hp:p∈Hz fp h):p.1∈fp/\h.get? p.1=some p.2:=by
 obtain ⟨b,hb,e⟩:=List.mem_filterMap.mp hp
 cases q:h.get? b with
 | none=>rw [q] at e;cases e
 | some o =>
  rw [q] at e;have e':(b,o)=p:=qaB e;subst e';exact ⟨hb,q⟩
theorem Inv.pinned {pins:List (Addr × Obj)}{σ:St}{H:Hp}{s:Shared}{fp:List Addr}(I:Inv X pins σ H s)(hf:∀ b∈fp,HS X pins H b)(ho:∀ b∈fp,∃ o,s.heap.get? b=some o/\∀ v,o.data ≠ .cell v):Inv X (pins++Hz fp s.heap) σ H s :=
 I.pins_of fun p hp=>(qjA.mp hp).elim (fun z=>I.pin p (qrB _ z)) fun z=>by
  obtain ⟨hb,e⟩:=Mg z;obtain ⟨f0,f1,f2,_⟩:=hf p.1 hb;obtain ⟨o,e',d⟩:=ho p.1 hb;rw [e] at e';cases e';exact ⟨e,f0,f1,f2,d⟩
theorem Inv.unpinned {pins pl:List (Addr × Obj)}{σ:St}{H:Hp}{s:Shared}(I:Inv X (pins++pl) σ H s):Inv X pins σ H s:=I.pins_of fun p hp=>I.pin p (qrB _ (List.mem_append_left _ hp))
theorem DA {iter:Expr}{body:List Stmt}{wi:TI}{g:TG}{tb:TS}{pos:Pos}(hp:PassesOwn (model X.prog X.w) X.A X.env X.xe)(hc:X.calm=true)(hi:PI X tg iter wi)(hg:PG X tg g)(hb:PSs X body tb)
  (hs:∀ x,foldedSetIterable iter X.env x=pure x:=by intro _;rfl):PS X (.For tg iter body [] pos) (tFor wi g tb):=by
 intro pins s σ H D I h;refine wpAny_For (thn (hi pins s σ H _ I h) fun v s1 h1=>thn h1 fun itv s2 h2=>?_) hs;obtain ⟨it,fp,tn,J,H2,e,I2,T,st2,f2,W,⟨m0,w0⟩,turn⟩:=h2;subst e;have stat:∀ {H':Hp},(∀ b∈fp,H' b=none)->∀ b∈fp,HS X pins H' b:=fun hn b hb=>⟨hn b hb,(f2 b hb).2⟩;refine codeAny_forLoop_any (fun n s'=>∃ i σ' H',Inv X pins σ' H' s'/\tn i s'.heap/\(∀ b∈fp,H' b=none)/\W i n σ' H') ?_ m0 ⟨0,σ,H2,I2,st2,fun b hb=>(f2 b hb).1,w0⟩;rintro n s3 ⟨i,σ3,H3,I3,st3,fr3,w3⟩;rcases turn i n σ3 H3 w3 with ⟨stop,qn⟩ | ⟨go,N,hN,step⟩
 ·refine wpAny_passesOwn hp (thn (T.done X rfl rfl rfl hc i pins s3 σ3 H3 X.xe I3 (stat fr3) st3 stop) fun r s4 ⟨hr,I4⟩=>?_);subst hr;exact wpAny_execs_nil ⟨σ3,H3,I4,qn⟩
 ·refine wpAny_passesOwn hp (thn (T.item X rfl rfl rfl hc i pins s3 σ3 H3 X.xe I3 (stat fr3) st3 go) fun r s4 ⟨u,hr,h4⟩=>?_);subst hr;refine wpAny_passesOwn hp (thn h4 fun _ s5 ⟨x,H5,I5,r5,y5,st5,fr5⟩=>?_);have I5':=I5.pinned (stat fr5) (T.obj _ _ st5);refine wpAny_passesOwn hp (thn (hg _ s5 σ3 H5 x u _ I5' r5 (step x H5 y5)) fun _ s6 ⟨σ6,H6,I6,q6⟩=>?_);refine wpAny_passesOwn hp (thn (hb _ s6 σ6 H6 _ I6 q6) fun f s7 q7=>?_)
  have again:∀ {σ7:St}{H7:Hp},Inv X (pins++Hz fp s5.heap) σ7 H7 s7->N σ7 H7->∃ m,m<n/\∃ i σ' H',Inv X pins σ' H' s7/\tn i s7.heap/\(∀ b∈fp,H' b=none)/\W i m σ' H':=fun {σ7 H7} I7 n7=>by
   obtain ⟨m',hm,w7⟩:=hN σ7 H7 n7;refine ⟨m',hm,i+1,σ7,H7,I7.unpinned,T.keep _ _ _ st5 fun b hb o e=>(I7.pin (b,o) (qrB _ (qrB _ (EC hb e)))).1,fun b hb=>?_,w7⟩;obtain ⟨o,e,d⟩:=T.obj _ _ st5 b hb;exact (I7.pin (b,o) (qrB _ (qrB _ (EC hb e)))).2.1
  cases f with
  | next=>obtain ⟨σ7,H7,I7,n7⟩:=q7;exact again I7 n7
  | cont=>obtain ⟨σ7,H7,I7,n7⟩:=q7;exact again I7 n7
  | brk=>obtain ⟨σ7,H7,I7,q7⟩:=q7;exact ⟨σ7,H7,I7.unpinned,q7⟩
  | ret v=>obtain ⟨x7,σ7,H7,I7,r7,q7⟩:=q7;exact ⟨x7,σ7,H7,I7.unpinned,r7,q7⟩
end
abbrev R2:=V->V->Hp->VK->Prop
def OpR (X:Cx)(f:Value->Value->Sem Value)(r:R2):Prop :=
 ∀ (pins:List (Addr × Obj)) (s:Shared) (σ:St) (H:Hp) (x y:V) (v u:Value) (Q:VK),Inv X pins σ H s->RelV x v->RelV y u->r x y H Q ->
  wpAny (model X.prog X.w) X.A (f v u) (EP X pins σ Q) X.xe s
def UnR (X:Cx)(f:Value->Sem Value)(r:V->Hp->VK->Prop):Prop :=
 ∀ (pins:List (Addr × Obj)) (s:Shared) (σ:St) (H:Hp) (x:V) (v:Value) (Q:VK),Inv X pins σ H s->RelV x v->r x H Q ->
  wpAny (model X.prog X.w) X.A (f v) (EP X pins σ Q) X.xe s
def CI (X:Cx)(f:Value)(r:List V->Hp->VK->Prop):Prop :=
 ∀ (pins:List (Addr × Obj)) (s:Shared) (σ:St) (H:Hp) (xs:List V) (us:List Value) (Q:VK),Inv X pins σ H s->Vals xs us->r xs H Q ->
  wpAny (model X.prog X.w) X.A (call f us) (EP X pins σ Q) X.xe s
def TruR (X:Cx)(r:V->Hp->(Bool->Hp->Prop)->Prop):Prop :=
 ∀ (pins:List (Addr × Obj)) (s:Shared) (σ:St) (H:Hp) (x:V) (v:Value) (Q:Bool->Hp->Prop),Inv X pins σ H s->RelV x v->r x H Q ->
  wpAny (model X.prog X.w) X.A (truthy v) (TP X pins σ Q) X.xe s
abbrev tOp (r:R2)(ta tb:TE):TE:=fun σ H Q=>ta σ H fun x H1=>tb σ H1 fun y H2=>r x y H2 Q
abbrev tUn (r:V->Hp->VK->Prop)(ta:TE):TE:=fun σ H Q=>ta σ H fun x H1=>r x H1 Q
def rI (C:Int->Int->Prop)(g:Int->Int->V):R2:=fun x y H Q=>∃ i j,x = .int i/\y = .int j/\C i j/\Q (g i j) H
def rI0 (g:Int->Int->V):R2:=fun x y H Q=>∃ i j,x = .int i/\y = .int j/\Q (g i j) H
def rU (g:Int->V):V->Hp->VK->Prop:=fun x H Q=>∃ i,x = .int i/\Q (g i) H
section
variable {X:Cx}{a b c:Expr}{ta tb tc:TE}{pos:Pos}
theorem binT (ha:PE X a ta)(hb:PE X b tb){pins:List (Addr × Obj)}{s:Shared}{σ:St}{H:Hp}{R:V->V->Hp->Prop}(I:Inv X pins σ H s)
  (h:ta σ H fun x H1=>tb σ H1 fun y H2=>R x y H2) {Q:Value->Shared->Prop}{f:Value->Value->Sem Value}
  (hf:∀ v u s2 x y H2,Inv X pins σ H2 s2->RelV x v->RelV y u->R x y H2->wpAny (model X.prog X.w) X.A (f v u) Q X.xe s2) :
  wpAny (model X.prog X.w) X.A (eval a X.env) (fun v s₁=>wpAny (model X.prog X.w) X.A (eval b X.env) (fun u s₂=>wpAny (model X.prog X.w) X.A (f v u) Q X.xe s₂) X.xe s₁) X.xe s:=by
 refine thn (ha pins s σ H _ I h) fun v s1 ⟨x,H1,I1,r1,q1⟩=>?_;refine thn (hb pins s1 σ H1 _ I1 q1) fun u s2 ⟨y,H2,I2,r2,q2⟩=>?_;exact hf v u s2 x y H2 I2 r1 r2 q2
theorem An {op:Operator}{r:R2}(ho:OpR X (binaryOp op) r)(ha:PE X a ta)(hb:PE X b tb):PE X (.BinOp a op b pos) (tOp r ta tb):=by
 intro pins s σ H Q I h;exact wpAny_BinOp (binT ha hb I h fun v u s2 x y H2 I2 rx ry q=>ho pins s2 σ H2 x y v u Q I2 rx ry q)
theorem pe_un {op:UnaryOp}{r:V->Hp->VK->Prop}(ho:UnR X (unaryOp op) r)(ha:PE X a ta):PE X (.UnaryOp op a pos) (tUn r ta):=by
 intro pins s σ H Q I h;exact UnaryOp_ (thn (ha pins s σ H _ I h) fun v s1 ⟨x,H1,I1,r1,q1⟩=>ho pins s1 σ H1 x v Q I1 r1 q1)
theorem opI {f:Value->Value->Sem Value}{C:Int->Int->Prop}{g:Int->Int->Int}
  (rule:∀ (i j:Int) (t u:Tok) (s:Shared) (Q:Value->Shared->Prop) (E:Value->Shared->Prop),C i j->Q (.int (g i j) s.toks) { s with toks:=s.toks+1 }->wpAny (model X.prog X.w) X.A (f (.int i t) (.int j u)) Q E s) :
  OpR X f (rI C fun i j=>.int (g i j)):=by
 intro pins s σ H x y v u Q I rx ry h;obtain ⟨i,j,rfl,rfl,hc,q⟩:=h;obtain ⟨t,rfl⟩:=rx;obtain ⟨t',rfl⟩:=ry;exact rule i j t t' s _ _ hc ⟨.int (g i j),H,I.tok _,⟨_,rfl⟩,q⟩
theorem opI0 {f:Value->Value->Sem Value}{g:Int->Int->Int}
  (rule:∀ (i j:Int) (t u:Tok) (s:Shared) (Q:Value->Shared->Prop) (E:Value->Shared->Prop),Q (.int (g i j) s.toks) { s with toks:=s.toks+1 }->wpAny (model X.prog X.w) X.A (f (.int i t) (.int j u)) Q E s) :
  OpR X f (rI0 fun i j=>.int (g i j)):=by
 intro pins s σ H x y v u Q I rx ry h;obtain ⟨i,j,rfl,rfl,q⟩:=h;obtain ⟨t,rfl⟩:=rx;obtain ⟨t',rfl⟩:=ry;exact rule i j t t' s _ _ ⟨.int (g i j),H,I.tok _,⟨_,rfl⟩,q⟩
theorem opB0 {f:Value->Value->Sem Value}{g:Int->Int->Bool}
  (rule:∀ (i j:Int) (t u:Tok) (s:Shared) (Q:Value->Shared->Prop) (E:Value->Shared->Prop),Q (.bool (g i j)) s->wpAny (model X.prog X.w) X.A (f (.int i t) (.int j u)) Q E s) :
  OpR X f (rI0 fun i j=>.bl (g i j)):=by
 intro pins s σ H x y v u Q I rx ry h;obtain ⟨i,j,rfl,rfl,q⟩:=h;obtain ⟨t,rfl⟩:=rx;obtain ⟨t',rfl⟩:=ry;exact rule i j t t' s _ _ ⟨.bl (g i j),H,I,rfl,q⟩
def LI (i j:Int):Prop:=0<j/\j<1073741824
def CMul (i j:Int):Prop:=(-(2 ^ 64)<i/\i<2 ^ 64)\/(-(2 ^ 64)<j/\j<2 ^ 64)
theorem CMul.ok {i j:Int}(h:CMul i j):IntMulOk i j:=by
 rcases h with ⟨h1,h2⟩ | ⟨h1,h2⟩
 ·exact .of_left (intBits_le_64 h1 h2)
 ·exact .of_right (intBits_le_64 h1 h2)
theorem op_add:OpR X (binaryOp .Add) (rI0 fun i j=>.int (i+j)):=opI0 fun _ _ _ _ _ _ _ q=>add_int q
theorem op_mul:OpR X (binaryOp .Mult) (rI CMul fun i j=>.int (i * j)):=opI fun _ _ _ _ _ _ _ hc q=>mul_int q hc.ok
theorem Cy:OpR X (binaryOp .FloorDiv) (rI LI fun i j=>.int (i / j)):=opI fun i j _ _ _ _ _ hc q=>by
 have h1:(0:Int)<j:=hc.1;have h2:j<1073741824:=hc.2;exact floordiv_int (by omega) (by rw [Int.fdiv_eq_ediv_of_nonneg i (by omega)];exact q) (.inl (PyProof.noPylong_small (by omega)))
theorem BM:OpR X (binaryOp .Mod) (rI (fun _ j=>0<j) fun i j=>.int (i % j)):=opI fun i j _ _ _ _ _ hc q=>by
 have h1:(0:Int)<j:=hc;exact mod_int' (by omega) (by rw [Int.fmod_eq_emod_of_nonneg i (by omega)];exact q)
theorem unI {f:Value->Sem Value}{g:Int->Int}
  (rule:∀ (i:Int) (t:Tok) (s:Shared) (Q:Value->Shared->Prop) (E:Value->Shared->Prop),Q (.int (g i) s.toks) { s with toks:=s.toks+1 }->wpAny (model X.prog X.w) X.A (f (.int i t)) Q E s) :
  UnR X f (rU fun i=>.int (g i)):=by
 intro pins s σ H x v Q I rx h;obtain ⟨i,rfl,q⟩:=h;obtain ⟨t,rfl⟩:=rx;exact rule i t s _ _ ⟨.int (g i),H,I.tok _,⟨_,rfl⟩,q⟩
theorem un_neg:UnR X (unaryOp .USub) (rU fun i=>.int (-i)):=unI fun _ _ _ _ _ q=>neg_int q
end
def scal:V->V->Bool
 | .non,.non=>true | .non,.int _=>true | .int _,.non=>true | .non,.bl _=>true | .bl _,.non=>true | .non,.str _=>true | .str _,.non=>true
 | .int _,.int _=>true | .bl _,.bl _=>true | .str _,.str _=>true | .byt _,.byt _=>true
 | .int _,.str _=>true | .str _,.int _=>true | .bl _,.str _=>true | .str _,.bl _=>true
 | _,_=>false
def rEq:R2:=fun x y H Q=>scal x y=true/\Q (.bl (decide (x=y))) H
def rNe:R2:=fun x y H Q=>scal x y=true/\Q (.bl (!decide (x=y))) H
theorem Lp {i j:Int}:decide (V.int i=V.int j)=(i == j):=by
 rw [Bool.eq_iff_iff];simp
theorem dec_bl {i j:Bool}:decide (V.bl i=V.bl j)=(i == j):=by
 rw [Bool.eq_iff_iff];simp
theorem Lg {i j:Str}:decide (V.str i=V.str j)=(i == j):=by
 rw [Bool.eq_iff_iff];simp
theorem LR {i j:Array UInt8}:decide (V.byt i=V.byt j)=(i.toList == j.toList):=by
 rw [Bool.eq_iff_iff];cases i;cases j;simp
section
variable {X:Cx}{a b c:Expr}{ta tb tc:TE}{pos:Pos}
theorem Ax {pins:List (Addr × Obj)}{σ:St}{H:Hp}{s:Shared}{Q:VK}{k k':Bool}(I:Inv X pins σ H s)(q:Q (.bl k) H)(e:k=k'):EP X pins σ Q (.bool k') s:=by
 subst e;exact ⟨.bl k,H,I,rfl,q⟩
theorem CZ:OpR X (compareOp .Eq) rEq:=by
 intro pins s σ H x y v u Q I rx ry h;obtain ⟨hs,q⟩:=h
 cases x with
 | non =>
  cases rx
  cases y with
  | non=>cases ry;exact PySem.EqNone.eq_none_none (Ax I q (by simp))
  | bl j=>cases ry;exact PySem.EqNone.eq_none_bool (Ax I q (by simp))
  | int j=>obtain ⟨t',rfl⟩:=ry;exact PySem.EqNone.eq_none_int (Ax I q (by simp))
  | str j=>obtain ⟨t',rfl⟩:=ry;exact PySem.EqNone.eq_none_str (Ax I q (by simp))
  | _=>exact absurd (show false=true from hs) qjB
 | bl i =>
  cases rx
  cases y with
  | non=>cases ry;exact PySem.EqNone.eq_bool_none (Ax I q (by simp))
  | bl j=>cases ry;exact eq_bool (Ax I q dec_bl)
  | str j=>obtain ⟨t',rfl⟩:=ry;exact PySem.EqMixed.eq_bool_str (Ax I q (by simp))
  | _=>exact absurd (show false=true from hs) qjB
 | int i =>
  obtain ⟨t,rfl⟩:=rx
  cases y with
  | non=>cases ry;exact PySem.EqNone.eq_int_none (Ax I q (by simp))
  | int j=>obtain ⟨t',rfl⟩:=ry;exact eq_int (Ax I q Lp)
  | str j=>obtain ⟨t',rfl⟩:=ry;exact PySem.EqMixed.eq_int_str (Ax I q (by simp))
  | _=>exact absurd (show false=true from hs) qjB
 | str i =>
  obtain ⟨t,rfl⟩:=rx
  cases y with
  | non=>cases ry;exact PySem.EqNone.eq_str_none (Ax I q (by simp))
  | bl j=>cases ry;exact PySem.EqMixed.eq_str_bool (Ax I q (by simp))
  | int j=>obtain ⟨t',rfl⟩:=ry;exact PySem.EqMixed.eq_str_int (Ax I q (by simp))
  | str j=>obtain ⟨t',rfl⟩:=ry;exact eq_str (Ax I q Lg)
  | _=>exact absurd (show false=true from hs) qjB
 | byt i =>
  obtain ⟨t,rfl⟩:=rx
  cases y with
  | byt j=>obtain ⟨t',rfl⟩:=ry;exact PySem.W.eq_bytes (Ax I q LR)
  | _=>exact absurd (show false=true from hs) qjB
 | _=>cases y<;>exact absurd (show false=true from hs) qjB
theorem Fw:OpR X (compareOp .NotEq) rNe:=by
 intro pins s σ H x y v u Q I rx ry h;obtain ⟨hs,q⟩:=h
 cases x with
 | non =>
  cases rx
  cases y with
  | non=>cases ry;exact PySem.EqNone.ne_none_none (Ax I q (by simp))
  | bl j=>cases ry;exact PySem.EqNone.ne_none_bool (Ax I q (by simp))
  | int j=>obtain ⟨t',rfl⟩:=ry;exact PySem.EqNone.ne_none_int (Ax I q (by simp))
  | str j=>obtain ⟨t',rfl⟩:=ry;exact PySem.EqNone.ne_none_str (Ax I q (by simp))
  | _=>exact absurd (show false=true from hs) qjB
 | bl i =>
  cases rx
  cases y with
  | non=>cases ry;exact PySem.EqNone.ne_bool_none (Ax I q (by simp))
  | bl j=>cases ry;exact ne_bool (Ax I q (congrArg not dec_bl))
  | str j=>obtain ⟨t',rfl⟩:=ry;exact PySem.EqMixed.ne_bool_str (Ax I q (by simp))
  | _=>exact absurd (show false=true from hs) qjB
 | int i =>
  obtain ⟨t,rfl⟩:=rx
  cases y with
  | non=>cases ry;exact PySem.EqNone.ne_int_none (Ax I q (by simp))
  | int j=>obtain ⟨t',rfl⟩:=ry;exact ne_int (Ax I q (congrArg not Lp))
  | str j=>obtain ⟨t',rfl⟩:=ry;exact PySem.EqMixed.ne_int_str (Ax I q (by simp))
  | _=>exact absurd (show false=true from hs) qjB
 | str i =>
  obtain ⟨t,rfl⟩:=rx
  cases y with
  | non=>cases ry;exact PySem.EqNone.ne_str_none (Ax I q (by simp))
  | bl j=>cases ry;exact PySem.EqMixed.ne_str_bool (Ax I q (by simp))
  | int j=>obtain ⟨t',rfl⟩:=ry;exact PySem.EqMixed.ne_str_int (Ax I q (by simp))
  | str j=>obtain ⟨t',rfl⟩:=ry;exact ne_str (Ax I q (congrArg not Lg))
  | _=>exact absurd (show false=true from hs) qjB
 | byt i =>
  obtain ⟨t,rfl⟩:=rx
  cases y with
  | byt j=>obtain ⟨t',rfl⟩:=ry;exact PySem.W.ne_bytes (Ax I q (congrArg not LR))
  | _=>exact absurd (show false=true from hs) qjB
 | _=>cases y<;>exact absurd (show false=true from hs) qjB
theorem op_lt:OpR X (compareOp .Lt) (rI0 fun i j=>.bl (decide (i<j))):=opB0 fun _ _ _ _ _ _ _ q=>lt_int q
theorem op_le:OpR X (compareOp .LtE) (rI0 fun i j=>.bl (decide (i<=j))):=opB0 fun _ _ _ _ _ _ _ q=>le_int q
theorem op_gt:OpR X (compareOp .Gt) (rI0 fun i j=>.bl (decide (j<i))):=opB0 fun _ _ _ _ _ _ _ q=>gt_int q
theorem MX:OpR X (compareOp .In) (fun x y H Q=>∃ i j,x = .str i/\y = .str j/\Q (.bl (!(Builtin.Str.occurrences j i 0 j.length 1).isEmpty)) H):=by
 intro pins s σ H x y v u Q I rx ry h;obtain ⟨i,j,rfl,rfl,q⟩:=h;obtain ⟨t,rfl⟩:=rx;obtain ⟨t',rfl⟩:=ry;exact in_str (Ax I q rfl)
theorem AW (b:Expr){op:CmpOp}(h:op ≠ .In:=by decide)(h2:op ≠ .NotIn:=by decide):behindInMarks op b=false:=by
 have e1:(op == CmpOp.In)=false:=by cases op<;>first|rfl|exact absurd rfl h
 have e2:(op == CmpOp.NotIn)=false:=by cases op<;>first|rfl|exact absurd rfl h2
 cases b<;>simp [behindInMarks,e1,e2]
theorem HG {op:CmpOp}{r:R2}(ho:OpR X (compareOp op) r)(ha:PE X a ta)(hb:PE X b tb)(hm:behindInMarks op b=false):PE X (.Compare a [op] [b] pos) (tOp r ta tb):=by
 intro pins s σ H Q I h;exact wpAny_Compare1 (binT ha hb I h fun v u s2 x y H2 I2 rx ry q=>ho pins s2 σ H2 x y v u Q I2 rx ry q) hm
abbrev tTest (t:TE):TT:=fun σ H Q=>t σ H fun x H'=>∃ k,x = .bl k/\Q k H'
theorem AM {op:CmpOp}{r:R2}(ho:OpR X (compareOp op) r)(ha:PE X a ta)(hb:PE X b tb)(hm:behindInMarks op b=false):PT X (.Compare a [op] [b] pos) (tTest (tOp r ta tb)):=by
 intro pins s σ H Q I h
 refine wpAny_isTrue_Compare1 (thn (ha pins s σ H _ I h) fun v s1 ⟨x,H1,I1,r1,q1⟩=>thn (hb pins s1 σ H1 _ I1 q1) fun u s2 ⟨y,H2,I2,r2,q2⟩ =>
  thn (ho pins s2 σ H2 x y v u _ I2 r1 r2 q2) fun c s3 ⟨z,H3,I3,r3,k,e,q3⟩=>?_) hm
 subst e;cases r3;exact wpAny_truthy_bool ⟨H3,I3,q3⟩
def tChain (r r':R2)(ta tb tc:TE):TE:=fun σ H Q=>ta σ H fun x H1=>tb σ H1 fun y H2=>r x y H2 fun z H3=>∃ k,z = .bl k /\
 (if k=true then tc σ H3 fun w' H4=>r' y w' H4 Q else Q (.bl false) H3)
theorem pe_chain {op op':CmpOp}{r r':R2}(ho:OpR X (compareOp op) r)(ho':OpR X (compareOp op') r')(ha:PE X a ta)(hb:PE X b tb)(hc:PE X c tc)
  (hm:lastMarks [op,op'] [b,c]=false:=by with_unfolding_all rfl):PE X (.Compare a [op,op'] [b,c] pos) (tChain r r' ta tb tc):=by
 intro pins s σ H Q I h
 refine Compare_chain (thn (ha pins s σ H _ I h) fun v s1 ⟨x,H1,I1,r1,q1⟩=>chain_link (thn (hb pins s1 σ H1 _ I1 q1) fun u s2 ⟨y,H2,I2,r2,q2⟩ =>
  thn (ho pins s2 σ H2 x y v u _ I2 r1 r2 q2) fun d s3 ⟨z,H3,I3,r3,k,e,q3⟩=>?_)) hm
 subst e;cases r3;refine wpAny_truthy_bool ?_
 cases k with
 | false=>exact ite_ff ⟨.bl false,H3,I3,rfl,q3⟩
 | true=>exact ite_tt (chain_last (thn (hc pins s3 σ H3 _ I3 q3) fun w' s4 ⟨z',H4,I4,r4,q4⟩=>ho' pins s4 σ H4 y z' u w' Q I4 r2 r4 q4))
def TruV (K:FZ9)(x:V)(H:Hp)(k:Bool):Prop :=
 match x with
 | .non=>k=false
 | .bl b=>k=b
 | .int i=>k=(i != 0)
 | .str y=>y.length<=sizeLine/\k=((y.length:Int) != 0)
 | .byt y=>y.size<=sizeLine/\k=((y.size:Int) != 0)
 | .ref p=>(∃ xs,SqL K H p xs/\k = !xs.isEmpty)\/(∃ xs,SqT K H p xs/\k = !xs.isEmpty)\/∃ kvs,H p=some (.dK kvs)/\k = !kvs.isEmpty
 | _=>False
theorem Kw {κ:Type}{kvs:List (κ × V)}{vs:List (κ × Value)}(r:KV kvs vs):(!vs.isEmpty) = !kvs.isEmpty:=by
 cases r<;>rfl
theorem IA {xs:List V}{its:List Value}(r:Vals xs its):(!its.toArray.isEmpty) = !xs.isEmpty:=by
 cases r<;>simp
theorem Gb:(sizeLine:Nat)<2 ^ 63:=by rw [qeB];decide
theorem tru_ok:TruR X (fun x H Q=>∃ k,TruV X.K x H k/\Q k H):=by
 intro pins s σ H x v Q I rx h;obtain ⟨k,e,q⟩:=h;have hl:=Gb;have hs:sizeLine=16777216:=qeB
 cases x with
 | non =>
  cases rx;have e':k=false:=e;subst e';exact truthy_none ⟨H,I,q⟩
 | bl b =>
  cases rx;have e':k=b:=e;subst e';exact wpAny_truthy_bool ⟨H,I,q⟩
 | int i =>
  obtain ⟨t,rfl⟩:=rx;have e':k=(i != 0):=e;subst e';exact PySem.P.truthy_int ⟨H,I,q⟩
 | str y =>
  obtain ⟨t,rfl⟩:=rx;obtain ⟨hy,e'⟩:y.length<=sizeLine/\k=((y.length:Int) != 0):=e;subst e';exact PySem.P.truthy_str (by omega) ⟨H,I.tok _,q⟩
 | byt y =>
  obtain ⟨t,rfl⟩:=rx;obtain ⟨hy,e'⟩:y.size<=sizeLine/\k=((y.size:Int) != 0):=e;subst e';exact PySem.W.truthy_bytes (by omega) ⟨H,I.tok _,q⟩
 | ref p =>
  cases rx;have e':(∃ xs,SqL X.K H p xs/\k = !xs.isEmpty)\/(∃ xs,SqT X.K H p xs/\k = !xs.isEmpty)\/∃ kvs,H p=some (.dK kvs)/\k = !kvs.isEmpty:=e;rcases e' with ⟨xs,hx,e'⟩ | ⟨xs,hx,e'⟩ | ⟨kvs,hx,e'⟩
  ·subst e';obtain ⟨its,r,pl,hz⟩:=I.list hx;have hlen:=r.length;exact wpAny_truthy_list pl.isList (by simp only [qkB];omega) ⟨H,I.tok _,by rw [IA r];exact q⟩
  ·subst e';obtain ⟨its,r,pl,hz⟩:=I.tuple hx;have hlen:=r.length;exact truthy_tuple pl (by simp only [qkB];omega) ⟨H,I.tok _,by rw [IA r];exact q⟩
  ·subst e';obtain ⟨hz,hS,vs,r,m⟩:kvs.length<=sizeLine/\(p == sysModules)=false/\∃ vs,KV kvs vs/\s.heap.DictOf (CK X.prog X.w) p vs:=I.hok p _ hx;have hlen:kvs.length=vs.length:=Paired.length r;exact wpAny_truthy_dict hS m (by omega) ⟨H,I.tok _,by rw [Kw r];exact q⟩
 | _=>exact (show False from e).elim
theorem pt_truth (ha:PE X a ta)(he:∀ whole,isTrue a X.env whole=(do let v <- whole;standAt a.pos;holding [v] (truthy v))) :
  PT X a (fun σ H Q=>ta σ H fun x H'=>∃ k,TruV X.K x H' k/\Q k H'):=by
 intro pins s σ H Q I h;exact isTrue_plain (thn (ha pins s σ H _ I h) fun v s1 ⟨x,H1,I1,r1,q1⟩=>tru_ok pins s1 σ H1 x v Q I1 r1 q1) (he _)
theorem Ky:OpR X (binaryOp .Add) (fun x y H Q=>∃ i j,x = .str i/\y = .str j/\i.length+j.length<=sizeLine/\Q (.str (i++j)) H):=by
 intro pins s σ H x y v u Q I rx ry h;obtain ⟨i,j,rfl,rfl,hz,q⟩:=h;obtain ⟨t,rfl⟩:=rx;obtain ⟨t',rfl⟩:=ry;exact add_str (fun t' tk=>⟨.str (i++j),H,I.tok _,⟨_,rfl⟩,q⟩) hz
theorem DX {x:V}{us:List Value}(r:Vals [x] us):∃ u,us=[u]/\RelV x u:=by
 cases r with
 | cons r1 r2=>cases r2;exact ⟨_,rfl,r1⟩
theorem Lr {x y:V}{us:List Value}(r:Vals [x,y] us):∃ u w',us=[u,w']/\RelV x u/\RelV y w':=by
 cases r with
 | cons r1 r2 =>
  cases r2 with
  | cons r3 r4=>cases r4;exact ⟨_,_,rfl,r1,r3⟩
theorem Md (hc:X.calm=true):CI X (.builtin "min") (fun xs H Q=>∃ i j,xs=[.int i,.int j]/\Q (.int (if j<i then j else i)) H):=by
 intro pins s σ H xs us Q I r h;obtain ⟨i,j,rfl,q⟩:=h;obtain ⟨u,w',rfl,⟨t,rfl⟩,⟨t',rfl⟩⟩:=Lr r;refine min_two_ints (I.ok.hd hc) fun h' tk k=>⟨_,H,I.kept k,?_,q⟩;by_cases hj:j<i
 ·rw [if_pos hj,if_pos hj];exact ⟨_,rfl⟩
 ·rw [if_neg hj,if_neg hj];exact ⟨_,rfl⟩
end
structure Room (k:Nat)(A:Around):Prop where
 hd:A.handled=none
 dp:A.depth+3 * k+5<recursionLimit
 un:A.units+16 * k+200<cLine
theorem Room.mono {j k:Nat}{A:Around}(r:Room k A)(h:j<=k):Room j A:=⟨r.hd,by have:=r.dp;omega,by have:=r.un;omega⟩
theorem Room.deeper {k:Nat}{A:Around}(r:Room (k+1) A)(env:Env):Room k (A.deeper env) :=
 ⟨r.hd,by have:=r.dp;show A.depth+1+3 * k+5<_;omega,by have:=r.un;show A.units+3+16 * k+200<_;omega⟩
theorem Room.depth {k:Nat}{A:Around}(r:Room k A):A.depth<recursionLimit:=by have:=r.dp;omega
theorem Room.units {k:Nat}{A:Around}(r:Room k A):A.units+64<cLine:=by have:=r.un;omega
abbrev BZ:TA:=fun _ H Q=>Q [] H
abbrev Ab (ta:TE)(tr:TA):TA:=fun σ H Q=>ta σ H fun x H1=>tr σ H1 fun xs H2=>Q (x::xs) H2
section
variable {X:Cx}{e:Expr}{es:List Expr}{te:TE}{t:TA}{pos:Pos}
theorem A6:PA X [] BZ:=fun _ _ _ _ H Q I h=>Calls.spliced_nil ⟨[],H,I,.nil,h⟩
theorem A2 (ha:PE X e te)(hr:PA X es t)(hs:starEach (e::es) X.env=(false,eval e X.env)::starEach es X.env:=by rfl):PA X (e::es) (Ab te t):=by
 intro pos pins s σ H Q I h;rw [hs];show wpAny _ _ (spliced ((false,eval e X.env)::backTo pos (starEach es X.env))) _ _ s;refine Calls.spliced_cons (thn (ha pins s σ H _ I h) fun u s1 ⟨x,H1,I1,r1,q1⟩=>?_);exact thn (hr pos pins s1 σ H1 _ I1 q1) fun us s2 ⟨xs,H2,I2,r2,q2⟩=>⟨x::xs,H2,I2,.cons r1 r2,q2⟩
abbrev tTup (t:TA):TE:=fun σ H Q=>t σ H fun xs H1=>xs.length<=sizeLine/\∀ p,H1 p=none->Q (.ref p) (upd H1 p (.tup xs))
abbrev MG (t:TA):TE:=fun σ H Q=>t σ H fun xs H1=>xs.length<=sizeLine/\∀ p,H1 p=none->Q (.ref p) (upd H1 p (.lst xs))
theorem Ew {x1}(h:PA X es t):PE X (.Tuple es x1 pos) (tTup t):=by
 intro pins s σ H Q I hq;refine wpAny_Tuple_spliced (thn (h pos pins s σ H _ I hq) fun us s1 ⟨xs,H1,I1,r,z,q⟩=>⟨by rw [<- r.length];exact z,?_⟩);have hf:H1 s1.heap.objs.size=none:=I1.hok.fresh (qxA _);refine ⟨.ref s1.heap.objs.size,upd H1 s1.heap.objs.size (.tup xs),I1.laid (t':=s1.toks) (fun b u e=>qcB _ e) (qxA _) ?_,rfl,q _ hf⟩;exact ⟨z,us,r,⟨_,qdB _ rfl,rfl,_,rfl⟩⟩
theorem C4 (h:PA X es t):PE X (.List es pos) (MG t):=by
 intro pins s σ H Q I hq;refine wpAny_List_spliced (thn (h pos pins s σ H _ I hq) fun us s1 ⟨xs,H1,I1,r,z,q⟩=>⟨by rw [<- r.length];exact z,?_⟩);have hf:H1 s1.heap.objs.size=none:=I1.hok.fresh (qxA _);refine ⟨.ref s1.heap.objs.size,upd H1 s1.heap.objs.size (.lst xs),I1.laid (t':=s1.toks) (fun b u e=>qcB _ e) (qxA _) ?_,rfl,q _ hf⟩;exact ⟨z,us,0,r,qdB _ rfl⟩
end
abbrev Sp:=List V->Hp->VK->XK->Prop
abbrev CXT:=List Env->Hp->Shared->XK->Value->Shared->Prop
structure Env0 (P:Program)(w:World)(K:FZ9)(mg:Str->Option Value)(base:Heap)(A:Around)(outer:List Env)(s:Shared)(H:Hp):Prop where
 frames:A.frames=some outer
 mod:Mod K mg base
 bs:∀ b o,base.get? b=some o->s.heap.get? b=some o/\H b=none
 bsz:base.objs.size<=s.heap.objs.size
 funs:s.heap.FunFrames base outer
 frf:∀ b∈frs outer,H b=none
 hok:HOk P w H s.heap
 bare:AllBare s.gens
def CE (outer:List Env)(P:Program)(w:World)(H:Hp)(s:Shared)(Q:VK)(u:Value)(s':Shared):Prop :=
 ∃ v H',s'.os=s.os/\AllBare s'.gens/\Un (frs outer) [] H H' s.heap s'.heap/\HOk P w H' s'.heap/\RelV v u/\Q v H'
def CR (CX:CXT)(outer:List Env)(P:Program)(w:World)(H:Hp)(s:Shared)(Q:VK)(E:XK)(r:Result)(s':Shared):Prop :=
 match r with
 | .ok (.ret u)=>CE outer P w H s Q u s'
 | .ok _=>False
 | .error e=>CX outer H s E e s'
structure FnOk (P:Program)(w:World)(K:FZ9)(mg:Str->Option Value)(base:Heap)(CX:CXT)(k:Nat)(f:Addr)(fd:FuncData)(ps:List Str)(sp:Sp):Prop where
 len:∀ vs H Q E,sp vs H Q E->vs.length=ps.length
 run:∀ (A:Around) (outer:List Env) (s:Shared) (H:Hp) (args:Args) (us:List Value) (vs:List V) (Q:VK) (E:XK),Room k A->Env0 P w K mg base A outer s H->BindsTo s fd args (ps.zip us)->Vals vs us->sp vs H Q E ->
  codeAny (model P w) A (.call (.ref f) args) (CR CX outer P w H s Q E) s
theorem FnOk.imp {P:Program}{w:World}{K:FZ9}{mg:Str->Option Value}{base:Heap}{CX:CXT}{k:Nat}{f:Addr}{fd:FuncData}{ps:List Str}{sp sp':Sp}(F:FnOk P w K mg base CX k f fd ps sp)
  (h:∀ vs H Q E,sp' vs H Q E->sp vs H Q E):FnOk P w K mg base CX k f fd ps sp' :=
 ⟨fun vs H Q E q=>F.len vs H Q E (h _ _ _ _ q),fun A outer s H args us vs Q E hr he hb hv hs=>F.run A outer s H args us vs Q E hr he hb hv (h _ _ _ _ hs)⟩
section
variable {X:Cx}{pins:List (Addr × Obj)}{σ:St}{H:Hp}{s s':Shared}
theorem Inv.env0 (I:Inv X pins σ H s):Env0 X.prog X.w X.K X.mg X.base X.A X.stack s H :=
 ⟨I.ok.frames,I.ok.mod,I.bs,qyA I.ok.bsz I.sz,I.stack,I.stkFree,I.hok,I.bare⟩
theorem Inv.after {Q:VK}{u:Value}(I:Inv X pins σ H s)(h:CE X.stack X.prog X.w H s Q u s'):EP X pins σ Q u s':=by
 obtain ⟨v,H',os,bare,un,hok,r,q⟩:=h;obtain ⟨hh,g,d,t,os'⟩:=s';obtain rfl:os'=s.os:=os;exact ⟨v,H',I.call (h':=hh) (g':=g) (d':=d) (t':=t) (ch:=[]) un hok bare (fun b z=>absurd z (by simp)),r,q⟩
end
abbrev J6 (sp:Sp)(dvs:List V)(E:XK)(t:TA):TE:=fun σ H Q=>t σ H fun vs H1=>sp (vs++dvs) H1 Q E
def Binds (K:FZ9)(fd:FuncData)(ps:List Str)(ds:List Value):Prop :=
 ∀ (s:Shared) (us:List Value),K.In s.heap->(us++ds).length=ps.length->BindsTo s fd ⟨us,[]⟩ (ps.zip (us++ds))
theorem Binds.all {K:FZ9}{fd:FuncData}{ps:List Str}(h:∀ us:List Value,us.length=ps.length->bindArgs fd ⟨us,[]⟩=pure (ps.zip us)):Binds K fd ps []:=fun s us _ hl=>by
 rw [qwA] at hl ⊢;exact .of_eq (h us hl)
def Km (CX:CXT)(X:Cx)(E:XK):Prop:=∀ (pins:List (Addr × Obj)) (σ:St) (H:Hp) (s:Shared) (e:Value) (s':Shared),Inv X pins σ H s->CX X.stack H s E e s'->X.xe e s'
section
variable {X:Cx}{CX:CXT}{k:Nat}{f C:Addr}{fd:FuncData}{ps:List Str}{sp:Sp}{dvs:List V}{ds:List Value}{E:XK}{x m:Str}{p pos apos:Pos}{e o:Expr}{es:List Expr}{ta:TE}{t:TA}
theorem run_fn {pins:List (Addr × Obj)}{σ:St}{H:Hp}{s:Shared}{Q:VK}{us:List Value}{vs:List V}(F:FnOk X.prog X.w X.K X.mg X.base CX k f fd ps sp)(hr:Room k X.A)(hb:Binds X.K fd ps ds)(hd:Vals dvs ds)(hx:Km CX X E)
  (I:Inv X pins σ H s) (r:Vals vs us) (h:sp (vs++dvs) H Q E):wpAny (model X.prog X.w) X.A (call (.ref f) us) (EP X pins σ Q) X.xe s:=by
 have r2:Vals (vs++dvs) (us++ds):=r.append hd;have hl:(us++ds).length=ps.length:=by rw [<- r2.length];exact F.len _ _ _ _ h
 refine wpAny_call (codeAny_mono (F.run X.A X.stack s H ⟨us,[]⟩ (us++ds) (vs++dvs) Q E hr I.env0 (hb s us I.kIn hl) r2 h) fun r s' hq=>?_)
 cases r with
 | error e=>exact hx pins σ H s e s' I hq
 | ok fl =>
  cases fl with
  | ret u=>exact I.after hq
  | next=>exact False.elim hq
  | brk=>exact False.elim hq
  | cont=>exact False.elim hq
theorem pe_call (F:FnOk X.prog X.w X.K X.mg X.base CX k f fd ps sp)(hr:Room k X.A)(hg:Gl X x)(hm:X.mg x=some (.ref f))(hk:PySem.W.keepIn X.K (.ref f)=true)(hb:Binds X.K fd ps ds)(hd:Vals dvs ds)(hx:Km CX X E)
  (ha:PA X (e::es) t) (hdb:(x == ("__debug__" : Str))=false:=by decide) (he:starEach (e::es) X.env=(false,eval e X.env)::starEach es X.env:=by rfl) (hpl:(backTo pos (starEach es X.env)).any (·.1)=false:=by rfl) :
  PE X (.Call (.Name x p) (e::es) [] pos) (J6 sp dvs E t):=by
 intro pins s σ H Q I h;refine wpAny_Call_Name_kw (Lo I hg hm ?_ hdb);refine PySem.W.callWith_K (h₀:=X.base) I.ok.mod.kin hk (thn (ha pos pins s σ H _ I h) fun us s1 ⟨vs,H1,I1,r,q⟩=>⟨I1.kIn,?_⟩) he hpl;exact run_fn F hr hb hd hx I1 r q
end
structure FnScope (N P:List Str)(sc:Scope):Prop where
 kind:sc.kind = .function
 co:sc.isCoroutine=false
 gen:sc.isGenerator=false
 nd:N.Nodup
 pre:N.take P.length=P
 par:∀ x∈P,sc.names.lookup x=some .local \/ sc.names.lookup x=some .cell
 nofree:∀ y∈sc.names,y.2 ≠ .free
theorem Ip {kindOf:Str->Option NameKind}{x:Str}:∀ {binds:List (Str × Value)}{m:Str->Option Value},(∀ v,(x,v) ∉ binds)->bindL kindOf binds m x=m x
 | [],_,_=>rfl
 | (n,v)::r,m,h=>by
  unfold bindL;rw [Ip fun w hw=>h w (qpA _ hw)];split
  ·have:x≠n:=by rintro rfl;exact h v qoA
   simp [this]
  ·rfl
theorem J5 {kindOf:Str->Option NameKind}{x:Str}:∀ {binds:List (Str × Value)}{m:Str->Option Value},(∀ v,(x,v) ∉ binds)->bindC kindOf binds m x=m x
 | [],_,_=>rfl
 | (n,v)::r,m,h=>by
  unfold bindC;rw [J5 fun w hw=>h w (qpA _ hw)];split
  ·rfl
  ·have:x≠n:=by rintro rfl;exact h v qoA
   simp [this]
theorem Iq {kindOf:Str->Option NameKind}{x:Str}{v:Value}:∀ {P:List Str}{vs:List Value}{i:Nat}{m:Str->Option Value},P.Nodup->P[i]? = some x->vs[i]? = some v->kindOf x=some .local ->
  bindL kindOf (P.zip vs) m x=some v
 | [],_,_,_,_,h,_,_=>by simp at h
 | _::_,[],_,_,_,_,h,_=>by simp at h
 | p::P,w::vs,0,m,nd,h1,h2,hk=>by
  simp at h1 h2;subst h1;subst h2;show bindL kindOf ((p,w)::P.zip vs) m p=_;unfold bindL;rw [Ip fun v hv=>(List.nodup_cons.mp nd).1 (List.of_mem_zip hv).1,if_pos hk];simp
 | p::P,w::vs,i+1,m,nd,h1,h2,hk=>by
  show bindL kindOf ((p,w)::P.zip vs) m x=_;unfold bindL;exact Iq (i:=i) (List.nodup_cons.mp nd).2 (by simpa using h1) (by simpa using h2) hk
theorem J8 {kindOf:Str->Option NameKind}{x:Str}{v:Value}:∀ {P:List Str}{vs:List Value}{i:Nat}{m:Str->Option Value},P.Nodup->P[i]? = some x->vs[i]? = some v->kindOf x≠some .local ->
  bindC kindOf (P.zip vs) m x=some v
 | [],_,_,_,_,h,_,_=>by simp at h
 | _::_,[],_,_,_,_,h,_=>by simp at h
 | p::P,w::vs,0,m,nd,h1,h2,hk=>by
  simp at h1 h2;subst h1;subst h2;show bindC kindOf ((p,w)::P.zip vs) m p=_;unfold bindC;rw [J5 fun v hv=>(List.nodup_cons.mp nd).1 (List.of_mem_zip hv).1,if_neg hk];simp
 | p::P,w::vs,i+1,m,nd,h1,h2,hk=>by
  show bindC kindOf ((p,w)::P.zip vs) m x=_;unfold bindC;exact J8 (i:=i) (List.nodup_cons.mp nd).2 (by simpa using h1) (by simpa using h2) hk
def start (N:List Str)(vs:List V):St:=vs.map some++List.replicate (N.length - vs.length) none
def JK (CX:CXT)(P:Program)(w:World)(K:FZ9)(mg:Str->Option Value)(base:Heap)(N:List Str)(qual:Str)(scope:Scope)(f:Addr)(cd:Value)(A:Around)(outer:List Env)(s:Shared)(H:Hp)(E:XK):Cx where
 prog:=P
 w:=w
 K:=K
 mg:=mg
 base:=base
 A:=A.deeper (envOfC qual scope s.heap.objs.size f cd)
 N:=N
 s₀:=s
 H₀:=H
 env:=envOfC qual scope s.heap.objs.size f cd
 outer:=outer
 stack:=envOfC qual scope s.heap.objs.size f cd::outer
 ex:=[]
 calm:=true
 fn:=fun _=>true
 pn:=[]
 xe:=fun e s'=>wpAny (model P w) (A.deeper (envOfC qual scope s.heap.objs.size f cd)) (leaving (envOfC qual scope s.heap.objs.size f cd) e) (fun _ s''=>CX outer H s E e s'') (fun e' s''=>CX outer H s E e' s'') s'
theorem KD {sc:Scope}{n:Nat}{x:Str}(h:sc.names.lookup x=some .cell):∃ c,(cellsFrom n sc.names []).lookup x=some c:=by
 have q:=PySem.W.cellsFrom_some sc.names n [] (.inl h);exact Option.isSome_iff_exists.mp q
theorem MV {CX:CXT}{P:Program}{w:World}{K:FZ9}{mg:Str->Option Value}{base:Heap}{N ps:List Str}{qual:Str}{scope:Scope}{f:Addr}{cd:Value}{A:Around}{outer:List Env}{s s1:Shared}{H:Hp}{E:XK}{us:List Value}{vs:List V}
  (S:FnScope N ps scope) (hd:A.handled=none) (e0:Env0 P w K mg base A outer s H) (hl:vs.length=ps.length) (r:Vals vs us)
  (x:InCallC s s.heap.objs.size (bindL (envOfC qual scope s.heap.objs.size f cd).kindOf (ps.zip us) fun _=>none) (cellsFrom (s.heap.objs.size+1) scope.names []) (bindC (envOfC qual scope s.heap.objs.size f cd).kindOf (ps.zip us) fun _=>none) s1) :
  Inv (JK CX P w K mg base N qual scope f cd A outer s H E) [] (start N vs) H s1:=by
 have hpl:ps.length<=N.length:=by have:=congrArg List.length S.pre;rw [qiA] at this;omega
 obtain ⟨h1,tk,rfl,hk⟩:=x.done;have noA:∀ b:Addr,b ∉ (JK CX P w K mg base N qual scope f cd A outer s H E).ex:=fun b z=>absurd (show b∈([]:List Addr) from z) (by simp)
 refine ⟨⟨e0.mod,S.kind,rfl,rfl,qxA _,fun y z c h1 h2=>?_,fun y hy=>?_,fun y c _ h=>?_,fun _=>hd,Around.frames_deeper e0.frames,.inr ⟨rfl,rfl⟩,fun b z=>absurd z (noA b),e0.bs,e0.bsz,fun b _ _=>noA b,fun b z=>absurd z (noA b),e0.funs,e0.frf⟩,
  rfl,e0.bare,Un.kept hk,⟨_,x.toInCall.ns,fun i y v h1 h2 h3=>?_⟩,fun y c h=>⟨_,x.cell y c h⟩,e0.hok.fresh (qxA _),fun y c h=>?_,fun p hp=>absurd (show p∈([]:List (Addr × Obj)) from hp) (by simp),e0.hok.kept hk,?_⟩
 ·exact name_of_addr x.apart (PySem.mem_of_lookup h1) (PySem.mem_of_lookup h2)
 ·have hy:scope.names.lookup y=some .cell\/scope.names.lookup y=some .free:=hy;rcases hy with hy|hy
  ·exact KD hy
  ·exact absurd rfl (S.nofree _ (PySem.mem_of_lookup hy))
 ·exact Nat.le_of_lt (x.above y c (PySem.mem_of_lookup h))
 ·have hi:i<vs.length:=by
   unfold start at h2;by_cases hi:i<vs.length
   ·exact hi
   ·rw [List.getElem?_append_right (by simpa using hi)] at h2;rw [List.getElem?_replicate] at h2;split at h2<;>cases h2
  have ha:vs[i]? = some v:=by
   unfold start at h2;rw [List.getElem?_append_left (by simpa using hi),List.getElem?_map] at h2
   cases e:vs[i]? with
   | none=>rw [e] at h2;cases h2
   | some a=>rw [e] at h2;cases h2;rfl
  obtain ⟨u,hu,rv⟩:=r.get ha
  have hp:ps[i]? = some y:=by
   rw [<- S.pre,List.getElem?_take_of_lt (by omega)];exact h1
  have ndP:ps.Nodup:=by rw [<- S.pre];exact S.nd.sublist (List.take_sublist _ _)
  refine ⟨u,rv,?_⟩;rcases S.par y (qrA hp) with k|k
  ·exact .inl ⟨k,Iq ndP hp hu k⟩
  ·obtain ⟨c,e⟩:=KD (n:=s.heap.objs.size+1) k;refine .inr ⟨.inl k,c,e,?_⟩;have q:=x.cell y c e;rw [J8 ndP hp hu (by show scope.names.lookup y≠_;rw [k];decide)] at q;exact q
 ·exact e0.hok.fresh (Nat.le_of_lt (x.above y c (PySem.mem_of_lookup h)))
 ·unfold start;show _=N.length;rw [qeA,qdA,List.length_replicate];omega
theorem fn_of {CX:CXT}{P:Program}{w:World}{K:FZ9}{mg:Str->Option Value}{base:Heap}{k:Nat}{f:Addr}{name qual:Str}{params:Arguments}{body:List Stmt}{scope:Scope}{dV kV doc pm cdv ct oc:Value}{an od:Option Addr}
  {osl:Array (Option Value)}{N ps:List Str}{sp:Sp}(lk:K.lookup f=some ⟨oc,od,.func (qmB name qual params body scope dV kV doc pm an cdv ct),osl⟩) (hcd:PySem.W.codeIn K cdv qual=true) (S:FnScope N ps scope)
  (len:∀ vs H Q E,sp vs H Q E->vs.length=ps.length)
  (hbody:∀ (A:Around) (outer:List Env) (s:Shared) (H:Hp) (vs:List V) (Q:VK) (E:XK),Room k (A.deeper (envOfC qual scope s.heap.objs.size f cdv))->sp vs H Q E ->
   ∃ t,PSs (JK CX P w K mg base N qual scope f cdv A outer s H E) body t/\t { nx:=fun _ H'=>Q .non H',rt:=Q } (start N vs) H) :
  FnOk P w K mg base CX (k+1) f (qmB name qual params body scope dV kV doc pm an cdv ct) ps sp:=by
 refine ⟨len,fun A outer s H args us vs Q E hr e0 hb r hsp=>?_⟩;have hl:=len _ _ _ _ hsp;have KX:K.In s.heap:=e0.mod.kin.keeps fun b o e=>(e0.bs b o e).1;have lim:s.heap.NoLimit:=e0.mod.nolimit.keeps fun b o e=>(e0.bs b o e).1
 have hkind:∀ y∈ps.zip us,scope.names.lookup y.1=some .local \/ (scope.names.lookup y.1=some .cell/\((cellsFrom (s.heap.objs.size+1) scope.names []).lookup y.1).isSome=true):=fun ⟨n,v⟩ hy=>by
  rcases S.par n (List.of_mem_zip hy).1 with q|q
  ·exact .inl q
  ·exact .inr ⟨q,PySem.W.cellsFrom_some _ _ _ (.inl q)⟩
 refine codeAny_call_function hr.depth (KX _ _ lk) rfl S.co S.gen rfl (PySem.W.codeRec_of KX hcd) (hb _ _ _ _ ?_);refine wpAny_newFunctionEnv_cells S.kind hkind fun env he s1 x=>?_;subst he;refine ⟨lim.keeps x.toInCall.keep,codeAny_func ?_⟩;obtain ⟨t,ht,hq⟩:=hbody A outer s H vs Q E (hr.deeper _) hsp;have I:Inv (JK CX P w K mg base N qual scope f cdv A outer s H E) [] (start N vs) H s1:=MV S hr.hd e0 hl r x;refine wpAny_mono (ht [] s1 (start N vs) H _ I hq) (fun fl s' hs=>?_) fun e s' hs=>hs
 have fin:∀ {σ':St}{H':Hp}{v:V}{u:Value},Inv (JK CX P w K mg base N qual scope f cdv A outer s H E) [] σ' H' s'->RelV v u->Q v H'->CE outer P w H s Q u s' :=
  fun {σ' H' v u} J rv q=>⟨v,H',J.os,J.bare,J.base,J.hok,rv,q⟩
 cases fl with
 | ret u =>
  obtain ⟨v,σ',H',J,rv,q⟩:=hs;exact fin J rv q
 | next =>
  obtain ⟨σ',H',J,q⟩:=hs;exact fin (v:=V.non) (u:=Value.none) J rfl q
 | brk =>
  obtain ⟨_,_,_,q⟩:=hs;exact False.elim q
 | cont =>
  obtain ⟨_,_,_,q⟩:=hs;exact False.elim q
section
variable {X:Cx}{x:Str}{p pos:Pos}{e:Expr}{es:List Expr}{t:TA}{id T:String}{r:List V->Hp->VK->Prop}
abbrev tCB (r:List V->Hp->VK->Prop)(t:TA):TE:=fun σ H Q=>t σ H fun vs H1=>r vs H1 Q
theorem AS (hc:CI X (.builtin id) r)(hg:Gl X x)(hm:X.mg x=none)(hv:bootBuiltins x=some (.builtin id))(ha:PA X (e::es) t)(hn:x ≠ "__name__" := by decide)(hdb:(x == ("__debug__" : Str))=false:=by decide)
  (he:starEach (e::es) X.env=(false,eval e X.env)::starEach es X.env:=by rfl) (hpl:(backTo pos (starEach es X.env)).any (·.1)=false:=by rfl):PE X (.Call (.Name x p) (e::es) [] pos) (tCB r t):=by
 intro pins s σ H Q I h;refine wpAny_Call_Name_kw (Hr I hg hm hv ?_ hn hdb);exact PyProof.Rows.callWith_builtin1 (thn (ha pos pins s σ H _ I h) fun us s1 ⟨vs,H1,I1,r1,q1⟩=>hc pins s1 σ H1 vs us Q I1 r1 q1) he hpl
theorem B6 (hc:CI X (.type T) r)(hg:Gl X x)(hm:X.mg x=none)(hv:bootBuiltins x=some (.type T))(ha:PA X (e::es) t)(hn:x ≠ "__name__" := by decide)(hdb:(x == ("__debug__" : Str))=false:=by decide)
  (he:starEach (e::es) X.env=(false,eval e X.env)::starEach es X.env:=by rfl) (hpl:(backTo pos (starEach es X.env)).any (·.1)=false:=by rfl):PE X (.Call (.Name x p) (e::es) [] pos) (tCB r t):=by
 intro pins s σ H Q I h;refine wpAny_Call_Name_kw (Hr I hg hm hv ?_ hn hdb);exact PyProof.Rows.callWith_type1 (thn (ha pos pins s σ H _ I h) fun us s1 ⟨vs,H1,I1,r1,q1⟩=>hc pins s1 σ H1 vs us Q I1 r1 q1) he hpl
end
end L2
namespace HT
open PySem PyProof.Rows
section
open PySem.SeqAt
open PySem.AutoSeq1 (wpAny_loadPart')
open PySem.MeetsSeq PySem.MeetsSeq2 PySem.MeetsSeq3
end
section
variable {prog:Program}{w:World}{A:Around}{E:Value->Shared->Prop}{s:Shared}
def sIx (n d:Nat):Option Int->Nat
 | none=>d
 | some v=>if v<0 then (v+(n:Int)).toNat else min v.toNat n
theorem sIx_nat (n d k:Nat):sIx n d (some (k:Int))=min k n:=by
 show (if (k:Int)<0 then ((k:Int)+(n:Int)).toNat else min (k:Int).toNat n)=min k n;rw [if_neg (by omega),Int.toNat_natCast]
end
end HT
namespace L2
open PySem PySem.Spec PyProof.Rows
abbrev TO:=St->Hp->(Option Int->Hp->Prop)->Prop
def PO (X:Cx)(e:Option Expr)(t:TO):Prop :=
 ∀ (pins:List (Addr × Obj)) (s:Shared) (σ:St) (H:Hp) (Q:Option Int->Hp->Prop),Inv X pins σ H s->t σ H Q ->
  wpAny (model X.prog X.w) X.A (evalPart e X.env) (fun u s'=>∃ o H',Inv X pins σ H' s'/\IsPart u o/\Q o H') X.xe s
abbrev Lx:TO:=fun _ H Q=>Q none H
abbrev tPart (t:TE):TO:=fun σ H Q=>t σ H fun x H1=>∃ i,x = .int i/\Q (some i) H1
theorem Ks {ns:List Int}:∀ {us:List Value},Vals (ns.map V.int) us->IntsAre us ns:=by
 induction ns with
 | nil=>intro us r;rw [List.map_nil] at r;cases r;exact .nil
 | cons n ns ih =>
  intro us r;rw [quA] at r
  cases r with
  | cons r1 r2 =>
   obtain ⟨t,e⟩:=r1;subst e;exact .cons n t (ih r2)
section
variable {X:Cx}{e:Expr}{te:TE}{lo hi:Option Expr}{tl th:TO}{pos p2:Pos}
theorem EN:PO X none Lx:=by
 intro pins s σ H Q I h;rw [evalPart_none];exact qcA ⟨none,H,I,.none,h⟩
theorem F3 (h:PE X e te):PO X (some e) (tPart te):=by
 intro pins s σ H Q I hw;rw [evalPart_some];refine thn (h pins s σ H _ I hw) fun u s1 ⟨x,H1,I1,r1,q1⟩=>?_;obtain ⟨i,rfl,q⟩:=q1;obtain ⟨t,rfl⟩:=r1;exact ⟨some i,H1,I1,.int i t,q⟩
def SlR (X:Cx)(r:V->Option Int->Option Int->Hp->VK->Prop):Prop :=
 ∀ (pins:List (Addr × Obj)) (s:Shared) (σ:St) (H:Hp) (x:V) (v vl vu:Value) (lo hi:Option Int) (sl:Addr) (Q:VK),Inv X pins σ H s->RelV x v->s.heap.IsSliceOf sl vl vu .none->IsPart vl lo->IsPart vu hi->r x lo hi H Q ->
  ∃ T id,typeLookup (.type T) "__getitem__" = pure (some (.builtin id))/\s.TypeIs v T/\wpAny (model X.prog X.w) X.A (getItem v (.ref sl)) (EP X pins σ Q) X.xe s
abbrev tSl (r:V->Option Int->Option Int->Hp->VK->Prop)(te:TE)(tl th:TO):TE:=fun σ H Q=>te σ H fun x H1=>tl σ H1 fun l H2=>th σ H2 fun u H3=>r x l u H3 Q
theorem Et {r:V->Option Int->Option Int->Hp->VK->Prop}(hr:SlR X r)(he:PE X e te)(hl:PO X lo tl)(hu:PO X hi th):PE X (.Subscript e (.Slice lo hi none p2) pos) (tSl r te tl th):=by
 intro pins s σ H Q I h;refine Subscript_ (thn (he pins s σ H _ I h) fun v s1 ⟨x,H1,I1,r1,q1⟩=>?_);refine wpAny_Slice (thn (hl pins s1 σ H1 _ I1 q1) fun vl s2 ⟨l,H2,I2,pl,q2⟩=>thn (hu pins s2 σ H2 _ I2 q2) fun vu s3 ⟨u,H3,I3,pu,q3⟩=>?_);rw [evalPart_none];refine qcA ?_;have I4:Inv X pins σ H3 { s3 with heap:=s3.heap.push { cls:=.type "slice",data:=.fields #[vl,vu,.none] } }:=I3.kept (t':=s3.toks) fun b ob q=>qcB _ q;obtain ⟨T,id,hT,ht,hg⟩:=hr pins { s3 with heap:=s3.heap.push { cls:=.type "slice",data:=.fields #[vl,vu,.none] } } σ H3 x v vl vu l u s3.heap.objs.size Q I4 r1 (Heap.IsSliceOf.new ..) pl pu q3;show wpAny (model X.prog X.w) X.A (subscriptTail e (.Slice lo hi none p2) v (.ref s3.heap.objs.size)) (EP X pins σ Q) X.xe { s3 with heap:=s3.heap.push { cls:=.type "slice",data:=.fields #[vl,vu,.none] } };exact tail_any (ops:=[.ref s3.heap.objs.size,v]) ht hT hg (by with_unfolding_all rfl)
def Ko (xs:List V)(lo hi:Option Int):List V:=(xs.drop (HT.sIx xs.length 0 lo)).take (HT.sIx xs.length xs.length hi - HT.sIx xs.length 0 lo)
theorem Gg (xs:List V)(lo hi:Option Int):(Ko xs lo hi).length<=xs.length:=by
 unfold Ko;rw [qiA,List.length_drop];omega
end
def ixN (n:Nat)(i:Int):Option Nat:=if 0<=i then (if i<n then some i.toNat else none) else if -(n:Int)<=i then some (i+n).toNat else none
def atI {α:Type}(xs:List α)(i:Int):Option α:=(ixN xs.length i).bind fun j=>xs[j]?
theorem ixN_seq {n:Nat}{i:Int}{j:Nat}(h:ixN n i=some j):seqIndex? i n=some j/\j<n/\-(n:Int)<=i/\i<n:=by
 unfold ixN at h;by_cases h0:0<=i
 ·rw [if_pos h0] at h;by_cases h1:i<n
  ·rw [if_pos h1] at h;have e:i.toNat=j:=qaB h;exact ⟨by rw [seqIndex_of h0 h1,e],by omega,by omega,h1⟩
  ·rw [if_neg h1] at h;cases h
 ·rw [if_neg h0] at h;by_cases h1:-(n:Int)<=i
  ·rw [if_pos h1] at h;have e:(i+n).toNat=j:=qaB h;exact ⟨by rw [seqIndex_neg (by omega) h1,e],by omega,h1,by omega⟩
  ·rw [if_neg h1] at h;cases h
theorem GE {α:Type}{xs:List α}{i:Int}{v:α}(h:atI xs i=some v):∃ j,seqIndex? i xs.length=some j/\xs[j]? = some v/\j<xs.length/\-(xs.length:Int)<=i/\i<xs.length:=by
 unfold atI at h
 cases e:ixN xs.length i with
 | none=>rw [e] at h;cases h
 | some j =>
  rw [e] at h;obtain ⟨h1,h2,h3,h4⟩:=ixN_seq e;exact ⟨j,h1,h,h2,h3,h4⟩
theorem F8 {α:Type}{xs:List α}{j:Nat}{v:α}(h:xs[j]? = some v):atI xs (j:Int)=some v:=by
 have hj:j<xs.length:=(qsA.mp h).1
 have e:ixN xs.length (j:Int)=some j:=by
  unfold ixN;rw [if_pos (by omega),if_pos (by omega)];simp
 unfold atI;rw [e];exact h
def Lw (b:Expr):Prop:=∀ o i,subscripted b false o i=operate [o,i] (getItem o i)
def IxR (X:Cx)(r:R2):Prop :=
 ∀ (value slice:Expr) (pins:List (Addr × Obj)) (s:Shared) (σ:St) (H:Hp) (x y:V) (v u:Value) (Q:VK),Inv X pins σ H s->RelV x v->RelV y u->r x y H Q ->
  subscripted slice false v u=operate [v,u] (getItem v u)->wpAny (model X.prog X.w) X.A (subscriptTail value slice v u) (EP X pins σ Q) X.xe s
def MtR (X:Cx)(id:String)(r:V->List V->Hp->VK->Prop):Prop :=
 ∀ (pins:List (Addr × Obj)) (s:Shared) (σ:St) (H:Hp) (x:V) (xs:List V) (v:Value) (us:List Value) (Q:VK),Inv X pins σ H s->RelV x v->Vals xs us->r x xs H Q ->
  wpAny (model X.prog X.w) X.A (call (.builtin id) (v::us)) (EP X pins σ Q) X.xe s
section
variable {X:Cx}{a b:Expr}{ta tb:TE}{pos:Pos}
theorem pe_ix {r:R2}(hr:IxR X r)(ha:PE X a ta)(hb:PE X b tb)(hs:Lw b):PE X (.Subscript a b pos) (tOp r ta tb):=by
 intro pins s σ H Q I h;exact Subscript_ (binT ha hb I h fun v u s2 x y H2 I2 rx ry q=>hr a b pins s2 σ H2 x y v u Q I2 rx ry q (hs _ _))
def rIxL (K:FZ9):R2:=fun x y H Q=>∃ p xs i v,x = .ref p/\y = .int i/\SqL K H p xs/\atI xs i=some v/\Q v H
def rIxT (K:FZ9):R2:=fun x y H Q=>∃ p xs i v,x = .ref p/\y = .int i/\SqT K H p xs/\atI xs i=some v/\Q v H
def rIxS:R2:=fun x y H Q=>∃ z i c,x = .str z/\y = .int i/\z.length<=sizeLine/\atI z.cps.toList i=some c/\Q (.str ⟨#[c]⟩) H
theorem ix_list:IxR X (rIxL X.K):=by
 intro value slice pins s σ H x y v u Q I rx ry h hs;obtain ⟨p,xs,i,z,rfl,rfl,hq,he,q⟩:=h;cases rx;obtain ⟨t,rfl⟩:=ry;obtain ⟨its,r,pl,hz⟩:=I.list hq;obtain ⟨j,h1,h2,h3,h4,h5⟩:=GE he;obtain ⟨w,ew,rw'⟩:=r.get h2;have hl:=r.length;have hn:=Gb;have fin:EP X pins σ Q w s:=⟨z,H,I,rw',q⟩;by_cases h0:0<=i
 ·have hj:i.toNat=j:=by
   rw [seqIndex_of h0 h5] at h1;exact qaB h1
  exact item_listR pl.isList h0 (by omega) (by rw [hj];simpa using ew) fin hs
 ·have hj:(i+(its.toArray.size:Int)).toNat=j:=by
   rw [seqIndex_neg (by omega) h4] at h1;rw [qkB,<- hl];exact qaB h1
  exact subscriptTail_builtinR (x:=w) pl.isList.typeIs slot_list_getitem.lookup
   (wpAny_getItem_list_neg (Q:=fun r s'=>r=w/\EP X pins σ Q r s') pl.isList (by omega) (by rw [qkB]<;>omega) (by omega) (by rw [hj];simpa using ew) ⟨rfl,fin⟩) hs
theorem ix_tup:IxR X (rIxT X.K):=by
 intro value slice pins s σ H x y v u Q I rx ry h hs;obtain ⟨p,xs,i,z,rfl,rfl,hq,he,q⟩:=h;cases rx;obtain ⟨t,rfl⟩:=ry;obtain ⟨its,r,pl,hz⟩:=I.tuple hq;obtain ⟨j,h1,h2,h3,h4,h5⟩:=GE he;obtain ⟨w,ew,rw'⟩:=r.get h2;have hl:=r.length;have hn:=Gb;have fin:EP X pins σ Q w s:=⟨z,H,I,rw',q⟩
 exact subscriptTail_builtinR (x:=w) pl.typeIs slot_tuple_getitem.lookup
  (getItem_tuple (j:=j) (Q:=fun r s'=>r=w/\EP X pins σ Q r s') pl (by omega) (by omega) (by rw [qkB,<- hl];exact h1) (by simpa using ew) ⟨rfl,fin⟩) hs
theorem ix_str:IxR X rIxS:=by
 intro value slice pins s σ H x y v u Q I rx ry h hs;obtain ⟨z,i,c,rfl,rfl,hz,he,q⟩:=h;obtain ⟨t,rfl⟩:=rx;obtain ⟨t',rfl⟩:=ry;obtain ⟨j,h1,h2,h3,h4,h5⟩:=GE he;have hl:z.cps.toList.length=z.length:=by simp [Str.length]
 rw [hl] at h1 h4 h5;have hn:=Gb
 exact tail_any (typeIs_str s z t) slot_str_getitem.lookup (getItem_str (c:=c) (by
  have e1:decide (i < -(2 ^ 63:Int))=false:=decide_eq_false (by omega);have e2:decide (i>=2 ^ 63)=false:=decide_eq_false (by omega)
  rw [e1,e2,Bool.or_false]) (by rw [h1];simpa using h2) ⟨.str ⟨#[c]⟩,H,I.tok _,⟨_,rfl⟩,q⟩) hs
theorem JI (lo hi:Option Int)(n:Nat):(sliceBounds lo hi none n).1=((HT.sIx n 0 lo:Nat):Int)/\(sliceBounds lo hi none n).2.1=((HT.sIx n n hi:Nat):Int)/\(sliceBounds lo hi none n).2.2=1:=by
 refine ⟨?_,?_,rfl⟩
 ·cases lo with
  | none=>simp [sliceBounds,HT.sIx]
  | some i =>
   simp only [sliceBounds,HT.sIx,Option.getD_none,show (1:Int) > 0 by decide,if_true];by_cases h:i<0
   ·simp only [h,if_true]<;>omega
   ·simp only [h,if_false]<;>omega
 ·cases hi with
  | none=>simp [sliceBounds,HT.sIx]
  | some i =>
   simp only [sliceBounds,HT.sIx,Option.getD_none,show (1:Int) > 0 by decide,if_true];by_cases h:i<0
   ·simp only [h,if_true]<;>omega
   ·simp only [h,if_false]<;>omega
theorem Ia (its:List Value)(lo hi:Option Int):slicePick its.toArray lo hi none=((its.drop (HT.sIx its.length 0 lo)).take (HT.sIx its.length its.length hi - HT.sIx its.length 0 lo)).toArray:=by
 obtain ⟨h1,h2,h3⟩:=JI lo hi its.toArray.size;unfold slicePick;rw [h1,h2,h3];simp only [sliceRange_one,pick_run,qkB]<;>rfl
def rSlL (K:FZ9):V->Option Int->Option Int->Hp->VK->Prop:=fun x lo hi H Q=>∃ a xs,x = .ref a/\SqL K H a xs/\∀ p,H p=none->Q (.ref p) (upd H p (.lst (Ko xs lo hi)))
theorem sl_list:SlR X (rSlL X.K):=by
 intro pins s σ H x v vl vu lo hi sl Q I rx hs pl pu h;obtain ⟨a,xs,rfl,hx,q⟩:=h;cases rx;obtain ⟨its,r,ht,hz⟩:=I.list hx;have hlen:=r.length;refine ⟨"list",_,slot_list_getitem.lookup,ht.isList.typeIs,?_⟩;refine wpAny_getItem_list_slice ht.isList hs pl pu .none (by simp) ?_ (by rw [qkB]<;>omega);rw [Ia,<- hlen];refine ⟨.ref s.heap.objs.size,_,I.laid (t':=s.toks) (o:=.lst (Ko xs lo hi)) (fun b ob q=>qcB _ q) (qxA _) ?_,rfl,q _ (I.hok.fresh (qxA _))⟩;exact ⟨qyA (Gg xs lo hi) hz,_,0,(r.drop (HT.sIx xs.length 0 lo)).take (HT.sIx xs.length xs.length hi - HT.sIx xs.length 0 lo),qdB _ rfl⟩
def flatV:V->Bool
 | .non=>true
 | .bl _=>true
 | .int _=>true
 | .str _=>true
 | _=>false
def eqV:V->V->Bool
 | .non,.non=>true
 | .bl a,.bl b=>a == b
 | .bl a,.int b=>(if a then 1 else 0) == b
 | .int a,.bl b=>a == (if b then 1 else 0)
 | .int a,.int b=>a == b
 | .str a,.str b=>a == b
 | _,_=>false
theorem JP:CI X (.builtin "len") (fun xs H Q=>∃ p ys,xs=[.ref p]/\(SqL X.K H p ys\/SqT X.K H p ys)/\Q (.int ys.length) H):=by
 intro pins s σ H xs us Q I r h;obtain ⟨p,ys,rfl,hq,q⟩:=h;obtain ⟨u,rfl,rx⟩:=DX r;cases rx;have hn:=Gb;rcases hq with hq|hq
 ·obtain ⟨its,r',pl,hz⟩:=I.list hq;have hlen:=r'.length;exact Calls.call_len_list pl.isList (by simp only [qkB]<;>omega) ⟨.int ys.length,H,I.tok _,⟨s.toks+1,by rw [qkB,hlen]⟩,q⟩
 ·obtain ⟨its,r',pl,hz⟩:=I.tuple hq;have hlen:=r'.length;exact len_tuple pl (by simp only [qkB]<;>omega) ⟨.int ys.length,H,I.tok _,⟨s.toks+1,by rw [qkB,hlen]⟩,q⟩
theorem JW:CI X (.builtin "len") (fun xs H Q=>∃ z,xs=[.str z]/\z.length<=sizeLine/\Q (.int z.length) H):=by
 intro pins s σ H xs us Q I r h;obtain ⟨z,rfl,hz,q⟩:=h;obtain ⟨u,rfl,t,rfl⟩:=DX r;have hn:=Gb;exact len_str (by omega) ⟨.int z.length,H,I.tok _,⟨_,rfl⟩,q⟩
theorem Jp:CI X (.type "list") (fun xs H Q=>∃ p ys,xs=[.ref p]/\(SqL X.K H p ys\/SqT X.K H p ys)/\∀ l,H l=none->Q (.ref l) (upd H l (.lst ys))):=by
 intro pins s σ H xs us Q I r h;obtain ⟨p,ys,rfl,hq,q⟩:=h;obtain ⟨u,rfl,rx⟩:=DX r;cases rx
 have fin:∀ (its:List Value),Vals ys its->ys.length<=sizeLine->∀ (h':Heap) (c':Nat),(∀ b o',s.heap.get? b=some o'->h'.get? b=some o') ->
   h'.get? s.heap.objs.size=some { cls:=.type "list",dict:=none,data:=.seq its.toArray c',slots:=#[] }->EP X pins σ Q (.ref s.heap.objs.size) { s with heap:=h' }:=fun its r' hz h' c' kp e =>
  ⟨.ref s.heap.objs.size,_,I.laid (t':=s.toks) kp (qxA _) (show ObjOk X.prog X.w _ h' _ (.lst ys) from ⟨hz,its,c',r',e⟩),rfl,q _ (I.hok.fresh (qxA _))⟩
 rcases hq with hq|hq
 ·obtain ⟨its,r',pl,hz⟩:=I.list hq;have hlen:=r'.length;obtain ⟨o,ho,hc,n,hd⟩:=pl.isList;exact call_list_seq p (.inl rfl) ho hc hd (fun h' c' kp e=>fin its r' hz h' c' kp e) (by simp only [qkB]<;>omega)
 ·obtain ⟨its,r',pl,hz⟩:=I.tuple hq;have hlen:=r'.length;obtain ⟨o,ho,hc,n,hd⟩:=pl;exact call_list_seq p (.inr rfl) ho hc hd (fun h' c' kp e=>fin its r' hz h' c' kp e) (by simp only [qkB]<;>omega)
theorem IU:CI X (.type "tuple") (fun xs H Q=>∃ p ys,xs=[.ref p]/\((SqL X.K H p ys/\∀ l,H l=none->Q (.ref l) (upd H l (.tup ys)))\/(SqT X.K H p ys/\Q (.ref p) H))):=by
 intro pins s σ H xs us Q I r h;obtain ⟨p,ys,rfl,h⟩:=h;obtain ⟨u,rfl,rx⟩:=DX r;cases rx;rcases h with ⟨hq,q⟩ | ⟨hq,q⟩
 ·obtain ⟨its,r',pl,hz⟩:=I.list hq;have hlen:=r'.length;refine call_tuple_list pl.isList (fun h' kp=>?_) (by simp only [qkB]<;>omega);have I1:Inv X pins σ H { s with heap:=h' }:=I.kept (t':=s.toks) kp
  have I2:Inv X pins σ (upd H h'.objs.size (.tup ys)) { s with heap:=h'.push { cls:=.type "tuple",data:=.seq its.toArray } } :=
   I1.laid (t':=s.toks) (fun b o e=>qcB _ e) (qxA _) (show ObjOk X.prog X.w _ _ _ (.tup ys) from ⟨hz,its,r',IsTup.new _ _⟩)
  exact ⟨.ref h'.objs.size,_,I2,rfl,q _ (I1.hok.fresh (qxA _))⟩
 ·obtain ⟨its,r',pl,hz⟩:=I.tuple hq;exact call_tuple_same pl ⟨.ref p,H,I,rfl,q⟩
def tyV (K:FZ9)(T:String)(x:V)(H:Hp):Prop:=match x with
 | .str _=>T = "str"
 | .int _=>T = "int"
 | .ref p=>(T = "list" /\ ∃ xs,SqL K H p xs)\/(T = "tuple" /\ ∃ o,K.lookup p=some o/\o.cls = .type "tuple" /\ o.dict=none) \/
   (T = "dict" /\ ((∃ kvs,H p=some (.dK kvs))\/∃ kvs,H p=some (.dT kvs)))\/(T = "set" /\ ∃ S n,H p=some (.set S n))
 | _=>False
theorem tyV_is {pins:List (Addr × Obj)}{σ:St}{H:Hp}{s:Shared}{T:String}{x:V}{v:Value}(I:Inv X pins σ H s)(r:RelV x v)(ty:tyV X.K T x H) :
  s.TypeIs v T/\∀ a,v = .ref a->∃ ob,s.heap.get? a=some ob/\ob.dict=none:=by
 cases x with
 | str z =>
  obtain ⟨t,rfl⟩:=r;cases (show T = "str" from ty);exact ⟨typeIs_str s z t,fun _ e=>nomatch e⟩
 | int i =>
  obtain ⟨t,rfl⟩:=r;cases (show T = "int" from ty);exact ⟨typeIs_int s i t,fun _ e=>nomatch e⟩
 | ref p =>
  cases r;rcases ty with ⟨rfl,xs,hq⟩ | ⟨rfl,o,hk,hc,hd⟩ | ⟨rfl,hk⟩ | ⟨rfl,S,n,hk⟩
  ·obtain ⟨its,_,pl,_⟩:=I.list hq;refine ⟨pl.isList.typeIs,fun a e=>?_⟩;cases e;obtain ⟨o,n,e,c,hd,_⟩:=pl;exact ⟨o,e,hd⟩
  ·refine ⟨⟨o,I.kIn p o hk,hc⟩,fun a e=>?_⟩;cases e;exact ⟨o,I.kIn _ o hk,hd⟩
  ·have z:∃ o,s.heap.get? p=some o/\o.ExactDict:=by
    rcases hk with ⟨kvs,hk⟩ | ⟨kvs,hk⟩
    ·obtain ⟨_,_,_,_,o,_,_,e,ex,_⟩:=I.hok p _ hk;exact ⟨o,e,ex⟩
    ·obtain ⟨_,_,_,_,o,_,_,e,ex,_⟩:=I.hok p _ hk;exact ⟨o,e,ex⟩
   obtain ⟨o,e,ex⟩:=z;refine ⟨⟨o,e,ex.1⟩,fun a e2=>?_⟩;cases e2;exact ⟨o,e,ex.2.1⟩
  ·obtain ⟨o,_,_,_,e,ex,_⟩:=I.hok p _ hk;refine ⟨⟨o,e,ex.1⟩,fun a e2=>?_⟩;cases e2;exact ⟨o,e,ex.2.1⟩
 | _=>exact False.elim ty
abbrev tBM0 (K:FZ9)(T:String)(r:V->List V->Hp->VK->Prop)(to:TE):TE:=fun σ H Q=>to σ H fun x H1=>tyV K T x H1/\r x [] H1 Q
abbrev tBM (K:FZ9)(T:String)(r:V->List V->Hp->VK->Prop)(to:TE)(t:TA):TE:=fun σ H Q=>to σ H fun x H1=>tyV K T x H1/\t σ H1 fun xs H2=>r x xs H2 Q
variable {o e:Expr}{es:List Expr}{to:TE}{t:TA}{name:Str}{apos cpos:Pos}{T id:String}{r:V->List V->Hp->VK->Prop}
theorem pe_bm0 (pa:PlainAttrs T)(slot:Slot T name id)(hty:typeOf (.builtin id)=pure (.type "method_descriptor"))(hm:MtR X id r)(ho:PE X o to)
  (hbase:attributeBase o name X.env (eval o X.env)=eval o X.env:=by rfl) (hline:(apos.endLine == cpos.line)=true:=by rfl):PE X (.Call (.Attribute o name apos) [] [] cpos) (tBM0 X.K T r to):=by
 intro pins s σ H Q I h;refine wpAny_Call_method0_late hbase hline (thn (ho pins s σ H _ I h) fun v s1 ⟨x,H1,I1,r1,ty,q1⟩=>?_);obtain ⟨h1,h2⟩:=tyV_is I1 r1 ty;exact ⟨T,id,pa,slot,hty,h1,h2,Calls.callWith_builtin rfl (PySem.evalArgs_none (hm pins s1 σ H1 x [] v [] Q I1 r1 .nil q1))⟩
theorem pe_bm (pa:PlainAttrs T)(slot:Slot T name id)(hty:typeOf (.builtin id)=pure (.type "method_descriptor"))(hm:MtR X id r)(ho:PE X o to)(ha:PA X (e::es) t)
  (hbase:attributeBase o name X.env (eval o X.env)=eval o X.env:=by rfl)
  (hfew:((backTo cpos (starEach (e::es) X.env)).all (fun x=>!x.1) && (backToKw cpos (keywordEach [] X.env)).all (fun x=>x.1.isSome)
   && decide ((e::es).length+([]:List Keyword).length+(if ([]:List Keyword).isEmpty then 0 else 1)<30))=true:=by rfl)
  (hline:(apos.endLine == cpos.line)=true:=by rfl) (hs:starEach (e::es) X.env=(false,eval e X.env)::starEach es X.env:=by rfl) (hplain:(backTo cpos (starEach es X.env)).any (·.1)=false:=by rfl) :
  PE X (.Call (.Attribute o name apos) (e::es) [] cpos) (tBM X.K T r to t):=by
 intro pins s σ H Q I h;refine wpAny_Call_method_late hbase hfew hline rfl (thn (ho pins s σ H _ I h) fun v s1 ⟨x,H1,I1,r1,ty,q1⟩=>?_);obtain ⟨h1,h2⟩:=tyV_is I1 r1 ty;refine ⟨T,id,pa,slot,hty,h1,h2,?_⟩;have hA:=ha cpos pins s1 σ H1 _ I1 q1;rw [hs] at hA ⊢;refine Calls.callWith_builtin (by show (false || (backTo cpos (starEach es X.env)).any (·.1))=false;rw [hplain]<;>rfl) (Calls.evalArgs_plain ?_);exact thn hA fun us s2 ⟨vs,H2,I2,r2,q2⟩=>hm pins s2 σ H2 x vs v us Q I2 r1 r2 q2
end
def MtM (X:Cx)(id:String)(r:V->List V->Hp->VK->Prop):Prop :=
 ∀ (pins:List (Addr × Obj)) (s:Shared) (σ:St) (H:Hp) (x:V) (xs:List V) (v:Value) (us:List Value) (Q:VK),Inv X pins σ H s->RelV x v->Vals xs us->r x xs H Q ->
  wpAny (model X.prog X.w) X.A (call (.builtin id) (v::us)) (EP X pins σ Q) X.xe s
theorem Vals.one:∀ {x:V}{us:List Value},Vals [x] us->∃ u,us=[u]/\RelV x u
 | _,_,.cons r .nil=>⟨_,rfl,r⟩
theorem Vals.zero:∀ {us:List Value},Vals [] us->us=[]
 | _,.nil=>rfl
theorem Vals.rep {xs:List V}{us:List Value}(h:Vals xs us):∀ k:Nat,Vals (List.replicate k xs).flatten (List.replicate k us).flatten
 | 0=>.nil
 | k+1=>by
  rw [List.replicate_succ,List.replicate_succ,List.flatten_cons,List.flatten_cons];exact Vals.append h (Vals.rep h k)
theorem GP (its:List Value):∀ (k:Nat) (acc:List Value),
  List.foldl (fun x1 x2=>x1++x2) acc.toArray (List.replicate k its.toArray)=(acc++(List.replicate k its).flatten).toArray
 | 0,acc=>by simp
 | k+1,acc=>by
  have e:acc.toArray++its.toArray=(acc++its).toArray:=by simp
  have e2:(acc++its)++(List.replicate k its).flatten=acc++(List.replicate (k+1) its).flatten:=by
   rw [List.replicate_succ,List.flatten_cons,qvA]
  rw [<- e2,<- GP its k (acc++its),<- e,List.replicate_succ,qsB]
section
variable {X:Cx}{pins:List (Addr × Obj)}{σ:St}{H:Hp}{s:Shared}{l b:Addr}{xs ys zs:List V}
theorem Inv.lset {its its':List Value}{n:Nat}{f:Array Value->Array Value}{t':Nat}(I:Inv X pins σ H s)(hH:H l=some (.lst xs))
  (e:s.heap.get? l=some { cls:=.type "list",data:=.seq its.toArray n }) (hf:f its.toArray=its'.toArray) (hv:Vals ys its') (hz:ys.length<=sizeLine) :
  Inv X pins σ (upd H l (.lst ys)) { s with heap:=s.heap.update l (Obj.mapSeq f),toks:=t' }:=by
 have q:=PySem.IsL.update e f;rw [hf] at q;refine I.write (x:=l) (e:=l) (by rw [hH];exact trivial) (.inl rfl) (fun b' u hb hu=>(Heap.get?_update_other s.heap (Obj.mapSeq f) (Ne.symm hb)).trans hu) ⟨_,q⟩ ?_;exact ⟨hz,its',_,hv,q⟩
theorem Inv.lnew {its:List Value}{t':Nat}(I:Inv X pins σ H s)(hv:Vals ys its)(hz:ys.length<=sizeLine) :
  Inv X pins σ (upd H s.heap.objs.size (.lst ys)) { s with heap:=s.heap.push { cls:=.type "list",data:=.seq its.toArray },toks:=t' } :=
 I.laid (fun _ _ q=>qcB _ q) (qxA _) ⟨hz,its,0,hv,qdB _ rfl⟩
theorem Inv.fresh (I:Inv X pins σ H s):H s.heap.objs.size=none:=I.hok.fresh (qxA _)
theorem Inv.lstM (I:Inv X pins σ H s)(hH:H l=some (.lst xs)):xs.length<=sizeLine/\∃ (its:List Value) (n:Nat),Vals xs its/\xs.length=its.length/\s.heap.get? l=some { cls:=.type "list",data:=.seq its.toArray n }:=by
 obtain ⟨z,its,n,r,e⟩:=I.hok l _ hH;exact ⟨z,its,n,r,r.length,e⟩
theorem Hj {n:Nat}(h:n<=sizeLine):Builtin.List.listTooLong n=false:=by
 unfold Builtin.List.listTooLong;exact decide_eq_false (by omega)
end
section
variable {X:Cx}
def Dh:V->List V->Hp->VK->Prop:=fun x vs H Q=>∃ l xs y,x = .ref l/\vs=[y]/\H l=some (.lst xs)/\xs.length<sizeLine/\Q .non (upd H l (.lst (xs++[y])))
theorem Iw:MtM X "list.append" Dh:=by
 intro pins s σ H x vs v us Q I rx rv h;obtain ⟨l,xs,y,rfl,rfl,hH,hz,q⟩:=h;cases rx;obtain ⟨u,rfl,ru⟩:=rv.one;obtain ⟨z,its,n,r,hl,e⟩:=I.lstM hH;refine call_meets F.slot_list_append ⟨_,e,rfl⟩ F.entry_list_append (F.args_list_append_2 _ _) (PySem.list_append l its.toArray n u (by rw [qkB];omega)) ⟨e,?_⟩;refine ⟨.non,_,I.lset (its':=its++[u]) hH e (by simp) (r.append (.cons ru .nil)) ?_,rfl,q⟩;rw [qeA,qgA];omega
def Lf:V->List V->Hp->VK->Prop:=fun x vs H Q=>∃ l b xs zs,x = .ref l/\vs=[.ref b]/\H l=some (.lst xs)/\H b=some (.lst zs)/\xs.length+zs.length<=sizeLine/\Q .non (upd H l (.lst (xs++zs)))
theorem Gc:MtM X "list.extend" Lf:=by
 intro pins s σ H x vs v us Q I rx rv h;obtain ⟨l,b,xs,zs,rfl,rfl,hH,hB,hz,q⟩:=h;cases rx;obtain ⟨u,rfl,ru⟩:=rv.one;cases ru;obtain ⟨z,its,n,r,hl,e⟩:=I.lstM hH;obtain ⟨z2,its2,n2,r2,hl2,e2⟩:=I.lstM hB;have hsz:its.toArray.size+its2.toArray.size<=sizeLine:=by rw [qkB,qkB];omega
 have hlong:¬ (!its.toArray.isEmpty && Builtin.List.listTooLong (its.toArray.size+its2.toArray.size))=true:=by
  rw [Hj hsz,Bool.and_false];exact qjB
 refine call_meets F.slot_list_extend ⟨_,e,rfl⟩ F.entry_list_extend (F.args_list_extend_2 _ _)
  (AutoSeq1.list_extend_list_list_0 l its.toArray n b its2.toArray n2 hlong (by rw [qkB];omega) (by omega)) ⟨e,e2,?_⟩
 refine ⟨.non,_,I.lset (its':=its++its2) hH e (by simp) (r.append r2) ?_,rfl,q⟩;rw [qeA];omega
def rClear:V->List V->Hp->VK->Prop:=fun x vs H Q=>∃ l xs,x = .ref l/\vs=[]/\H l=some (.lst xs)/\Q .non (upd H l (.lst []))
theorem mt_clear:MtM X "list.clear" rClear:=by
 intro pins s σ H x vs v us Q I rx rv h;obtain ⟨l,xs,rfl,rfl,hH,q⟩:=h;cases rx;have hus:=rv.zero;subst hus;obtain ⟨z,its,n,r,hl,e⟩:=I.lstM hH;refine call_meets F.slot_list_clear ⟨_,e,rfl⟩ F.entry_list_clear (F.args_list_clear_1 _) (AutoSeq1.list_clear_list_0 l its.toArray n (by rw [qkB];omega)) ⟨e,?_⟩;exact ⟨.non,_,I.lset (its':=[]) (ys:=[]) hH e rfl .nil (qtB _),rfl,q⟩
def rRep:R2:=fun x y H Q=>∃ l k xs,x = .ref l/\y = .int k/\H l=some (.lst xs)/\-(2 ^ 63)<=k/\k<2 ^ 63/\xs.length * k.toNat<=sizeLine /\
 ∀ p,H p=none->Q (.ref p) (upd H p (.lst (List.replicate k.toNat xs).flatten))
theorem Jd {α:Type}(xs:List α)(k:Nat):(List.replicate k xs).flatten.length=k * xs.length:=by
 induction k with
 | zero=>simp
 | succ k ih=>rw [List.replicate_succ,List.flatten_cons,qeA,ih,Nat.succ_mul,Nat.add_comm]
theorem op_rep:OpR X (binaryOp .Mult) rRep:=by
 intro pins s σ H x y v u Q I rx ry h;obtain ⟨l,k,xs,rfl,rfl,hH,h1,h2,hz,q⟩:=h;cases rx;obtain ⟨t,rfl⟩:=ry;obtain ⟨z,its,n,r,hl,e⟩:=I.lstM hH;have hlen:its.toArray.size * k.toNat<=sizeLine:=by rw [qkB,<- hl];exact hz
 have hcap:¬ its.toArray.size * k.toNat > (2 ^ 63 - 1) / 8:=by
  have:(sizeLine:Nat)<=(2 ^ 63 - 1) / 8:=by decide
  omega
 have hfit:¬ (!Builtin.List.listFitsIndex k)=true:=by
  rw [fitsIndex_both h1 h2];exact qjB
 have hlong:¬ Builtin.List.listTooLong (its.toArray.size * k.toNat)=true:=by
  rw [Hj hlen];exact qjB
 have hnew:List.foldl (fun x1 x2=>x1++x2) #[] (List.replicate (if its.toArray.isEmpty=true then 0 else k.toNat) its.toArray)=(List.replicate k.toNat its).flatten.toArray:=by
  have f0:∀ m:Nat,List.foldl (fun x1 x2=>x1++x2) #[] (List.replicate m its.toArray)=(List.replicate m its).flatten.toArray:=fun m=>by
   have:=GP its m [];rw [List.nil_append] at this;exact this
  rw [f0]
  cases its with
  | nil=>simp
  | cons a r'=>rw [if_neg (by simp)]
 refine wpAny_binaryOp_repeat_ref (T := "list") (U := "int") (by decide) ⟨_,e,rfl⟩ (fun s'=>typeIs_int s' k t) noFill_list_mul F.fills_int_mul F.slot_int_rmul repeat_list F.slot_int_index.lookup
  (call_meets F.slot_int_rmul (typeIs_int s k t) F.entry_int_rmul (F.args_int_rmul_2 _ _) (int___rmul___int_list k t l its.toArray n)
   ⟨e,rfl,⟨_,e,rfl⟩,call_meets F.slot_list_mul ⟨_,e,rfl⟩ F.entry_list_mul (F.args_list_mul_2 _ _) (AutoListH.list___mul___list_int_3 l its.toArray n k t hfit hcap hlong) ⟨e,?_⟩⟩)
 rw [hnew];exact ⟨.ref _,_,I.lnew (t':=s.toks) (r.rep k.toNat) (by rw [Jd,Nat.mul_comm];exact hz),rfl,q _ I.fresh⟩
end
end L2
namespace Att
open PySem PySem.W PySem.Calls PyProof.Rows
theorem Gr {P:Params}{h:Heap}:∀ (ns:List Int) (vs:List Value),WellAll P h vs (ns.map WData.int)->IntsAre vs ns:=by
 intro ns
 induction ns with
 | nil =>
  intro vs w;rw [List.map_nil] at w;cases w;exact .nil
 | cons n ns ih =>
  intro vs w;rw [quA] at w
  cases w with
  | cons a b =>
   cases a;exact .cons _ _ (ih _ b)
theorem M4 {l:OpenLaw}{n:Nat}(hn:l.most=some n){P:Params}{h:Heap}{args:List WData}{vals:List Value}
  (hpre:l.row.toRowW.claim.pre args=true) (hwl:WellAll P h vals args) :
  ∃ a vs ns,vals=[Value.ref a]/\args=[WData.list (ns.map WData.int)]/\h.get? a=some { cls:=.type "list",data:=.seq vs.toArray }/\IntsAre vs ns/\ns.length<=n:=by
 have hsh:WShape.hasAll [] args [.list .int]=true:=(pre_splitW hpre).1;have hc:l.pre.holds [] { args:=args }=true:=(pre_splitW hpre).2;obtain ⟨d,r,rfl,h1,h2⟩:=hasAllW_cons hsh;obtain rfl:=hasAllW_nil h2;obtain ⟨xs,rfl,h3⟩:=hasW_list h1;obtain ⟨ns,rfl⟩:=items_int h3
 have hlen:ns.length<=n:=by
  unfold OpenLaw.pre at hc
  have h4:(WTm.not (.lt (.lit (.int (n:Int))) (.len (.arg 0)))).holds [] { args:=[.list (ns.map .int)] }=true:=by
   have h4:=(holds_andW hc).1;rw [hn] at h4;exact h4
  have h5:=condW_of h4 (w_not (w_lt w_lit (w_len_list (w_arg rfl))));rw [qdA] at h5;refine Nat.le_of_not_lt fun q=>?_;have q':(n:Int)<((ns.length:Nat):Int):=by omega
  first
   | (rw [decide_eq_true q'] at h5;exact absurd h5 (by decide))
   | (simp at h5;omega)
 cases hwl with
 | cons w1 w2 =>
  cases w2
  cases w1 with
  | list ho hall=>exact ⟨_,_,ns,rfl,rfl,ho,Gr ns _ hall,hlen⟩
theorem MI (l:OpenLaw)(args:List WData):l.row.toRowW.claim.post args (.bool true) args=true :=
 postW_of (r:=l.row.toRowW) (X:=(true == true))
  (show WShape.has [] (.bool true) .bool=true by first|rfl|decide|simp [WShape.has,WShape.arms,WShape.armsAll])
  (show (WTm.eq .res (.lit (.bool true))).value [] { args:=args,res:=some (.bool true),after:=args }=some (.bool (true == true)) from w_eq_bool (w_res rfl) w_lit) rfl
theorem attach_call {l:OpenLaw}{n:Nat}{q:Program}{loose:List Str}{XP:(Str->Option Value)->Heap->Prop}{YP:World->Heap->Prop}{d:DefRec}
  (hn:l.most=some n) (hdf:d.params.defaults=[])
  (call:∀ (w:World) (s₀ s₁:Shared) (mg mb:Str->Option Value) (fa:Addr) (o:Obj) (pm cd doc:Value) (a:Addr) (vs:List Value) (ns:List Int),
   Ground q loose [] XP w s₀ mg mb s₁.heap->YP w s₁.heap ->
   s₁.heap.get? fa=some o->o.data = .func (docDef d.name d.params d.body d.scope pm cd doc)->s₁.heap.CodeRec cd d.name->mg d.name=some (.ref fa) ->
   s₁.heap.get? a=some { cls:=.type "list",data:=.seq vs.toArray }->IntsAre vs ns->ns.length<=n->s₁.gens = #[] ->
   codeAny (model l.prog w) callerA (.call (.ref fa) ⟨[.ref a],[]⟩) (fun r s'=>r = .ok (.ret (.bool true))/\OldK s₁.heap s'.heap/\s'.os=s₁.os/\AllBare s'.gens) s₁) :
  WalkO q loose XP YP l.row.toRowW d [] (fun f vs=>PySem.call f vs):=by
 intro w s₀ s₁ mg mb G Y fa o pm cd doc dV kV ho hd hcd hD hmg hg args vals as hpre hlay hrd hwl hlo;obtain rfl:dV = .none:=Dflts.none hD hdf;obtain rfl:kV = .none:=Dflts.noKw hD;obtain ⟨a,vs,ns,rfl,rfl,hobj,hints,hlen⟩:=M4 hn hpre hwl;refine enter_call (codeAny_mono (call w s₀ s₁ mg mb fa o pm cd doc a vs ns G Y ho (fd_plain hd) hcd hmg hobj hints hlen hg) fun r s' hq=>?_);obtain ⟨rfl,h2,h3,h4⟩:=hq;exact ⟨.inl ⟨.bool true,.bool true,[],rfl,fun _=>rfl,.bool true,MI l _,fun _=>⟨List.Pairwise.nil,fun _ hm=>(nomatch hm)⟩⟩,h2,h3,h4⟩
end Att
namespace L2
open PySem PySem.Spec PyProof.Rows
theorem GY:∀ {vs:List Value}{ns:List Int},IntsAre vs ns->Vals (ns.map V.int) vs
 | _,_,.nil=>.nil
 | _,_,.cons n t h=>.cons ⟨t,rfl⟩ (GY h)
def Only (H:Hp):Prop:=∀ b,H b=none\/∃ o xs,H b=some (.frz o (.lst xs))
theorem law_call {P:Program}{w:World}{K:FZ9}{mg mb:Str->Option Value}{CX:CXT}{k:Nat}{fa a:Addr}{fd:FuncData}{x:Str}{sp:Sp}{s₁:Shared}{vs:List Value}{ns:List Int}
  (KX:K.In s₁.heap) (hns:s₁.heap.Ns mainGlobals mg) (hb:s₁.heap.Ns builtinsNs mb) (hbb:∀ x:Str,x ≠ "__name__" -> mb x=bootBuiltins x) (hlim:s₁.heap.NoLimit) (hg:s₁.gens = #[])
  (ha:s₁.heap.get? a=some { cls:=.type "list",data:=.seq vs.toArray }) (hi:IntsAre vs ns) (hl:ns.length<=sizeLine) (hr:Room k callerA)
  (F:∀ base:Heap,K.In base->base.Ns mainGlobals mg->FnOk P w K mg base CX k fa fd [x] sp) (hbind:∀ (s:Shared) (u:Value),BindsTo s fd ⟨[u],[]⟩ [(x,u)])
  (hsp:∀ H:Hp,Only H->SqL K H a (ns.map V.int)->sp [.ref a] H (fun v _=>v = .bl true) fun _ _ _=>False)
  (hCX:∀ H e s',CX [] H s₁ (fun _ _ _=>False) e s'->False) :
  codeAny (model P w) callerA (.call (.ref fa) ⟨[.ref a],[]⟩) (fun r s'=>r = .ok (.ret (.bool true))/\OldK s₁.heap s'.heap/\s'.os=s₁.os/\AllBare s'.gens) s₁:=by
 have rv:=GY hi;have lenV:=hi.length
 have core:∀ H:Hp,Only H->SqL K H a (ns.map V.int)->HOk P w H s₁.heap->(∀ b,H b≠none->b=a)->(H a≠none->K.lookup a=none) ->
   codeAny (model P w) callerA (.call (.ref fa) ⟨[.ref a],[]⟩) (fun r s'=>r = .ok (.ret (.bool true))/\OldK s₁.heap s'.heap/\s'.os=s₁.os/\AllBare s'.gens) s₁:=by
  intro H hO hS hok hA hK;have base_of:∀ {b:Addr}{o:Obj},s₁.heap.get? b=some o->H b=none->(Ju s₁.heap H).get? b=some o:=fun e n=>hidT_get e n
  have noA:∀ {b:Addr}{o:Obj}{es:Array DictEntry}{ep:Nat},s₁.heap.get? b=some o->o.data = .dict es ep->H b=none:=fun {b o es ep} e d=>by
   cases q:H b with
   | none=>rfl
   | some u =>
    have e':b=a:=hA b (by rw [q];simp);subst e';rw [ha] at e;cases e;have d':Data.seq vs.toArray _=Data.dict es ep:=d;cases d'
  have nsK:∀ {b:Addr}{m:Str->Option Value},s₁.heap.Ns b m->(Ju s₁.heap H).Ns b m:=fun {b m} ⟨o,es,ep,e,d,r⟩=>⟨o,es,ep,base_of e (noA e d),d,r⟩
  have hKb:K.In (Ju s₁.heap H):=fun b o e=>base_of (KX b o e) (by
   cases q:H b with
   | none=>rfl
   | some u =>
    have e':b=a:=hA b (by rw [q];simp);subst e'
    rw [hK (by rw [q];simp)] at e;cases e)
  have hM:Mod K mg (Ju s₁.heap H):=⟨hKb,nsK hns,⟨mb,nsK hb,hbb⟩,let ⟨mc,h1,h2⟩:=hlim;⟨mc,nsK h1,h2⟩⟩;have e0:Env0 P w K mg (Ju s₁.heap H) callerA [] s₁ H:=⟨rfl,hM,fun b o e=>of_hidT e,Nat.le_of_eq (M9 _ _),trivial,fun b hb=>absurd (show b∈([]:List Addr) from hb) (by simp),hok,.of_eq hg⟩;refine codeAny_mono ((F _ hKb (nsK hns)).run callerA [] s₁ H ⟨[.ref a],[]⟩ [.ref a] [.ref a] _ _ hr e0 (hbind s₁ (.ref a)) (.cons rfl .nil) (hsp H hO hS)) fun r s' h=>?_
  cases r with
  | error e=>exact (hCX H e s' h).elim
  | ok fl =>
   cases fl with
   | next=>exact False.elim h
   | brk=>exact False.elim h
   | cont=>exact False.elim h
   | ret u =>
    obtain ⟨v,H',os,bare,un,hok',r',q⟩:=h;have q':v = .bl true:=q;subst q';obtain rfl:u=Value.bool true:=r';refine ⟨rfl,OldK.of_keep fun b o e=>?_,os,bare⟩
    cases q:H b with
    | none=>exact un.keep b o e q (by intro z;exact absurd (show b∈([]:List Addr) from z) (by simp)) (by simp)
    | some u =>
     rcases hO b with z | ⟨ob,xs,z⟩
     ·rw [q] at z;cases z
     ·have z2:=un.frzs b ob _ z;obtain ⟨e1,_⟩:=hok b _ z;obtain ⟨e2,_⟩:=hok' b _ z2;rw [e] at e1;cases e1;exact e2
 cases hk:K.lookup a with
 | some o =>
  have e:=KX a o hk;rw [ha] at e;cases e;refine core (fun _=>none) (fun _=>.inl rfl) (.inr ⟨_,vs.toArray,_,hk,rfl,rfl,rfl,by rw [qkB,lenV];exact hl,by simpa using rv⟩) (fun b u z=>by have z':(none:Option HO)=some u:=z;cases z') (fun b z=>absurd rfl z) fun z=>absurd rfl z
 | none =>
  refine core (fun b=>if b=a then some (.frz { cls:=.type "list",data:=.seq vs.toArray } (.lst (ns.map V.int))) else none) (fun b=>?_) (.inl (.inr ⟨{ cls:=.type "list",data:=.seq vs.toArray },if_pos rfl⟩)) (fun b u z=>?_) (fun b z=>?_) fun _=>hk
  ·by_cases hb:b=a
   ·exact .inr ⟨_,_,if_pos hb⟩
   ·exact .inl (if_neg hb)
  ·by_cases hb:b=a
   ·have z':=(if_pos hb).symm.trans z;cases z';subst hb;exact ⟨ha,by rw [qdA];exact hl,vs,_,rv,ha⟩
   ·have z':=(if_neg hb).symm.trans z;cases z'
  ·by_cases hb:b=a
   ·exact hb
   ·exact absurd (if_neg hb) z
theorem walk_of {l:PySem.W.OpenLaw}{n k:Nat}{q:Program}{loose:List Str}{XP:(Str->Option Value)->Heap->Prop}{YP:World->Heap->Prop}{d:DefRec}{K:Params->FZ9}{CX:World->CXT}{sp:World->Sp}{x:Str}
  (hn:l.most=some n) (hn2:n<=sizeLine) (hdf:d.params.defaults=[]) (hr:Room k callerA)
  (hY:∀ (w:World) (h:Heap),YP w h->(K w.params).In h)
  (F:∀ (w:World) (mg:Str->Option Value) (fa:Addr) (h:Heap),(K w.params).In h->h.Ns mainGlobals mg->mg d.name=some (.ref fa) ->
   ∃ fd:FuncData,(∀ (s:Shared) (u:Value),BindsTo s fd ⟨[u],[]⟩ [(x,u)]) /\
    ∀ base:Heap,(K w.params).In base->base.Ns mainGlobals mg->FnOk l.prog w (K w.params) mg base (CX w) k fa fd [x] (sp w))
  (hsp:∀ (w:World) (H:Hp) (a:Addr) (ns:List Int),ns.length<=n->Only H->SqL (K w.params) H a (ns.map V.int)->sp w [.ref a] H (fun v _=>v = .bl true) fun _ _ _=>False)
  (hCX:∀ (w:World) (H:Hp) (s:Shared) (e:Value) (s':Shared),CX w [] H s (fun _ _ _=>False) e s'->False) :
  PySem.W.WalkO q loose XP YP l.row.toRowW d [] (fun f vs=>PySem.call f vs):=by
 refine Att.attach_call hn hdf fun w s₀ s₁ mg mb fa o pm cd doc a vs ns G Y ho hd hcd hmg hobj hints hlen hg=>?_;have KX:=hY w _ Y;obtain ⟨fd,hb,hF⟩:=F w mg fa _ KX G.T.g hmg;exact law_call KX G.T.g G.T.b G.T.builtins G.T.nolimit hg hobj hints (qyA hlen hn2) hr hF hb (fun H hO hS=>hsp w H a ns hlen hO hS) fun H e s'=>hCX w H s₁ e s'
def De (s:Stmt):Arguments:=match s with
 | .FunctionDef _ a _ _ _ _ _ _ _ _=>a
 | _=>{ posonlyargs:=[],args:=[],vararg:=none,kwonlyargs:=[],kw_defaults:=[],kwarg:=none,defaults:=[] }
def CN (s:Stmt):List Stmt:=match s with
 | .FunctionDef _ _ b _ _ _ _ _ _ _=>b
 | _=>[]
def AE (s:Stmt):Scope:=match s with
 | .FunctionDef _ _ _ _ _ _ sc _ _ _=>sc
 | _=>{ kind:=.function,names:=[],isGenerator:=false,isCoroutine:=false }
abbrev CX0:CXT:=fun _ _ _ _ _ _=>False
abbrev E0:XK:=fun _ _ _=>False
theorem pass0 {X:Cx}:Km CX0 X E0:=fun _ _ _ _ _ _ _ h=>h.elim
structure Fun (K:FZ9)(x qual:Str)(st:Stmt)(f:Addr)(fd:FuncData):Prop where
 ex:∃ (oc:Value) (od:Option Addr) (kV doc pm:Value) (an:Option Addr) (cdv ct:Value) (osl:Array (Option Value)),
  fd=qmB x qual (De st) (CN st) (AE st) .none kV doc pm an cdv ct/\K.lookup f=some ⟨oc,od,.func fd,osl⟩/\PySem.W.codeIn K cdv qual=true
 kp:PySem.W.keepIn K (.ref f)=true
section
variable {P:Program}{w:World}{K:FZ9}{mg:Str->Option Value}{base:Heap}
theorem Fun.ok {x qual:Str}{st:Stmt}{f:Addr}{fd:FuncData}{N ps:List Str}{k:Nat}{sp:Sp}(F:Fun K x qual st f fd)(S:FnScope N ps (AE st))(len:∀ vs H Q E,sp vs H Q E->vs.length=ps.length)
  (hbody:∀ (cdv:Value) (A:Around) (outer:List Env) (s:Shared) (H:Hp) (vs:List V) (Q:VK) (E:XK),Room k (A.deeper (envOfC qual (AE st) s.heap.objs.size f cdv))->sp vs H Q E ->
   ∃ t,PSs (JK CX0 P w K mg base N qual (AE st) f cdv A outer s H E).nox (CN st) t/\t { nx:=fun _ H'=>Q .non H',rt:=Q } (start N vs) H):FnOk P w K mg base CX0 (k+1) f fd ps sp:=by
 obtain ⟨oc,od,kV,doc,pm,an,cdv,ct,osl,rfl,lk,hcd⟩:=F.ex;refine fn_of lk hcd S len fun A outer s H vs Q E hr hsp=>?_;obtain ⟨t,h,q⟩:=hbody cdv A outer s H vs Q E hr hsp;exact ⟨t,h.nox,q⟩
theorem Fun.binds {x qual:Str}{st:Stmt}{f:Addr}{fd:FuncData}{ps:List Str}(F:Fun K x qual st f fd)
  (h:∀ (kV doc pm:Value) (an:Option Addr) (cdv ct:Value) (us:List Value),us.length=ps.length->bindArgs (qmB x qual (De st) (CN st) (AE st) .none kV doc pm an cdv ct) ⟨us,[]⟩=pure (ps.zip us)):Binds K fd ps []:=by
 obtain ⟨oc,od,kV,doc,pm,an,cdv,ct,osl,rfl,lk,hcd⟩:=F.ex;exact .all (h kV doc pm an cdv ct)
theorem fun_mk {x qual:Str}{st:Stmt}{f:Addr}{oc:Value}{od an:Option Addr}{osl:Array (Option Value)}{kV doc pm cdv ct:Value}(l:K.lookup f=some ⟨oc,od,.func (qmB x qual (De st) (CN st) (AE st) .none kV doc pm an cdv ct),osl⟩)
  (c:PySem.W.codeIn K cdv qual=true) (k:PySem.W.keepIn K (.ref f)=true):Fun K x qual st f (qmB x qual (De st) (CN st) (AE st) .none kV doc pm an cdv ct):=⟨⟨oc,od,kV,doc,pm,an,cdv,ct,osl,rfl,l,c⟩,k⟩
end
section
variable {X:Cx}
theorem pv (i:Nat){x:Str}{pos:Pos}(hN:X.N[i]? = some x:=by rfl)(hv:Vis X.env.scope x:=by first|exact Or.inl rfl|exact Or.inr (Or.inl rfl)|exact Or.inr (Or.inr rfl))(hd:(x == ("__debug__" : Str))=false:=by decide)
  (hcd:(x == ("__classdict__" : Str))=false:=by decide):PE X (.Name x pos) (GJ i):=pe_var hN hv hd hcd
end
theorem Ba {A B:Prop}(h:B):if false=true then A else B:=by
 rw [if_neg qjB];exact h
theorem Bd {A B:Prop}(h:A):if true=true then A else B:=by
 rw [if_pos rfl];exact h
def Same (H H':Hp):Prop:=∀ b o,H b=some o->H' b=some o
theorem Same.refl (H:Hp):Same H H:=fun _ _ h=>h
theorem Same.trans {H H1 H2:Hp}(a:Same H H1)(b:Same H1 H2):Same H H2:=fun c o h=>b c o (a c o h)
theorem Same.free {H H':Hp}(e:Same H H'){l:Addr}(h:H' l=Option.none):H l=Option.none:=by
 cases q:H l with
 | none=>rfl
 | some o =>
  rw [e l o q] at h;cases h
theorem Same.seq {K:FZ9}{H H':Hp}{a:Addr}{xs:List V}(e:Same H H')(h:SqL K H a xs):SqL K H' a xs:=by
 rcases h with (h | ⟨o,h⟩)|h
 ·exact .inl (.inl (e _ _ h))
 ·exact .inl (.inr ⟨o,e _ _ h⟩)
 ·exact .inr h
theorem len_app (x y:Str):(x++y).length=x.length+y.length:=by
 show (x.cps++y.cps).size=_;rw [Array.size_append]
 rfl
theorem LT (a b:Nat):([a] < [b]) ↔ a<b:=by
 rw [List.cons_lt_cons_iff];simp
def Hl (scope:Scope)(env:Env):List (Str × Addr) :=
 (scope.names.filterMap fun p=>if p.2 == NameKind.free then (env.cells.lookup p.1).map fun c=>(p.1,c) else none).reverse
theorem EH {env:Env}:∀ (names:List (Str × NameKind)) (acc:List (Str × Addr)),(∀ y∈names,y.2 = .free->∃ c,env.cells.lookup y.1=some c) ->
  (forIn names acc fun (x:Str × NameKind) (cs:List (Str × Addr))=>(match x with
   | (name,kind)=>if (kind == NameKind.free)=true then do
     let c <- cellOf env name
     pure (ForInStep.yield ((name,c)::cs))
    else pure (ForInStep.yield cs):Sem (ForInStep (List (Str × Addr))))) =
   pure ((names.filterMap fun p=>if p.2 == NameKind.free then (env.cells.lookup p.1).map fun c=>(p.1,c) else none).reverse++acc)
 | [],acc,_=>rfl
 | (n,k)::r,acc,h=>by
  rw [List.forIn_cons];by_cases hk:k = .free
  ·subst hk;obtain ⟨c,hc⟩:=h (n,.free) qoA rfl;have e1:cellOf env n=pure c:=by unfold cellOf;rw [hc]
   have ih:=EH r ((n,c)::acc) fun y hy=>h y (qpA _ hy);simp only [beq_self_eq_true,if_true,e1,pure_bind,List.filterMap_cons,hc,Option.map_some,List.reverse_cons,qvA,List.singleton_append];exact ih
  ·have hb:(k == NameKind.free)=false:=by simpa using hk
   have ih:=EH r acc fun y hy=>h y (qpA _ hy);simp only [hb,Bool.false_eq_true,if_false,pure_bind,List.filterMap_cons];exact ih
theorem IS {scope:Scope}{env:Env}(h:∀ y∈scope.names,y.2 = .free->∃ c,env.cells.lookup y.1=some c):closureFor scope env=pure (Hl scope env):=by
 have e:=EH (env:=env) scope.names [] h;unfold closureFor;rw [qwA] at e;exact (congrArg (· >>= pure) e).trans (by rfl)
theorem clOf_mem {scope:Scope}{env:Env}{y:Str}{c:Addr}(h:(y,c)∈Hl scope env):(y,NameKind.free)∈scope.names/\env.cells.lookup y=some c:=by
 unfold Hl at h;obtain ⟨⟨n,k⟩,hp,e⟩:=List.mem_filterMap.mp (List.mem_reverse.mp h);by_cases hk:k = .free
 ·subst hk;simp only [beq_self_eq_true,if_true] at e
  cases hc:env.cells.lookup n with
  | none=>rw [hc] at e;cases e
  | some c' =>
   rw [hc] at e;have e':(n,c')=(y,c):=qaB e;cases e';exact ⟨hp,hc⟩
 ·have hb:(k == NameKind.free)=false:=by simpa using hk
  simp only [hb,Bool.false_eq_true,if_false] at e;cases e
theorem E8 {scope:Scope}{env:Env}{y:Str}{c:Addr}(h:(Hl scope env).lookup y=some c):env.cells.lookup y=some c:=(clOf_mem (PySem.mem_of_lookup h)).2
theorem FO {α:Type}{y:Str}:∀ {l:List (Str × α)}{c:α},(y,c)∈l->∃ c',l.lookup y=some c'
 | (n,a)::r,c,h=>by
  by_cases e:y=n
  ·subst e;exact ⟨a,by simp [List.lookup_cons]⟩
  ·have hb:(y == n)=false:=by simpa using e
   rcases qkA.mp h with h|h
   ·cases h;exact absurd rfl e
   ·obtain ⟨c',h'⟩:=FO h;exact ⟨c',by simp [List.lookup_cons,hb,h']⟩
theorem K1 {scope:Scope}{env:Env}{y:Str}{c:Addr}(h1:(y,NameKind.free)∈scope.names)(h2:env.cells.lookup y=some c):(Hl scope env).lookup y=some c:=by
 have m:(y,c)∈Hl scope env:=by
  unfold Hl;exact List.mem_reverse.mpr (List.mem_filterMap.mpr ⟨(y,.free),h1,by simp [h2]⟩)
 obtain ⟨c',h'⟩:=FO m;have:=E8 h';rw [h2] at this;cases this;exact h'
theorem JO {scope:Scope}{env:Env}(hcell:∀ y∈scope.names,y.2 ≠ .cell){y:Str}(h:(relabel scope env).names.lookup y=some .cell\/(relabel scope env).names.lookup y=some .free):(y,NameKind.free)∈scope.names:=by
 have m:∃ k,(k = .cell\/k = .free)/\(y,k)∈(relabel scope env).names:=by
  rcases h with h|h
  ·exact ⟨_,.inl rfl,PySem.mem_of_lookup h⟩
  ·exact ⟨_,.inr rfl,PySem.mem_of_lookup h⟩
 obtain ⟨k,hk,hm⟩:=m;unfold relabel at hm;obtain ⟨⟨n,k'⟩,hp,e⟩:=qmA.mp hm;dsimp only at e;by_cases hf:k' = .free
 ·subst hf;split at e<;>(cases e;exact hp)
 ·have hb:(k' == NameKind.free)=false:=by simpa using hf
  rw [hb,Bool.false_and,Bool.false_and,if_neg (by decide)] at e;cases e;rcases hk with hk|hk
  ·exact absurd hk (hcell _ hp)
  ·exact absurd hk hf
def CG (X:Cx)(N:List Str)(scope:Scope)(C:Addr)(s:Shared)(H:Hp)(fp:List Addr):Cx where
 prog:=X.prog
 w:=X.w
 K:=X.K
 mg:=X.mg
 base:=X.base
 A:=X.A
 N:=N
 s₀:=s
 H₀:=H
 env:=compEnvC scope (Hl scope X.env) C X.env
 outer:=X.stack
 stack:=X.stack
 ex:=fp
 fn:=fun _=>false
 calm:=true
 pn:=[]
 xe:=fun _ _=>False
def Caps (X:Cx)(scope:Scope):List Str->List Nat->Prop
 | [],[]=>True
 | x::xs,i::is=>(X.N[i]? = some x/\(X.env.scope.names.lookup x=some .cell\/X.env.scope.names.lookup x=some .free)/\scope.names.lookup x=some .free)/\Caps X scope xs is
 | _,_=>False
theorem Caps.len {X:Cx}{scope:Scope}:∀ {xs:List Str}{is:List Nat},Caps X scope xs is->is.length=xs.length
 | [],[],_=>rfl
 | _::_,_::_,h=>congrArg (· + 1) (Caps.len h.2)
 | [],_::_,h=>h.elim
 | _::_,[],h=>h.elim
theorem Caps.at {X:Cx}{scope:Scope}:∀ {xs:List Str}{is:List Nat}{j:Nat}{x:Str},Caps X scope xs is->xs[j]? = some x->∃ i,is[j]? = some i/\X.N[i]? = some x/\(X.env.scope.names.lookup x=some .cell\/X.env.scope.names.lookup x=some .free)/\scope.names.lookup x=some .free
 | [],[],_,_,_,e=>by simp at e
 | y::_,i::_,0,x,h,e=>by
  simp at e;subst e;exact ⟨i,rfl,h.1⟩
 | _::xs,_::is,j+1,x,h,e=>by
  obtain ⟨i,h1,h2⟩:=Caps.at (j:=j) h.2 (by simpa using e);exact ⟨i,by simpa using h1,h2⟩
 | [],_::_,_,_,h,_=>h.elim
 | _::_,[],_,_,h,_=>h.elim
def D0 (cap:List Nat)(σ:St):St:=none::cap.map fun i=>(σ[i]?).join
def PTs (X:Cx)(ifs:List Expr)(t:TT):Prop :=
 ∀ (pins:List (Addr × Obj)) (s:Shared) (σ:St) (H:Hp) (Q:Bool->Hp->Prop),Inv X pins σ H s->t σ H Q ->
  wpAny (model X.prog X.w) X.A (forIn ifs true fun c r=>if r=true then do let ok <- isTrue c X.env (eval c X.env);pure (ForInStep.yield ok) else pure (ForInStep.yield r)) (TP X pins σ Q) X.xe s
def tYes:TT:=fun _ H Q=>Q true H
theorem BS {X:Cx}:PTs X [] tYes:=fun _ _ _ H _ I h=>wpAny_tests_nil ⟨H,I,h⟩
theorem Jl {prog:Program}{w:World}{A:Around}{R:Result->Shared->Prop}{s:Shared}{elt target iter:Expr}{ifs:List Expr}{scope:Scope}{pos:Pos}{it acc:Value}{env:Env}(I:Nat->Shared->Prop)
  (turn:∀ n s,I n s->wpAny (model prog w) A (pyNext it) (fun r s₁=>match r with
   | none=>R (.ok .next) s₁
   | some v=>wpAny (model prog w) A (letOwnedTupleGo target it v) (fun _ s₁'=>wpAny (model prog w) A (assign target env v) (fun _ s₂ =>
     wpAny (model prog w) A (forIn ifs true fun c r=>if r=true then do let ok <- isTrue c env (eval c env);pure (ForInStep.yield ok) else pure (ForInStep.yield r)) (fun ok s₃ =>
      if ok=true then wpAny (model prog w) A (eval elt env) (fun x s₄ =>
       wpAny (model prog w) A (call (.builtin "list.append") [acc,x]) (fun _ s₅=>∃ m,m<n/\I m s₅) (fun _ _=>False) s₄) (fun _ _=>False) s₃
      else ∃ m,m<n/\I m s₃) (fun _ _=>False) s₂) (fun _ _=>False) s₁') (fun _ _=>False) s₁) (fun _ _=>False) s)
  (n:Nat) (h:I n s) :
  codeAny (model prog w) A (.compLoop (.ListComp elt [⟨target,iter,ifs,0⟩] scope pos) 0 it acc env) R s:=by
 refine codeAny_loop rfl I (fun n s hI=>?_) n h;show wpAny _ A ((compTurn (.ListComp elt [⟨target,iter,ifs,0⟩] scope pos) 0 it acc env).onRaise (fun x=>do noteFrame x env;theTreesLotGoes x)) _ _ s;refine wpAny_noted ?_;rw [compTurn_list];refine qbA (wpAny_standAt (qbA (wpAny_mono (turn n s hI) (fun r s₁ h₁=>?_) fun _ _ h'=>h'.elim)))
 cases r with
 | none=>exact qcA h₁
 | some v =>
  refine qbA (wpAny_mono h₁ (fun _ s₁' h₁'=>?_) fun _ _ h'=>h'.elim);refine qbA (wpAny_mono h₁' (fun _ s₂ h₂=>qbA (wpAny_mono h₂ (fun ok s₃ h₃=>?_) fun _ _ h'=>h'.elim)) fun _ _ h'=>h'.elim)
  cases ok with
  | false=>exact qcA ⟨rfl,h₃⟩
  | true =>
   exact qbA (qbA (wpAny_mono h₃ (fun x s₄ h₄=>qbA (wpAny_mono h₄ (fun _ s₅ h₅=>qcA (qcA ⟨rfl,h₅⟩)) fun _ _ h'=>h'.elim)) fun _ _ h'=>h'.elim))
def Lq (cap:List Nat)(wi:TI)(tc:TT)(te:TE):TE:=fun σ H Q=>wi σ H fun J H1=>∀ p,H1 p=none ->
 ∃ W:Nat->Nat->List V->Hp->Prop,(∃ m,W 0 m [] (upd H1 p (.lst [])))/\∀ i m xs H2,W i m xs H2 ->
  (J.stop i H2/\Q (.ref p) H2)\/(J.go i H2/\∃ N:List V->Hp->Prop,(∀ xs' H',N xs' H'->∃ m',m'<m/\W (i+1) m' xs' H') /\
   ∀ x H3,J.yld i H2 x H3->tc ((D0 cap σ).set 0 (some x)) H3 fun b H5=>if b=true then te ((D0 cap σ).set 0 (some x)) H5 fun v H6=>H6 p=some (.lst xs)/\xs.length<sizeLine/\N (xs++[v]) (upd H6 p (.lst (xs++[v]))) else N xs H5)
section
variable {X:Cx}{pins:List (Addr × Obj)}{σ:St}
structure CompScope (X:Cx)(scope:Scope):Prop where
 cell:∀ y∈scope.names,y.2 ≠ .cell
 kind:scope.kind = .function
 names:∀ y∈scope.names,y.2 = .local -> scope.names.lookup y.1=some .local
 free:∀ y∈scope.names,y.2 = .free->X.env.scope.names.lookup y.1=some .cell\/X.env.scope.names.lookup y.1=some .free
theorem CompScope.clos {scope:Scope}{H:Hp}{s:Shared}(S:CompScope X scope)(I:Inv X pins σ H s):closureFor scope X.env=pure (Hl scope X.env) :=
 IS fun y hy hf=>I.ok.has y.1 (S.free y hy hf)
theorem Kn {scope:Scope}{x:Str}{cn:List Str}{cap:List Nat}{s3:Shared}{H3:Hp}{fp:List Addr}{h₁:Heap}{tk:Nat}{H2:Hp}(S:CompScope X scope)(I:Inv X pins σ H3 s3)(hc:X.calm=true)(hcap:Caps X scope cn cap)
  (f2:∀ b∈fp,HS X pins H2 b) (lt:∀ b∈fp,b<s3.heap.objs.size) (keep:∀ b o,s3.heap.get? b=some o->h₁.get? b=some o) (hns:h₁.Ns s3.heap.objs.size fun _=>none) :
  Inv (CG X (x::cn) scope s3.heap.objs.size s3 H3 fp) [] (D0 cap σ) H3 { s3 with heap:=h₁,toks:=tk }:=by
 have noS:∀ b o,X.base.get? b=some o->b<X.s₀.heap.objs.size:=fun b o e=>qqB (qbB e) I.ok.bsz
 refine ⟨⟨I.ok.mod,S.kind,I.ok.glob,I.ok.blt,qxA _,fun y z c h1 h2=>I.ok.inj y z c (E8 h1) (E8 h2),fun y hy=>?_,fun y c h=>?_,fun _=>I.ok.hd hc,I.ok.frames,.inl rfl,fun b hb=>⟨qoB (lt b hb),fun y c h=>(f2 b hb).2.2.2.2.1 y c (E8 h)⟩,
  I.bs,qyA I.ok.bsz I.sz,fun b o e hb=>?_,fun b hb z=>?_,I.stack,I.stkFree⟩,rfl,I.bare,Un.kept keep,⟨_,hns,fun i y v e1 e2 e3=>?_⟩,fun y c e=>?_,I.hok.fresh (qxA _),fun y c e=>I.freeC y c (E8 e),fun p hp=>absurd (show p∈([]:List (Addr × Obj)) from hp) (by simp),I.hok.kept keep,?_⟩
 ·have m:=JO S.cell hy;obtain ⟨c,hc'⟩:=I.ok.has y (S.free _ m rfl);exact ⟨c,K1 m hc'⟩
 ·cases h
 ·rcases (f2 b hb).2.2.2.1 with z|z
  ·exact I.ok.noex b o e z
  ·exact absurd (qqB (noS b o e) z) (qzA _)
 ·rcases qkA.mp (I.stkSub b z) with e|e
  ·exact (f2 b hb).2.1 e
  ·exact (f2 b hb).2.2.1 e
 ·cases i with
  | zero =>
   have e2:(some none:Option (Option V))=some (some v):=e2;cases e2
  | succ j =>
   have e1:cn[j]? = some y:=e1;obtain ⟨k,hk,hN,hkind,hfr⟩:=hcap.at e1;have e2:(cap.map fun i=>(σ[i]?).join)[j]? = some (some v):=e2;rw [List.getElem?_map,hk] at e2;have e2:(σ[k]?).join=some v:=qaB e2
   have e2:σ[k]? = some (some v):=by
    cases q:σ[k]? with
    | none=>rw [q] at e2;cases e2
    | some o=>rw [q] at e2;cases o with
     | none=>cases e2
     | some v'=>have e2:some v'=some v:=e2;rw [e2]
   obtain ⟨m,hn,hl⟩:=I.loc;obtain ⟨u,r,l⟩:=hl k y v hN e2 (.inr hkind);refine ⟨u,r,?_⟩;rcases l with ⟨kl,_⟩ | ⟨_,c,hc',o,ho,hd⟩
   ·have kl:X.env.scope.names.lookup y=some .local := kl;rw [kl] at hkind;rcases hkind with z|z<;>cases z
   ·refine .inr ⟨?_,c,K1 (PySem.mem_of_lookup hfr) hc',o,keep c o ho,hd⟩;rcases e3 with z|z
    ·
     exfalso;have z:(relabel scope X.env).names.lookup y=some .local := z;have hm:=PySem.mem_of_lookup z;unfold relabel at hm;obtain ⟨⟨n,k'⟩,hp,e⟩:=qmA.mp hm;dsimp only at e
     have hl2:(y,NameKind.local)∈scope.names:=by
      split at e
      ·cases e
      ·cases e;exact hp
     have:=S.names _ hl2 rfl;rw [hfr] at this;cases this
    ·exact z
 ·obtain ⟨v,o,ho,hd⟩:=I.cell y c (E8 e);exact ⟨v,o,keep c o ho,hd⟩
 ·show (D0 cap σ).length=(x::cn).length;unfold D0;rw [qfA,qdA,hcap.len,qfA]
theorem KA {scope:Scope}{N:List Str}{C:Addr}{s3 s':Shared}{H2 H3 Hf:Hp}{fp:List Addr}{pins':List (Addr × Obj)}{σ':St}(I:Inv X pins σ H3 s3)(J:Inv (CG X N scope C s3 H3 fp) pins' σ' Hf s')(f2:∀ b∈fp,HS X pins H2 b):Inv X pins σ Hf s' :=
 I.call' (ch:=fp) J.os J.base J.hok J.bare fun b hb=>⟨(f2 b hb).2.2.2.1,(f2 b hb).2.1,(f2 b hb).2.2.2.2.1,(f2 b hb).2.2.2.2.2⟩
theorem Ik {scope:Scope}{x:Str}{px pos:Pos}{elt iter:Expr}{ifs:List Expr}{cn:List Str}{cap:List Nat}{s2:Shared}{H2:Hp}{it:Addr}{fp:List Addr}{tn:Nat->Heap->Prop}{J:It}{tc:TT}{te:TE}{Q:VK}{RR:Value->Addr->Result->Shared->Prop}{E:Value->Shared->Prop}
  (S:CompScope X scope) (I2:Inv X pins σ H2 s2) (hc:X.calm=true) (hcap:Caps X scope cn cap) (hx:scope.names.lookup x=some .local) (hnd:(x::cn).Nodup)
  (T:Turn X.prog X.w X.K (.Name x px) J fp it tn) (st2:tn 0 s2.heap) (f2:∀ b∈fp,HS X pins H2 b)
  (body:∀ (C:Addr) (s:Shared) (H:Hp) (fp:List Addr),PTs (CG X (x::cn) scope C s H fp) ifs tc/\PE (CG X (x::cn) scope C s H fp) elt te)
  (q:∀ p,H2 p=none->∃ W:Nat->Nat->List V->Hp->Prop,(∃ m,W 0 m [] (upd H2 p (.lst [])))/\∀ i m xs H3,W i m xs H3 ->
   (J.stop i H3/\Q (.ref p) H3)\/(J.go i H3/\∃ N:List V->Hp->Prop,(∀ xs' H',N xs' H'->∃ m',m'<m/\W (i+1) m' xs' H') /\
    ∀ v H4,J.yld i H3 v H4->tc ((D0 cap σ).set 0 (some v)) H4 fun b H5=>if b=true then te ((D0 cap σ).set 0 (some v)) H5 fun v H6=>H6 p=some (.lst xs)/\xs.length<sizeLine/\N (xs++[v]) (upd H6 p (.lst (xs++[v]))) else N xs H5))
  (hRR:∀ (p C:Addr) (s3 s':Shared) (H3 Hf:Hp) (σ':St),Inv X pins σ H3 s3->s3.heap.objs.size=C->Inv (CG X (x::cn) scope C s3 H3 fp) [] σ' Hf s'->Q (.ref p) Hf->RR (.ref p) C (.ok .next) s') :
  wpAny (model X.prog X.w) X.A (newList []) (fun acc s₃=>wpAny (model X.prog X.w) X.A (newFunctionEnv scope X.env.globals (Hl scope X.env) [] X.env.qual none .none (some X.env)) (fun cenv s₄ =>
   codeAny (model X.prog X.w) X.A (.compStart (.ListComp elt [⟨.Name x px,iter,ifs,0⟩] scope pos) 0 (.ref it) acc { cenv with scope:=relabel scope X.env }) (RR acc cenv.locals) s₄) E s₃) E s2:=by
 refine wpAny_newObj_type (wpAny_newFunctionEnv S.cell (by intro y hy;simp at hy) (fun h₁ hns₁ hsb₁=>?_) S.kind);dsimp only at hns₁ hsb₁ ⊢;have hfr:H2 s2.heap.objs.size=none:=I2.hok.fresh (qxA _);obtain ⟨W,⟨m0,w0⟩,turn⟩:=q _ hfr
 have I3:Inv X pins σ (upd H2 s2.heap.objs.size (.lst [])) { s2 with heap:=s2.heap.push { cls:=.type "list",data:=.seq ([]:List Value).toArray } } :=
  I2.lnew (its:=[]) (t':=s2.toks) .nil (qtB _)
 generalize hs3:({ s2 with heap:=s2.heap.push { cls:=.type "list",data:=.seq ([]:List Value).toArray } }:Shared)=s3 at I3;have hs3h:s3.heap=s2.heap.push { cls:=.type "list",data:=.seq ([]:List Value).toArray }:=by rw [<- hs3]
 have hst3:tn 0 s3.heap:=T.keep _ _ _ st2 fun b hb o e=>by rw [hs3h];exact qcB _ e
 have ltf:∀ b∈fp,b<s3.heap.objs.size:=fun b hb=>by
  obtain ⟨o,e,_⟩:=T.obj _ _ hst3 b hb;exact qbB e
 have hC:(s2.heap.push { cls:=.type "list",dict:=none,data:=.seq ([]:List Value).toArray }).objs.size=s3.heap.objs.size:=by rw [hs3h]
 rw [hC] at hns₁ hsb₁ ⊢
 have keep:∀ b o,s3.heap.get? b=some o->h₁.get? b=some o:=fun b o e=>by
  refine hsb₁.extBut b o (qoB (qbB e)) (qcB _ ?_);rw [hs3h] at e;exact e
 have J4:Inv (CG X (x::cn) scope s3.heap.objs.size s3 (upd H2 s2.heap.objs.size (.lst [])) fp) [] (D0 cap σ) (upd H2 s2.heap.objs.size (.lst [])) { s3 with heap:=h₁,toks:=s2.toks+([]:List (Str × Value)).length } :=
  Kn S I3 hc hcap f2 ltf keep hns₁
 have st4:tn 0 h₁:=T.keep _ _ _ hst3 fun b hb o e=>keep b o e
 have fr4:∀ b∈fp,(upd H2 s2.heap.objs.size (.lst [])) b=none:=fun b hb=>by
  obtain ⟨o,e,_⟩:=T.obj _ _ st2 b hb;rw [AU (qoB (qbB e))];exact (f2 b hb).1
 have hst:({ s2 with heap:=h₁,toks:=s2.toks+([]:List (Str × Value)).length }:Shared) = { s3 with heap:=h₁,toks:=s2.toks+([]:List (Str × Value)).length }:=by rw [<- hs3]
 have loop:codeAny (model X.prog X.w) X.A (.compLoop (.ListComp elt [⟨.Name x px,iter,ifs,0⟩] scope pos) 0 (.ref it) (.ref s2.heap.objs.size) (compEnvC scope (Hl scope X.env) s3.heap.objs.size X.env))
   (RR (.ref s2.heap.objs.size) s3.heap.objs.size) { s2 with heap:=h₁,toks:=s2.toks+([]:List (Str × Value)).length }:=by
  rw [hst];generalize hX':CG X (x::cn) scope s3.heap.objs.size s3 (upd H2 s2.heap.objs.size (.lst [])) fp=X' at J4
  have hfpk:∀ {Hc:Hp},(∀ b∈fp,Hc b=none)->∀ b∈fp,HS X' [] Hc b:=fun {Hc} hn b hb=>by
   subst hX';refine ⟨hn b hb,(J4.ok.exf b hb).1,J4.ok.exfs b hb,.inl hb,(J4.ok.exf b hb).2,fun p hp=>absurd (show p∈([]:List (Addr × Obj)) from hp) (by simp)⟩
  refine Jl (fun n s'=>∃ i xs Hc,Inv X' [] (D0 cap σ) Hc s'/\tn i s'.heap/\(∀ b∈fp,Hc b=none)/\W i n xs Hc) ?_ m0 ⟨0,[],_,J4,st4,fr4,w0⟩;rintro n s5 ⟨i,xs,Hc,I5,st5,fr5,w5⟩;have B:=body s3.heap.objs.size s3 (upd H2 s2.heap.objs.size (.lst [])) fp;rcases turn i n xs Hc w5 with ⟨stop,qn⟩ | ⟨go,N,hN,step⟩
  ·subst hX';refine thn (T.done (CG X (x::cn) scope s3.heap.objs.size s3 (upd H2 s2.heap.objs.size (.lst [])) fp) rfl rfl rfl rfl i [] s5 (D0 cap σ) Hc (fun _ _=>False) I5 (hfpk fr5) st5 stop) fun r s6 ⟨hr,I6⟩=>?_;subst hr;exact hRR _ _ s3 s6 _ Hc _ I3 rfl I6 qn
  ·subst hX';refine thn (T.item (CG X (x::cn) scope s3.heap.objs.size s3 (upd H2 s2.heap.objs.size (.lst [])) fp) rfl rfl rfl rfl i [] s5 (D0 cap σ) Hc (fun _ _=>False) I5 (hfpk fr5) st5 go) fun r s6 ⟨u,hr,h6⟩=>?_;subst hr;refine thn h6 fun _ s7 ⟨v,H7,I7,r7,y7,st7,fr7⟩=>?_;have I7':=I7.pinned (hfpk fr7) (T.obj _ _ st7);have hlook:(relabel scope X.env).names.lookup x=some .local := lookup_relabel_local hx;refine wpAny_assign_Name (He (X:=CG X (x::cn) scope s3.heap.objs.size s3 (upd H2 s2.heap.objs.size (.lst [])) fp) I7' (i:=0) hnd rfl (.inl hlook) r7 (fun s8 I8=>?_) (.inr hlook))
   have again:∀ {s9:Shared}{H9:Hp}{ys:List V},Inv (CG X (x::cn) scope s3.heap.objs.size s3 (upd H2 s2.heap.objs.size (.lst [])) fp) ([]++Hz fp s7.heap) ((D0 cap σ).set 0 (some v)) H9 s9->N ys H9 ->
     ∃ m,m<n/\∃ i xs Hc,Inv (CG X (x::cn) scope s3.heap.objs.size s3 (upd H2 s2.heap.objs.size (.lst [])) fp) [] (D0 cap σ) Hc s9/\tn i s9.heap/\(∀ b∈fp,Hc b=none)/\W i m xs Hc:=fun {s9 H9 ys} I9 n9=>by
    obtain ⟨m',hm,w9⟩:=hN ys H9 n9;refine ⟨m',hm,i+1,ys,H9,(I9.unpinned (pins:=[])).weak (by simp [D0]) (fun j w e=>?_),T.keep _ _ _ st7 fun b hb o e=>(I9.pin (b,o) (qrB _ (qrB _ (EC hb e)))).1,fun b hb=>?_,w9⟩
    ·cases j with
     | zero =>
      have e:(some none:Option (Option V))=some (some w):=e;cases e
     | succ j=>exact e
    ·obtain ⟨o,e,_⟩:=T.obj _ _ st7 b hb;exact (I9.pin (b,o) (qrB _ (qrB _ (EC hb e)))).2.1
   refine thn (B.1 _ s8 _ H7 _ I8 (step v H7 y7)) fun ok s9 ⟨H9,I9,q9⟩=>?_
   cases ok with
   | false =>
    rw [if_neg qjB] at q9 ⊢;exact again I9 q9
   | true =>
    rw [if_pos rfl] at q9 ⊢;refine thn (B.2 _ s9 _ H9 _ I9 q9) fun uy s10 ⟨y,H10,I10,r10,hp,hl,n10⟩=>?_;refine thn (Iw _ s10 _ H10 (.ref s2.heap.objs.size) [y] (.ref s2.heap.objs.size) [uy] (fun _ H11=>N (xs++[y]) H11) I10 rfl (.cons r10 .nil) ⟨_,xs,y,rfl,rfl,hp,hl,n10⟩) fun _ s11 ⟨_,H11,I11,_,n11⟩=>?_;exact again I11 n11
 exact codeAny_compStart_list loop (T.self _ _ _ _ _ st4 loop)
theorem Bz {scope:Scope}{x:Str}{px pos:Pos}{elt iter:Expr}{ifs:List Expr}{cn:List Str}{cap:List Nat}{wi:TI}{tc:TT}{te:TE}
  (hc:X.calm=true) (S:CompScope X scope) (hx:scope.names.lookup x=some .local) (hnd:(x::cn).Nodup) (hcap:Caps X scope cn cap) (hi:PI X (.Name x px) iter wi)
  (body:∀ (C:Addr) (s:Shared) (H:Hp) (fp:List Addr),PTs (CG X (x::cn) scope C s H fp) ifs tc/\PE (CG X (x::cn) scope C s H fp) elt te)
  (hs:∀ x,foldedSetIterable iter X.env x=pure x:=by intro _;rfl):PE X (.ListComp elt [⟨.Name x px,iter,ifs,0⟩] scope pos) (Lq cap wi tc te):=by
 intro pins s σ H Q I h;rw [eval_ListComp];refine wpAny_comprehension_free (use:=none) rfl hs (S.clos I) S.kind S.names (thn (hi pins s σ H _ I h) fun xv s1 h1=>thn h1 fun itv s2 h2=>?_);obtain ⟨it,fp,tn,J,H2,e,I2,T,st2,f2,q⟩:=h2;subst e;refine Ik (RR:=fun acc C=>compPost (model X.prog X.w) X.A X.xe none (EP X pins σ Q) acc C) S I2 hc hcap hx hnd T st2 f2 body q ?_;intro p C s3 s' H3 Hf σ' I3 hC J' qf;subst hC;have I4:=KA I3 J' f2;obtain ⟨m,hn,_⟩:=J'.loc;refine ⟨m,hn,fun h' hs'=>?_⟩;refine ⟨.ref p,Hf,?_,rfl,qf⟩;have f:=I3.fpOk (H':=Hf) (qxA _) J'.free;exact I4.turned (t':=s'.toks) (it:=s3.heap.objs.size) (fun b o hb e=>(hs'.2 b hb).trans e) f.1 f.2.1 f.2.2.2.1 f.2.2.2.2.1 f.2.2.2.2.2
theorem DS {scope:Scope}{x y:Str}{px py pos spos:Pos}{elt iter:Expr}{ifs:List Expr}{cn:List Str}{cap:List Nat}{wi:TI}{tc:TT}{te:TE}{i:Nat}
  (hN:X.N.Nodup) (hi:X.N[i]? = some y) (hy:Loc X.env.scope y) (hc:X.calm=true) (S:CompScope X scope) (hx:scope.names.lookup x=some .local) (hnd:(x::cn).Nodup) (hcap:Caps X scope cn cap) (hit:PI X (.Name x px) iter wi)
  (body:∀ (C:Addr) (s:Shared) (H:Hp) (fp:List Addr),PTs (CG X (x::cn) scope C s H fp) ifs tc/\PE (CG X (x::cn) scope C s H fp) elt te)
  (hsw:swapsWith (.ListComp elt [⟨.Name x px,iter,ifs,0⟩] scope pos) (some (.Name y py)) spos.line X.env=pure true:=by rfl)
  (hf:X.fn y=true\/X.env.scope.names.lookup y=some .local := by first|exact .inl rfl|exact .inr rfl|assumption)
  (hs:∀ x,foldedSetIterable iter X.env x=pure x:=by intro _;rfl):PS X (.Assign [.Name y py] (.ListComp elt [⟨.Name x px,iter,ifs,0⟩] scope pos) spos) (LN (Lq cap wi tc te) (Es i)):=by
 intro pins s σ H D I h;rw [exec_Assign_Name_used _ _ _ _ hsw];refine qbA (wpAny_standAt (qbA ?_));show wpAny _ X.A (do let _ <- comprehension (.ListComp elt [⟨.Name x px,iter,ifs,0⟩] scope pos) scope X.env _ (newList []) false (eval iter X.env) (some (assign (.Name y py) X.env))) _ _ s
 refine qbA (wpAny_mono (wpAny_comprehension_free (use:=some (assign (.Name y py) X.env)) (Q:=fun _ s'=>SP X pins D .next s') rfl hs (S.clos I) S.kind S.names
  (thn (hit pins s σ H _ I h) fun xv s1 h1=>thn h1 fun itv s2 h2=>?_)) (fun _ s' hq=>qcA (qcA hq)) fun _ _ e=>e)
 obtain ⟨it,fp,tn,J,H2,e,I2,T,st2,f2,q⟩:=h2;subst e;refine Ik (Q:=fun v H1=>Es i v σ H1 D.nx) (RR:=fun acc C=>compPost (model X.prog X.w) X.A X.xe (some (assign (.Name y py) X.env)) (fun _ s'=>SP X pins D .next s') acc C) S I2 hc hcap hx hnd T st2 f2 body q ?_;intro p C s3 s' H3 Hf σ' I3 hC J' qf;subst hC;have I4:=KA I3 J' f2;obtain ⟨m,hn,_⟩:=J'.loc;have f:=I3.fpOk (H':=Hf) (qxA _) J'.free;show wpAny _ X.A (assign (.Name y py) X.env (.ref p)) _ _ _;refine wpAny_assign_Name (Ij (v:=V.ref p) I4 hN hi hy rfl (fun s'' I5 ch=>?_) hf);obtain ⟨a,hsb,ha⟩:=ch
 have hCa:s3.heap.objs.size≠a:=by
  rcases ha with rfl|ha
  ·exact f.2.1
  ·exact fun z=>f.2.2.2.2.1 y a ha z.symm
 refine ⟨m,hn.sameBut hsb hCa,fun h' hs'=>?_⟩;exact ⟨_,Hf,I5.turned (t':=s''.toks) (it:=s3.heap.objs.size) (fun b o hb e=>(hs'.2 b hb).trans e) f.1 f.2.1 f.2.2.2.1 f.2.2.2.2.1 f.2.2.2.2.2,qf⟩
end
theorem Kv:bootBuiltins "len" = some (.builtin "len"):=by decide +kernel
theorem AG:bootBuiltins "isinstance" = some (.builtin "isinstance"):=by decide +kernel
theorem bt_min:bootBuiltins "min" = some (.builtin "min"):=by decide +kernel
theorem HX:bootBuiltins "all" = some (.builtin "all"):=by decide +kernel
theorem J2:bootBuiltins "sorted" = some (.builtin "sorted"):=by decide +kernel
theorem CB:bootBuiltins "list" = some (.type "list"):=by decide +kernel
theorem Ec:bootBuiltins "tuple" = some (.type "tuple"):=by decide +kernel
theorem LC:bootBuiltins "int" = some (.type "int"):=by decide +kernel
theorem DU:bootBuiltins "str" = some (.type "str"):=by decide +kernel
theorem Lb:bootBuiltins "bool" = some (.type "bool"):=by decide +kernel
theorem bt_set:bootBuiltins "set" = some (.type "set"):=by decide +kernel
theorem GF {X:Cx}{x:Str}{i:Int}{pos:Pos}(hg:Gl X x)(h:∃ t,X.mg x=some (.int i t))(hd:(x == ("__debug__" : Str))=false:=by decide):PE X (.Name x pos) (tC (.int i)):=by
 obtain ⟨t,h⟩:=h;exact Lh (u:=.int i t) hg h ⟨t,rfl⟩ hd
def MO (T c:String):Option Bool:=if (T == c)=true then some true else if PySem.W.kitMeta c=true then (fastBuiltinMro T).map (·.contains (.type c)) else none
theorem kit_of {K:FZ9}{T c:String}{b:Bool}(h:MO T c=some b):PySem.W.kitOne K (.type T) (.type c)=some b:=by
 unfold MO at h;unfold PySem.W.kitOne;by_cases e:T=c
 ·subst e;rw [if_pos (by simp)] at h;rw [if_pos (by simp)];exact h
 ·rw [if_neg (by simpa using e)] at h;rw [if_neg (by intro z;exact e (by simpa using z))];exact h
structure DefOk (P:Program)(w:World)(K:FZ9)(mg:Str->Option Value)(base:Heap)(x:Str)(k:Nat)(ps:List Str)(sp:Sp):Prop where
 ex:∃ f fd,FnOk P w K mg base CX0 k f fd ps sp/\mg x=some (.ref f)/\PySem.W.keepIn K (.ref f)=true/\Binds K fd ps []
section
variable {X:Cx}{x:Str}{k j:Nat}{ps:List Str}{sp:Sp}{e:Expr}{es:List Expr}{t:TA}{p pos:Pos}
theorem AK (F:DefOk X.prog X.w X.K X.mg X.base x k ps sp)(hr:Room j X.A)(hj:k<=j)(hg:Gl X x)(ha:PA X (e::es) t)(hdb:(x == ("__debug__" : Str))=false:=by decide)
  (he:starEach (e::es) X.env=(false,eval e X.env)::starEach es X.env:=by rfl) (hpl:(backTo pos (starEach es X.env)).any (·.1)=false:=by rfl) :
  PE X (.Call (.Name x p) (e::es) [] pos) (J6 sp [] E0 t):=by
 obtain ⟨f,fd,G,m,kp,b⟩:=F.ex;exact pe_call G (hr.mono hj) hg m kp b .nil pass0 ha hdb he hpl
end
theorem def_of {P:Program}{w:World}{K:FZ9}{mg:Str->Option Value}{base:Heap}{x:Str}{st:Stmt}{f:Addr}{fd:FuncData}{k:Nat}{ps:List Str}{sp:Sp}(F:Fun K x x st f fd)(m:mg x=some (.ref f))(b:Binds K fd ps [])(G:FnOk P w K mg base CX0 k f fd ps sp):DefOk P w K mg base x k ps sp :=
 ⟨f,fd,G,m,F.kp,b⟩
theorem BQ {X:Cx}{scope:Scope}(h:(scope.names.all fun p=>p.2 != .free || X.env.scope.names.lookup p.1 == some .cell || X.env.scope.names.lookup p.1 == some .free)=true) :
  ∀ y∈scope.names,y.2 = .free->X.env.scope.names.lookup y.1=some .cell\/X.env.scope.names.lookup y.1=some .free:=fun y hy hf=>by
 have:=List.all_eq_true.mp h y hy;rw [hf] at this
 simpa using this
theorem Same.new {H:Hp}{p:Addr}{o:HO}(h:H p=none):Same H (upd H p o):=fun b u e=>by rw [AU (Ah e h)];exact e
theorem Same.put {H H':Hp}{p:Addr}{o:HO}(s:Same H H')(h:H p=none):Same H (upd H' p o):=fun b u e=>by rw [AU (Ah e h)];exact s b u e
def Its (x:Str):It:=⟨fun i _=>i<x.cps.size,fun i H v H'=>H'=H/\∃ c,x.cps[i]? = some c/\v = .str ⟨#[c]⟩,fun i _=>i=x.cps.size⟩
def StrIt (it:Addr)(x:Str)(t:Tok)(i:Nat)(h:Heap):Prop:=h.IsStrIter it "str_ascii_iterator" x t i\/h.IsStrIter it "str_iterator" x t i
theorem Ke {P:Program}{w:World}{K:FZ9}{tg:Expr}(x:Str)(t:Tok)(it:Addr):Turn P w K tg (Its x) [it] it (StrIt it x t) where
 mem:=by simp
 obj:=fun i h st b hb=>by
  have e:b=it:=by simpa using hb
  subst e;rcases st with ⟨o,e,c,d⟩ | ⟨o,e,c,d⟩<;>exact ⟨o,e,fun v z=>by rw [d] at z;cases z⟩
 keep:=fun i h h' st k=>by
  rcases st with ⟨o,e,r⟩ | ⟨o,e,r⟩
  ·exact .inl ⟨o,k it (by simp) o e,r⟩
  ·exact .inr ⟨o,k it (by simp) o e,r⟩
 item:=by
  intro X hP hw hK hc i pins s σ H E I hf st hg;subst hP hw hK;obtain ⟨f0,f1,f2,f3,f4,f5⟩:=hf it (by simp);rcases st with st|st
  ·refine (Walks.strAscii (prog:=X.prog) (w:=X.w) (I.ok.hd hc) it x t).item i s _ _ hg st fun v h' tk hv st' kk=>?_;obtain ⟨c,u,hcx,rfl⟩:=hv;have I1:=I.turned (h':=h') (t':=tk) (fun b o hb e=>kk b o (by simpa using hb) e) f0 f1 f3 f4 f5;obtain ⟨o,e,hc',d⟩:=id st';exact ⟨_,rfl,KS (s:={ s with heap:=h',toks:=tk }) e hc' d (by decide) ⟨.str ⟨#[c]⟩,H,I1,⟨u,rfl⟩,⟨rfl,c,hcx,rfl⟩,.inl st',fun b hb=>(hf b hb).1⟩⟩
  ·refine (Walks.strWide (prog:=X.prog) (w:=X.w) (I.ok.hd hc) it x t).item i s _ _ hg st fun v h' tk hv st' kk=>?_;obtain ⟨c,u,hcx,rfl⟩:=hv;have I1:=I.turned (h':=h') (t':=tk) (fun b o hb e=>kk b o (by simpa using hb) e) f0 f1 f3 f4 f5;obtain ⟨o,e,hc',d⟩:=id st';exact ⟨_,rfl,KS (s:={ s with heap:=h',toks:=tk }) e hc' d (by decide) ⟨.str ⟨#[c]⟩,H,I1,⟨u,rfl⟩,⟨rfl,c,hcx,rfl⟩,.inr st',fun b hb=>(hf b hb).1⟩⟩
 done:=by
  intro X hP hw hK hc i pins s σ H E I hf st hg;subst hP hw hK;obtain ⟨f0,f1,f2,f3,f4,f5⟩:=hf it (by simp);have hg:i=x.cps.size:=hg;subst hg;rcases st with st|st
  ·exact (Walks.strAscii (prog:=X.prog) (w:=X.w) (I.ok.hd hc) it x t).done s _ _ st fun h' tk kk=>⟨rfl,I.turned (fun b o hb e=>kk b o (by simpa using hb) e) f0 f1 f3 f4 f5⟩
  ·exact (Walks.strWide (prog:=X.prog) (w:=X.w) (I.ok.hd hc) it x t).done s _ _ st fun h' tk kk=>⟨rfl,I.turned (fun b o hb e=>kk b o (by simpa using hb) e) f0 f1 f3 f4 f5⟩
 self:=fun _ _ _ _ _ st h=>by
  rcases st with st|st
  ·exact wpAny_pyIter_striter_ascii st h
  ·exact wpAny_pyIter_striter_wide st h
section
variable {X:Cx}{tg:Expr}
def iAny (K:FZ9)(tl:TE):TI:=fun σ H R=>tl σ H fun v H1=>match v with
 | .str x=>R (Its x) H1
 | .ref a=>((∃ xs,SqL K H1 a xs)/\R (Itl K a) H1)\/((∃ xs,SqT K H1 a xs)/\R (Itt K a) H1)
 | _=>False
theorem pi_any {l:Expr}{tl:TE}(hl:PE X l tl):PI X tg l (iAny X.K tl):=by
 intro pins s σ H R I h;refine thn (hl pins s σ H _ I h) fun v s1 ⟨x,H1,I1,r1,q1⟩=>?_
 have one:∀ b∈[s1.heap.objs.size],HS X pins H1 b:=fun b hb=>by
  have e:b=s1.heap.objs.size:=by simpa using hb
  subst e;exact I1.fpOk (qxA _) (I1.hok.fresh (qxA _))
 cases x with
 | str z =>
  obtain ⟨t,rfl⟩:=r1;have q1:R (Its z) H1:=q1;cases ha:z.cps.all (· < 128)
  ·exact wpAny_pyIter_wide ha ⟨s1.heap.objs.size,[s1.heap.objs.size],_,_,H1,rfl,I1.kept (t':=s1.toks) fun b o e=>qcB _ e,Ke z t _,.inr ⟨_,qdB _ rfl,rfl,rfl⟩,one,q1⟩
  ·exact wpAny_pyIter_ascii ha ⟨s1.heap.objs.size,[s1.heap.objs.size],_,_,H1,rfl,I1.kept (t':=s1.toks) fun b o e=>qcB _ e,Ke z t _,.inl ⟨_,qdB _ rfl,rfl,rfl⟩,one,q1⟩
 | ref a =>
  cases r1;have q1:((∃ xs,SqL X.K H1 a xs)/\R (Itl X.K a) H1)\/((∃ xs,SqT X.K H1 a xs)/\R (Itt X.K a) H1):=q1;rcases q1 with ⟨⟨xs,hq⟩,q⟩ | ⟨⟨xs,hq⟩,q⟩
  ·obtain ⟨its,rv,p,hz⟩:=I1.list hq;exact wpAny_pyIter_list p.isList ⟨s1.heap.objs.size,[s1.heap.objs.size],_,_,H1,rfl,I1.kept (t':=s1.toks) fun b o e=>qcB _ e,Mk a _,⟨_,qdB _ rfl,rfl,rfl⟩,one,q⟩
  ·obtain ⟨its,rv,p,hz⟩:=I1.tuple hq;exact wpAny_pyIter_tuple (show s1.heap.IsTuple a its.toArray from p) ⟨s1.heap.objs.size,[s1.heap.objs.size],_,_,H1,rfl,I1.kept (t':=s1.toks) fun b o e=>qcB _ e,Kl a _,⟨_,qdB _ rfl,rfl,rfl⟩,one,q⟩
 | _=>exact (show False from q1).elim
end
structure Yields (J:It)(H:Hp)(xs:List V):Prop where
 go:∀ i H',Same H H'->i<xs.length->J.go i H'
 stop:∀ H',Same H H'->J.stop xs.length H'
 yld:∀ i H' x H'',Same H H'->i<xs.length->J.yld i H' x H''->H''=H'/\xs[i]? = some x
def D8 (x:Str):List V:=x.cps.toList.map fun c=>.str ⟨#[c]⟩
theorem IF (x:Str)(H:Hp):Yields (Its x) H (D8 x) where
 go:=fun i H' _ hi=>by
  have:(D8 x).length=x.cps.size:=by simp [D8]
  show i<x.cps.size;omega
 stop:=fun H' _=>by
  show (D8 x).length=x.cps.size;simp [D8]
 yld:=fun i H' v H'' _ _ y=>by
  obtain ⟨rfl,c,hc,rfl⟩:=y;refine ⟨rfl,?_⟩;simp only [D8,List.getElem?_map,Array.getElem?_toList,hc,Option.map_some]
theorem Jb (lo:Int)(n:Nat)(H:Hp):Yields (Itr lo n) H ((List.range n).map fun (i:Nat)=>V.int (lo+(i:Int))) where
 go:=fun i H' _ hi=>by
  show i<n
  simpa using hi
 stop:=fun H' _=>by
  show n<=((List.range n).map fun (i:Nat)=>V.int (lo+(i:Int))).length;simp
 yld:=fun i H' v H'' _ hi y=>by
  obtain ⟨rfl,rfl⟩:=y;rw [qdA,qhA] at hi;refine ⟨rfl,?_⟩;simp [hi]
theorem Gm {K:FZ9}{a:Addr}{xs:List V}{H:Hp}(h:SqL K H a xs):Yields (Itl K a) H xs where
 go:=fun i H' s hi=>⟨xs,xs[i],s.seq h,by simp [hi]⟩
 stop:=fun H' s=>⟨xs,s.seq h,qxA _⟩
 yld:=fun i H' v H'' s _ y=>⟨y.1,y.2 xs (s.seq h)⟩
section
variable {X:Cx}
def Ix (K:FZ9):R2:=fun x y H Q=>match x,y with
 | .int i,.int j=>Q (.int (i+j)) H
 | .str a,.str b=>a.length+b.length<=sizeLine/\Q (.str (a++b)) H
 | .ref a,.ref b=>∃ xs ys,Rd H a (.lst xs)/\Rd H b (.lst ys)/\xs.length+ys.length<=sizeLine/\∀ p,H p=none->Q (.ref p) (upd H p (.lst (xs++ys)))
 | _,_=>False
theorem op_catS:OpR X (binaryOp .Add) (fun x y H Q=>∃ a b xs ys,x = .ref a/\y = .ref b/\Rd H a (.lst xs)/\Rd H b (.lst ys)/\xs.length+ys.length<=sizeLine/\∀ p,H p=none->Q (.ref p) (upd H p (.lst (xs++ys)))):=by
 intro pins s σ H x y v u Q I rx ry h;obtain ⟨l,b,xs,zs,rfl,rfl,hH,hB,hz,q⟩:=h;cases rx;cases ry;obtain ⟨z,its,n,r,e⟩:=hH.ok I.hok;obtain ⟨z2,its2,n2,r2,e2⟩:=hB.ok I.hok;have hl:=r.length;have hl2:=r2.length;refine PySem.P.add_list e e2 ?_ (by rw [qkB,qkB];omega);have ea:its.toArray++its2.toArray=(its++its2).toArray:=by simp
 rw [ea];exact ⟨.ref _,_,I.lnew (t':=s.toks) (r.append r2) (by rw [qeA];omega),rfl,q _ I.fresh⟩
theorem op_plus:OpR X (binaryOp .Add) (Ix X.K):=by
 intro pins s σ H x y v u Q I rx ry h
 cases x with
 | int i=>cases y with
  | int j=>exact op_add pins s σ H _ _ v u Q I rx ry ⟨i,j,rfl,rfl,h⟩
  | _=>exact (show False from h).elim
 | str a=>cases y with
  | str b=>exact Ky pins s σ H _ _ v u Q I rx ry ⟨a,b,rfl,rfl,h.1,h.2⟩
  | _=>exact (show False from h).elim
 | ref a=>cases y with
  | ref b =>
   obtain ⟨xs,ys,h1,h2,h3,h4⟩:=h;exact op_catS pins s σ H _ _ v u Q I rx ry ⟨a,b,xs,ys,rfl,rfl,h1,h2,h3,h4⟩
  | _=>exact (show False from h).elim
 | _=>exact (show False from h).elim
def K5 (fi:Int->Int->Bool)(fs:List Nat->List Nat->Bool):R2:=fun x y H Q=>match x,y with
 | .int i,.int j=>Q (.bl (fi i j)) H
 | .str a,.str b=>Q (.bl (fs a.cps.toList b.cps.toList)) H
 | _,_=>False
theorem LL {f:Value->Value->Sem Value}{fi:Int->Int->Bool}{fs:List Nat->List Nat->Bool}(hi:OpR X f (rI0 fun i j=>.bl (fi i j)))
  (hs:∀ (s:Shared) (a b:Str) (t u:Tok) (Q:Value->Shared->Prop),Q (.bool (fs a.cps.toList b.cps.toList)) s->wpAny (model X.prog X.w) X.A (f (.str a t) (.str b u)) Q X.xe s):OpR X f (K5 fi fs):=by
 intro pins s σ H x y v u Q I rx ry h
 cases x with
 | int i=>cases y with
  | int j=>exact hi pins s σ H _ _ v u Q I rx ry ⟨i,j,rfl,rfl,h⟩
  | _=>exact (show False from h).elim
 | str a=>cases y with
  | str b =>
   obtain ⟨t,rfl⟩:=rx;obtain ⟨t',rfl⟩:=ry;exact hs s a b t t' _ ⟨.bl _,H,I,rfl,h⟩
  | _=>exact (show False from h).elim
 | _=>exact (show False from h).elim
theorem Jq:OpR X (compareOp .Lt) (K5 (fun i j=>decide (i<j)) fun a b=>decide (a<b)):=LL op_lt fun _ _ _ _ _ _ h=>lt_str h
theorem op_leU:OpR X (compareOp .LtE) (K5 (fun i j=>decide (i<=j)) fun a b=>!decide (b<a)):=LL op_le fun _ _ _ _ _ _ h=>PySem.P.le_str h
theorem GV:OpR X (compareOp .Gt) (K5 (fun i j=>decide (j<i)) fun a b=>decide (b<a)):=LL op_gt fun _ _ _ _ _ _ h=>PySem.P.gt_str h
def rMul (K:FZ9):R2:=fun x y H Q=>match x,y with
 | .int i,.int j=>CMul i j/\Q (.int (i * j)) H
 | .ref l,.int k=>∃ xs,H l=some (.lst xs)/\-(2 ^ 63)<=k/\k<2 ^ 63/\xs.length * k.toNat<=sizeLine/\∀ p,H p=none->Q (.ref p) (upd H p (.lst (List.replicate k.toNat xs).flatten))
 | _,_=>False
theorem op_mulU:OpR X (binaryOp .Mult) (rMul X.K):=by
 intro pins s σ H x y v u Q I rx ry h
 cases x with
 | int i=>cases y with
  | int j=>exact op_mul pins s σ H _ _ v u Q I rx ry ⟨i,j,rfl,rfl,h.1,h.2⟩
  | _=>exact (show False from h).elim
 | ref l=>cases y with
  | int k =>
   obtain ⟨xs,h1,h2,h3,h4,h5⟩:=h;exact op_rep pins s σ H _ _ v u Q I rx ry ⟨l,k,xs,rfl,rfl,h1,h2,h3,h4,h5⟩
  | _=>exact (show False from h).elim
 | _=>exact (show False from h).elim
def rSl (K:FZ9):V->Option Int->Option Int->Hp->VK->Prop:=fun x lo hi H Q=>match x with
 | .str z=>z.length<=sizeLine/\Q (.str (Txt.slice z lo hi)) H
 | .ref a=>(∃ xs,SqL K H a xs/\∀ p,H p=none->Q (.ref p) (upd H p (.lst (Ko xs lo hi))))
 | _=>False
theorem sl_str:SlR X (fun x lo hi H Q=>∃ z,x = .str z/\z.length<=sizeLine/\Q (.str (Txt.slice z lo hi)) H):=by
 intro pins s σ H x v vl vu lo hi sl Q I rx hs pl pu h;obtain ⟨z,rfl,hz,q⟩:=h;obtain ⟨t,rfl⟩:=rx;refine ⟨"str",_,F.slot_str_getitem.lookup,typeIs_str _ _ _,?_⟩;have fin:∀ (t':Tok) (k:Nat),EP X pins σ Q (.str (Txt.slice z lo hi) t') { s with toks:=k }:=fun t' k=>⟨.str _,H,I.tok k,⟨t',rfl⟩,q⟩
 cases pl with
 | none=>cases pu with
  | none=>exact wpAny_getItem_str_slice (l:=none) (u:=none) (st:=none) hs rfl (post_val_or_str ⟨qyA (Txt.slice_le z _ _) hz,fin⟩)
  | int j uj=>exact wpAny_getItem_str_slice (l:=none) (u:=some (j,uj)) (st:=none) hs rfl (post_val_or_str ⟨qyA (Txt.slice_le z _ _) hz,fin⟩)
 | int i ui=>cases pu with
  | none=>exact wpAny_getItem_str_slice (l:=some (i,ui)) (u:=none) (st:=none) hs rfl (post_val_or_str ⟨qyA (Txt.slice_le z _ _) hz,fin⟩)
  | int j uj=>exact wpAny_getItem_str_slice (l:=some (i,ui)) (u:=some (j,uj)) (st:=none) hs rfl (post_val_or_str ⟨qyA (Txt.slice_le z _ _) hz,fin⟩)
theorem sl_any:SlR X (rSl X.K):=by
 intro pins s σ H x v vl vu lo hi sl Q I rx hs pl pu h
 cases x with
 | str z=>exact sl_str pins s σ H _ v vl vu lo hi sl Q I rx hs pl pu ⟨z,rfl,h.1,h.2⟩
 | ref a =>
  obtain ⟨xs,h1,h2⟩:=h;exact sl_list pins s σ H _ v vl vu lo hi sl Q I rx hs pl pu ⟨a,xs,rfl,h1,h2⟩
 | _=>exact (show False from h).elim
def rAt (K:FZ9):R2:=fun x y H Q=>match x,y with
 | .str z,.int i=>z.length<=sizeLine/\∃ c,atI z.cps.toList i=some c/\Q (.str ⟨#[c]⟩) H
 | .ref p,.int i=>(∃ xs v,SqL K H p xs/\atI xs i=some v/\Q v H)\/(∃ xs v,SqT K H p xs/\atI xs i=some v/\Q v H)
 | _,_=>False
theorem ix_any:IxR X (rAt X.K):=by
 intro value slice pins s σ H x y v u Q I rx ry q hs
 cases x with
 | str z=>cases y with
  | int i =>
   obtain ⟨hz,c,hc,q⟩:=q;exact ix_str value slice pins s σ H _ _ v u Q I rx ry ⟨z,i,c,rfl,rfl,hz,hc,q⟩ hs
  | _=>exact (show False from q).elim
 | ref p=>cases y with
  | int i =>
   rcases q with ⟨xs,w',h1,h2,h3⟩ | ⟨xs,w',h1,h2,h3⟩
   ·exact ix_list value slice pins s σ H _ _ v u Q I rx ry ⟨p,xs,i,w',rfl,rfl,h1,h2,h3⟩ hs
   ·exact ix_tup value slice pins s σ H _ _ v u Q I rx ry ⟨p,xs,i,w',rfl,rfl,h1,h2,h3⟩ hs
  | _=>exact (show False from q).elim
 | _=>exact (show False from q).elim
def JV (K:FZ9):List V->Hp->VK->Prop:=fun vs H Q=>match vs with
 | [.str z]=>z.length<=sizeLine/\Q (.int z.length) H
 | [.ref p]=>∃ ys,(SqL K H p ys\/SqT K H p ys)/\Q (.int ys.length) H
 | _=>False
theorem MC:CI X (.builtin "len") (JV X.K):=by
 intro pins s σ H vs us Q I r h
 match vs,h with
 | [.str z],h=>exact JW pins s σ H _ us Q I r ⟨z,rfl,h.1,h.2⟩
 | [.ref p],h =>
  obtain ⟨ys,h1,h2⟩:=h;exact JP pins s σ H _ us Q I r ⟨p,ys,rfl,h1,h2⟩
theorem IN {ys:List Str}:∀ {us:List Value},Vals (ys.map V.str) us->StrsAre us ys:=by
 induction ys with
 | nil=>intro us r;rw [List.map_nil] at r;cases r;exact .nil
 | cons n ns ih =>
  intro us r;rw [quA] at r
  cases r with
  | cons r1 r2 =>
   obtain ⟨t,e⟩:=r1;subst e;exact .cons n t (ih r2)
def rJoin (K:FZ9):V->List V->Hp->VK->Prop:=fun x vs H Q=>∃ z l ys,x = .str z/\vs=[.ref l]/\SqL K H l (ys.map V.str)/\(ys.map (·.length)).sum+ys.length * z.length<=16777216/\Q (.str (Txt.join z ys)) H
theorem mt_join:MtR X "str.join" (rJoin X.K):=by
 intro pins s σ H x vs v us Q I rx rv h;obtain ⟨z,l,ys,rfl,rfl,hl,hz,q⟩:=h;obtain ⟨t,rfl⟩:=rx;obtain ⟨u,rfl,ru⟩:=DX rv;cases ru;obtain ⟨its,r,pl,_⟩:=I.list hl;exact join_list pl.isList (by simpa using IN r) hz fun t' k=>⟨.str _,H,I.tok k,⟨t',rfl⟩,q⟩
end
structure EqTy (K:FZ9)(k:Nat){α:Type}[DecidableEq α](R:Hp->V->α->Prop):Prop where
 fn:∀ {X:Cx}{pins:List (Addr × Obj)}{σ:St}{H:Hp}{s:Shared}{x:V}{a b:α},X.K=K->Inv X pins σ H s->R H x a->R H x b->a=b
 eq:∀ {X:Cx}{pins:List (Addr × Obj)}{σ:St}{H:Hp}{s:Shared}{x y:V}{u v:Value}{a b:α}(A:Around),X.K=K->Inv X pins σ H s->A.units+k<cLine->RelV x u->RelV y v->R H x a->R H y b->SeqAt.EqAt A s u v (decide (a=b))
 rc:∀ {X:Cx}{pins:List (Addr × Obj)}{σ:St}{H:Hp}{s:Shared}{x y:V}{u v:Value}{a b:α}(A:Around),X.K=K->Inv X pins σ H s->A.units+k<cLine->RelV x u->RelV y v->R H x a->R H y b->SeqAt.RcAt A s u v (decide (a=b))/\SeqAt.RcNeAt A s u v (!decide (a=b))
def isStr:Hp->V->Str->Prop:=fun _ x a=>x = .str a
def isInt:Hp->V->Int->Prop:=fun _ x a=>x = .int a
theorem HM {α:Type}[DecidableEq α][BEq α][LawfulBEq α](a b:α):(a == b)=decide (a=b):=by
 by_cases h:a=b
 ·subst h;simp
 ·rw [decide_eq_false h];simpa using h
theorem eqStr {K:FZ9}:EqTy K 0 isStr where
 fn:=fun _ _ h1 h2=>by cases h1;cases h2;rfl
 eq:=fun A _ _ _ r1 r2 h1 h2=>by
  cases h1;cases h2;obtain ⟨t,rfl⟩:=r1;obtain ⟨t',rfl⟩:=r2;rw [<- HM];exact SeqAt.EqAt.str_str _ _ _ _
 rc:=fun A _ _ _ r1 r2 h1 h2=>by
  cases h1;cases h2;obtain ⟨t,rfl⟩:=r1;obtain ⟨t',rfl⟩:=r2;rw [<- HM];exact ⟨SeqAt.RcAt.str_str _ _ _ _,SeqAt.RcNeAt.str_str _ _ _ _⟩
theorem eqInt {K:FZ9}:EqTy K 0 isInt where
 fn:=fun _ _ h1 h2=>by cases h1;cases h2;rfl
 eq:=fun A _ _ _ r1 r2 h1 h2=>by
  cases h1;cases h2;obtain ⟨t,rfl⟩:=r1;obtain ⟨t',rfl⟩:=r2;rw [<- HM];exact SeqAt.EqAt.int_int _ _ _ _
 rc:=fun A _ _ _ r1 r2 h1 h2=>by
  cases h1;cases h2;obtain ⟨t,rfl⟩:=r1;obtain ⟨t',rfl⟩:=r2;rw [<- HM];exact ⟨SeqAt.RcAt.int_int _ _ _ _,SeqAt.RcNeAt.int_int _ _ _ _⟩
theorem Paired.at' {α β:Type}{F:α->β->Prop}:∀ {l₁:List α}{l₂:List β}{i:Nat}{a:α}{b:β},Paired F l₁ l₂->l₁[i]? = some a->l₂[i]? = some b->F a b
 | _,_,_,_,_,.nil,e,_=>by simp at e
 | _,_,0,_,_,.cons h _,e1,e2=>by simp at e1 e2;subst e1;subst e2;exact h
 | _,_,i+1,_,_,.cons _ t,e1,e2=>Paired.at' (i:=i) t (by simpa using e1) (by simpa using e2)
theorem J7 {α β:Type}{F:α->β->Prop}(hf:∀ a b c,F a b->F a c->b=c):∀ {xs:List α}{as bs:List β},Paired F xs as->Paired F xs bs->as=bs
 | _,_,_,.nil,.nil=>rfl
 | _,_,_,.cons h t,.cons h' t'=>by rw [hf _ _ _ h h',J7 hf t t']
theorem all_dec {α:Type}[DecidableEq α]:∀ (as bs:List α) (hl:as.length=bs.length),((List.range as.length).all fun j=>decide (as[j]? = bs[j]?))=decide (as=bs):=by
 intro as bs hl;apply Bool.eq_iff_iff.mpr;rw [decide_eq_true_iff,List.all_eq_true];constructor
 ·intro h;apply List.ext_getElem?;intro i;by_cases hi:i<as.length
  ·exact of_decide_eq_true (h i (qqA.mpr hi))
  ·rw [List.getElem?_eq_none (by omega),List.getElem?_eq_none (by omega)]
 ·rintro rfl i _;simp
def KP (K:FZ9){α:Type}(R:Hp->V->α->Prop):Hp->V->List α->Prop:=fun H x as=>∃ l xs,x = .ref l/\SqL K H l xs/\Paired (R H) xs as
theorem L8 {K:FZ9}{k:Nat}{α:Type}[DecidableEq α]{R:Hp->V->α->Prop}(E:EqTy K k R){X:Cx}{pins:List (Addr × Obj)}{σ:St}{H:Hp}{s:Shared}{A:Around}(hK:X.K=K)(I:Inv X pins σ H s)(hu:A.units+(k+1)<cLine)
  {xs ys:List V}{us vs:List Value}{as bs:List α}(rx:Vals xs us) (ry:Vals ys vs) (px:Paired (R H) xs as) (py:Paired (R H) ys bs) :
  ∀ j (h1:j<us.toArray.size) (h2:j<vs.toArray.size),SeqAt.EqAt A.in1 s us.toArray[j] vs.toArray[j] (decide (as[j]? = bs[j]?)):=by
 intro j h1 h2;have h1':j<us.length:=by simpa using h1
 have h2':j<vs.length:=by simpa using h2
 have lx:=rx.length;have ly:=ry.length;have lpx:=Paired.length px;have lpy:=Paired.length py;have ex:xs[j]? = some xs[j]:=qtA (by omega);have ey:ys[j]? = some ys[j]:=qtA (by omega);have ea:as[j]? = some as[j]:=qtA (by omega);have eb:bs[j]? = some bs[j]:=qtA (by omega);obtain ⟨u,hu',ru⟩:=rx.get ex;obtain ⟨v,hv',rv⟩:=ry.get ey
 have e1:us.toArray[j]=u:=by
  rw [qtA h1'] at hu'
  simpa using hu'
 have e2:vs.toArray[j]=v:=by
  rw [qtA h2'] at hv'
  simpa using hv'
 rw [e1,e2,ea,eb];have:=E.eq A.in1 hK I (show A.units+1+k<cLine by omega) ru rv (Paired.at' px ex ea) (Paired.at' py ey eb);have e3:decide (some as[j]=some bs[j])=decide (as[j]=bs[j]):=by simp
 rw [e3];exact this
theorem eqLst {K:FZ9}{k:Nat}{α:Type}[DecidableEq α]{R:Hp->V->α->Prop}(E:EqTy K k R):EqTy K (k+1) (KP K R):=by
 have fn:∀ {X:Cx}{pins:List (Addr × Obj)}{σ:St}{H:Hp}{s:Shared}{x:V}{a b:List α},X.K=K->Inv X pins σ H s->KP K R H x a->KP K R H x b->a=b:=by
  intro X pins σ H s x a b hK I ha hb;obtain ⟨l,xs,rfl,h1,p1⟩:=ha;obtain ⟨l',ys,e,h2,p2⟩:=hb;cases e;subst hK;have:=I.list_inj h1 h2;subst this;exact J7 (F:=R H) (fun _ _ _ p q=>E.fn rfl I p q) p1 p2
 have rc:∀ {X:Cx}{pins:List (Addr × Obj)}{σ:St}{H:Hp}{s:Shared}{x y:V}{u v:Value}{a b:List α}(A:Around),X.K=K->Inv X pins σ H s->A.units+(k+1)<cLine->RelV x u->RelV y v->KP K R H x a->KP K R H y b ->
   SeqAt.RcAt A s u v (decide (a=b))/\SeqAt.RcNeAt A s u v (!decide (a=b)):=by
  intro X pins σ H s x y u v a b A hK I hu r1 r2 ha hb;obtain ⟨l,xs,rfl,h1,p1⟩:=ha;obtain ⟨l',ys,rfl,h2,p2⟩:=hb;cases r1;cases r2;subst hK;obtain ⟨us,rx,plx,_⟩:=I.list h1;obtain ⟨vs,ry,ply,_⟩:=I.list h2;have lx:=rx.length;have ly:=ry.length;have lpx:=Paired.length p1;have lpy:=Paired.length p2;by_cases hl:a.length=b.length
  ·have hsz:us.toArray.size=vs.toArray.size:=by simp;omega
   have it:=L8 E rfl I hu rx ry p1 p2
   have ed:((List.range us.toArray.size).all fun j=>decide (a[j]? = b[j]?))=decide (a=b):=by
    rw [<- all_dec a b hl,qkB,<- lx,lpx]
   rw [<- ed];exact ⟨SeqAt.RcAt.lists plx.isList ply.isList hsz (by omega) it,SeqAt.RcNeAt.lists plx.isList ply.isList hsz (by omega) it⟩
  ·have hsz:(us.toArray.size != vs.toArray.size)=true:=by simp;omega
   have ne:a≠b:=fun e=>hl (by rw [e]);rw [decide_eq_false ne];exact ⟨SeqAt.RcAt.lists_lengths plx.isList ply.isList hsz (by omega),SeqAt.RcNeAt.lists_lengths plx.isList ply.isList hsz (by omega)⟩
 refine ⟨fn,?_,rc⟩;intro X pins σ H s x y u v a b A hK I hu r1 r2 ha hb;have h:=(rc A hK I hu r1 r2 ha hb).1;obtain ⟨l,xs,rfl,h1,p1⟩:=id ha;obtain ⟨l',ys,rfl,h2,p2⟩:=id hb;cases r1;cases r2;by_cases e:l=l'
 ·subst e;have:a=b:=fn hK I ha hb;rw [decide_eq_true this];exact SeqAt.EqAt.same _
 ·exact SeqAt.EqAt.of_refs e h
def IG (K:FZ9){α β:Type}(R:Hp->V->α->Prop)(S:Hp->V->β->Prop):Hp->V->α × β->Prop:=fun H x p=>∃ t a b,x = .ref t/\SqT K H t [a,b]/\R H a p.1/\S H b p.2
theorem eqPair {K:FZ9}{k:Nat}{α β:Type}[DecidableEq α][DecidableEq β]{R:Hp->V->α->Prop}{S:Hp->V->β->Prop}(E:EqTy K k R)(G:EqTy K k S):EqTy K (k+1) (IG K R S):=by
 have fn:∀ {X:Cx}{pins:List (Addr × Obj)}{σ:St}{H:Hp}{s:Shared}{x:V}{a b:α × β},X.K=K->Inv X pins σ H s->IG K R S H x a->IG K R S H x b->a=b:=by
  intro X pins σ H s x a b hK I ha hb;obtain ⟨l,x1,x2,rfl,h1,p1,p2⟩:=ha;obtain ⟨l',y1,y2,e,h2,q1,q2⟩:=hb;cases e;subst hK;have:=I.tuple_inj h1 h2;cases this;exact Prod.ext (E.fn rfl I p1 q1) (G.fn rfl I p2 q2)
 have rc:∀ {X:Cx}{pins:List (Addr × Obj)}{σ:St}{H:Hp}{s:Shared}{x y:V}{u v:Value}{a b:α × β}(A:Around),X.K=K->Inv X pins σ H s->A.units+(k+1)<cLine->RelV x u->RelV y v->IG K R S H x a->IG K R S H y b ->
   SeqAt.RcAt A s u v (decide (a=b))/\SeqAt.RcNeAt A s u v (!decide (a=b)):=by
  intro X pins σ H s x y u v a b A hK I hu r1 r2 ha hb;obtain ⟨l,x1,x2,rfl,h1,p1,p2⟩:=ha;obtain ⟨l',y1,y2,rfl,h2,q1,q2⟩:=hb;cases r1;cases r2;subst hK;obtain ⟨us,rx,plx,_⟩:=I.tuple h1;obtain ⟨vs,ry,ply,_⟩:=I.tuple h2;obtain ⟨u1,u2,rfl,ru1,ru2⟩:=Lr rx;obtain ⟨v1,v2,rfl,rv1,rv2⟩:=Lr ry;have e1:=E.eq A.in1 rfl I (show A.units+1+k<cLine by omega) ru1 rv1 p1 q1;have e2:=G.eq A.in1 rfl I (show A.units+1+k<cLine by omega) ru2 rv2 p2 q2
  have it:∀ j (h1:j < [u1,u2].toArray.size) (h2:j < [v1,v2].toArray.size),SeqAt.EqAt A.in1 s [u1,u2].toArray[j] [v1,v2].toArray[j] ((fun j=>if j=0 then decide (a.1=b.1) else decide (a.2=b.2)) j):=by
   intro j h1 h2
   match j,h1 with
   | 0,_=>exact e1
   | 1,_=>exact e2
   | j+2,h=>exact absurd h (by simp)
  have ed:((List.range (min [u1,u2].toArray.size [v1,v2].toArray.size)).all (fun j=>if j=0 then decide (a.1=b.1) else decide (a.2=b.2)) && [u1,u2].toArray.size == [v1,v2].toArray.size)=decide (a=b):=by
   apply Bool.eq_iff_iff.mpr;rw [decide_eq_true_iff];constructor
   ·intro h;have h:(decide (a.1=b.1) && (decide (a.2=b.2) && true) && true)=true:=h;simp only [Bool.and_true,quB,decide_eq_true_iff] at h;exact Prod.ext h.1 h.2
   ·rintro rfl;show (decide (a.1=a.1) && (decide (a.2=a.2) && true) && true)=true;simp
  rw [<- ed];exact ⟨SeqAt.RcAt.tuples plx ply (by omega) it,SeqAt.RcNeAt.tuples plx ply (by omega) it⟩
 refine ⟨fn,?_,rc⟩;intro X pins σ H s x y u v a b A hK I hu r1 r2 ha hb;have h:=(rc A hK I hu r1 r2 ha hb).1;obtain ⟨l,x1,x2,rfl,h1,p1,p2⟩:=id ha;obtain ⟨l',y1,y2,rfl,h2,q1,q2⟩:=id hb;cases r1;cases r2;by_cases e:l=l'
 ·subst e;have:a=b:=fn hK I ha hb;rw [decide_eq_true this];exact SeqAt.EqAt.same _
 ·exact SeqAt.EqAt.of_refs e h
section
variable {X:Cx}
theorem op_neD {k j:Nat}{α:Type}[DecidableEq α]{R:Hp->V->α->Prop}(E:EqTy X.K k R)(hr:Room j X.A)(hk:k<=10):OpR X (compareOp .NotEq) (fun x y H Q=>∃ a b,R H x a/\R H y b/\Q (.bl (!decide (a=b))) H):=by
 intro pins s σ H x y v u Q I rx ry h;obtain ⟨a,b,h1,h2,q⟩:=h;exact (E.rc X.A rfl I (by have:=hr.un;omega) rx ry h1 h2).2 _ _ _ _ ⟨.bl _,H,I,rfl,q⟩
end
class Rp (α:Type) where
 rel:FZ9->Hp->V->α->Prop
 mono:∀ {K:FZ9}{H H':Hp}{v:V}{a:α},Same H H'->rel K H v a->rel K H' v a
theorem Same.rd {H H':Hp}{a:Addr}{u:HO}(s:Same H H')(h:Rd H a u):Rd H' a u:=by
 rcases h with h | ⟨o,h⟩
 ·exact .inl (s _ _ h)
 ·exact .inr ⟨o,s _ _ h⟩
theorem Same.tup {K:FZ9}{H H':Hp}{a:Addr}{xs:List V}(e:Same H H')(h:SqT K H a xs):SqT K H' a xs:=by
 rcases h with h|h
 ·exact .inl (e.rd h)
 ·exact .inr h
instance rpInt:Rp Int:=⟨fun _ _ v a=>v = .int a,fun _ h=>h⟩
instance rpBool:Rp Bool:=⟨fun _ _ v a=>v = .bl a,fun _ h=>h⟩
instance rpStr:Rp Str:=⟨fun _ _ v a=>v = .str a/\a.length<=sizeLine,fun _ h=>h⟩
instance rpUnit:Rp Unit:=⟨fun _ _ v _=>v = .non,fun _ h=>h⟩
instance rpList {α:Type}[Rp α]:Rp (List α) :=
 ⟨fun K H v as=>∃ l xs,v = .ref l/\Rd H l (.lst xs)/\xs.length<=sizeLine/\Paired (Rp.rel K H) xs as,
  fun s ⟨l,xs,e,h,z,p⟩=>⟨l,xs,e,s.rd h,z,Paired.imp' (fun _ _ r=>Rp.mono s r) p⟩⟩
instance rpPair {α β:Type}[Rp α][Rp β]:Rp (α × β) :=
 ⟨fun K H v p=>∃ t a b,v = .ref t/\SqT K H t [a,b]/\Rp.rel K H a p.1/\Rp.rel K H b p.2,
  fun s ⟨t,a,b,e,h,r1,r2⟩=>⟨t,a,b,e,s.tup h,Rp.mono s r1,Rp.mono s r2⟩⟩
structure T3 (α β γ:Type) where
 a:α
 b:β
 c:γ
 deriving DecidableEq
structure T4 (α β γ δ:Type) where
 a:α
 b:β
 c:γ
 d:δ
 deriving DecidableEq
structure Tp (α:Type) where
 l:List α
 deriving DecidableEq
instance rpT4 {α β γ δ:Type}[Rp α][Rp β][Rp γ][Rp δ]:Rp (T4 α β γ δ) :=
 ⟨fun K H v p=>∃ t a b c d,v = .ref t/\SqT K H t [a,b,c,d]/\Rp.rel K H a p.a/\Rp.rel K H b p.b/\Rp.rel K H c p.c/\Rp.rel K H d p.d,
  fun s ⟨t,a,b,c,d,e,h,r1,r2,r3,r4⟩=>⟨t,a,b,c,d,e,s.tup h,Rp.mono s r1,Rp.mono s r2,Rp.mono s r3,Rp.mono s r4⟩⟩
instance rpTp {α:Type}[Rp α]:Rp (Tp α) :=
 ⟨fun K H v as=>∃ t xs,v = .ref t/\SqT K H t xs/\xs.length<=sizeLine/\Paired (Rp.rel K H) xs as.l,
  fun s ⟨l,xs,e,h,z,p⟩=>⟨l,xs,e,s.tup h,z,Paired.imp' (fun _ _ r=>Rp.mono s r) p⟩⟩
class RpA (α:Type) where
 n:Nat
 rel:FZ9->Hp->List V->α->Prop
 mono:∀ {K:FZ9}{H H':Hp}{v:List V}{a:α},Same H H'->rel K H v a->rel K H' v a
 len:∀ {K:FZ9}{H:Hp}{v:List V}{a:α},rel K H v a->v.length=n
instance raNil:RpA Unit:=⟨0,fun _ _ vs _=>vs=[],fun _ h=>h,fun h=>by rw [h];rfl⟩
instance raCons {α β:Type}[Rp α][RpA β]:RpA (α × β) :=
 ⟨RpA.n β+1,fun K H vs p=>∃ v r,vs=v::r/\Rp.rel K H v p.1/\RpA.rel K H r p.2,
  fun s ⟨v,r,e,h1,h2⟩=>⟨v,r,e,Rp.mono s h1,RpA.mono s h2⟩,fun ⟨v,r,e,h1,h2⟩=>by rw [e,qfA,RpA.len h2]⟩
structure Ext (G H G' H':Hp):Prop where
 gg:Same G G'
 gh:Same G' H'
 hh:Same H H'
 no:∀ b,G b=none->H b≠none->G' b=none
section
variable {G H G1 H1 G2 H2 G0 H0:Hp}{p:Addr}{o:HO}
theorem Ext.refl (s:Same G H):Ext G H G H:=⟨.refl _,s,.refl _,fun _ h _=>h⟩
theorem Ext.trans (x:Ext G H G1 H1)(y:Ext G1 H1 G2 H2):Ext G H G2 H2 :=
 ⟨x.gg.trans y.gg,y.gh,x.hh.trans y.hh,fun b h1 h2=>y.no b (x.no b h1 h2) fun z=>h2 (x.hh.free z)⟩
theorem Same.both (s:Same G H):Same (upd G p o) (upd H p o):=fun b u e=>by
 by_cases hb:b=p
 ·subst hb;rw [AI] at e ⊢;exact e
 ·rw [AU hb] at e ⊢;exact s b u e
theorem Ext.new (s:Same G H)(h:H p=none):Ext G H (upd G p o) (upd H p o) :=
 ⟨Same.new (s.free h),s.both,Same.new h,fun b h1 h2=>by
  have hb:b≠p:=fun z=>h2 (by rw [z];exact h);rw [AU hb]
  exact h1⟩
theorem Ext.own (s:Same G H)(h:H p=none):Ext G H G (upd H p o):=⟨.refl _,s.trans (Same.new h),Same.new h,fun _ h _=>h⟩
theorem Ext.put (x:Ext G0 H0 G H)(h0:H0 p=none)(hg:G p=none):Ext G0 H0 G (upd H p o):=⟨x.gg,x.gh.put hg,x.hh.put h0,x.no⟩
theorem Ext.frz (x:Ext G0 H0 G H)(h0:H0 p=none)(hg:G p=none)(hh:H p=some o):Ext G0 H0 (upd G p o) H :=
 ⟨x.gg.trans (Same.new hg),fun b u e=>by
  by_cases hb:b=p
  ·subst hb;rw [AI] at e;rw [hh];exact e
  ·rw [AU hb] at e
   exact x.gh b u e,x.hh,fun b h1 h2=>by
  have hb:b≠p:=fun z=>h2 (by rw [z];exact h0);rw [AU hb]
  exact x.no b h1 h2⟩
end
section
variable {K:FZ9}{σ:St}{G:Hp}
def EV (K:FZ9){α:Type}[Rp α](te:TE)(σ:St)(G:Hp)(m:Option α):Prop :=
 ∀ G1,Same G G1->∀ a,m=some a->∀ H,Same G1 H->∀ Q:VK,(∀ v G2 H2,Ext G1 H G2 H2->Rp.rel K G2 v a->Q v H2)->te σ H Q
def TV (t:TT)(σ:St)(G:Hp)(m:Option Bool):Prop :=
 ∀ G1,Same G G1->∀ a,m=some a->∀ H,Same G1 H->∀ Q:Bool->Hp->Prop,(∀ G2 H2,Ext G1 H G2 H2->Q a H2)->t σ H Q
def AV (K:FZ9){α:Type}[RpA α](t:TA)(σ:St)(G:Hp)(m:Option α):Prop :=
 ∀ G1,Same G G1->∀ a,m=some a->∀ H,Same G1 H->∀ Q:List V->Hp->Prop,(∀ vs G2 H2,Ext G1 H G2 H2->RpA.rel K G2 vs a->Q vs H2)->t σ H Q
def LV (K:FZ9){α:Type}[Rp α](t:TA)(σ:St)(G:Hp)(n:Nat)(m:Option (List α)):Prop :=
 ∀ G1,Same G G1->∀ a,m=some a->∀ H,Same G1 H->∀ Q:List V->Hp->Prop,(∀ vs G2 H2,Ext G1 H G2 H2->vs.length=n->Paired (Rp.rel K G2) vs a->Q vs H2)->t σ H Q
def OV (t:TO)(σ:St)(G:Hp)(m:Option (Option Int)):Prop :=
 ∀ G1,Same G G1->∀ a,m=some a->∀ H,Same G1 H->∀ Q:Option Int->Hp->Prop,(∀ G2 H2,Ext G1 H G2 H2->Q a H2)->t σ H Q
def FV (K:FZ9){α:Type}[Rp α](te:TE)(σ:St)(G:Hp)(m:Option (List α)):Prop :=
 ∀ G1,Same G G1->∀ a,m=some a->∀ H,Same G1 H->∀ Q:VK,(∀ p vs G2 H2,Ext G1 H G2 H2->H p=none->G2 p=none->H2 p=some (.lst vs)->vs.length<=sizeLine->Paired (Rp.rel K G2) vs a->Q (.ref p) H2)->te σ H Q
section
variable {α β γ δ:Type}[Rp α][Rp β][Rp γ][Rp δ]{ta tb tc td:TE}{ma:Option α}{mb:Option β}{mc:Option γ}
theorem EV.run {te:TE}{H:Hp}{a:α}{Q:VK}{m:Option α}(e:EV K te σ G m)(hm:m=some a)(s:Same G H)(k:∀ v G2 H2,Ext G H G2 H2->Rp.rel K G2 v a->Q v H2):te σ H Q:=e G (.refl G) a hm H s Q k
theorem TV.run {t:TT}{H:Hp}{a:Bool}{Q:Bool->Hp->Prop}{m:Option Bool}(e:TV t σ G m)(hm:m=some a)(s:Same G H)(k:∀ G2 H2,Ext G H G2 H2->Q a H2):t σ H Q:=e G (.refl G) a hm H s Q k
theorem EV.of {te:TE}{m m':Option α}(e:EV K te σ G m)(h:m=m'):EV K te σ G m':=h ▸ e
theorem FV.ev {te:TE}{m:Option (List α)}(e:FV K te σ G m):EV K te σ G m:=by
 intro G1 s1 a ha H sH Q k;refine e G1 s1 a ha H sH Q fun p vs G2 H2 x h0 hg hh hz hp=>?_;exact k _ _ _ (x.frz h0 hg hh) ⟨p,vs,rfl,.inl AI,hz,Paired.imp' (fun _ _ r=>Rp.mono (Same.new hg) r) hp⟩
theorem ev_var {i:Nat}{v:V}{a:α}(h:σ[i]? = some (some v))(r:Rp.rel K G v a):EV K (GJ i) σ G (some a):=fun G1 s a' e H sH Q k=>by
 cases e;exact ⟨v,h,k v G1 H (.refl sH) (Rp.mono s r)⟩
theorem ev_c {v:V}{a:α}(h:∀ G,Rp.rel K G v a):EV K (tC v) σ G (some a):=fun G1 s a' e H sH Q k=>by
 cases e;exact k v G1 H (.refl sH) (h _)
theorem Aw {i:Int}:EV K (tC (.int i)) σ G (some i):=ev_c fun _=>rfl
theorem Dd {b:Bool}:EV K (tC (.bl b)) σ G (some b):=ev_c fun _=>rfl
theorem CH {x:Str}(h:x.length<=sizeLine:=by decide +kernel):EV K (tC (.str x)) σ G (some x):=ev_c fun _=>⟨rfl,h⟩
theorem Bx {r:R2}{f:α->β->Option γ}
  (h:∀ {G H:Hp}{v u:V}{a:α}{b:β}{c:γ},Same G H->Rp.rel K G v a->Rp.rel K G u b->f a b=some c->∀ {Q:VK},(∀ w G2 H2,Ext G H G2 H2->Rp.rel K G2 w c->Q w H2)->r v u H Q)
  (ea:EV K ta σ G ma) (eb:EV K tb σ G mb):EV K (tOp r ta tb) σ G (ma.bind fun a=>mb.bind fun b=>f a b):=by
 clear 7;obtain ⟨a,ha,hc⟩:=qaA.mp hc;obtain ⟨b,hb,hc⟩:=qaA.mp hc;clear 8 ea a ha;refine eb G2 (s1.trans x2.gg) b hb H2 x2.gh _ fun u G3 H3 x3 r3=>?_;exact h x3.gh (Rp.mono x3.gg r2) r3 hc fun w G4 H4 x4 r4=>k w G4 H4 ((x2.trans x3).trans x4) r4
theorem ev_un {r:V->Hp->VK->Prop}{f:α->Option γ}
  (h:∀ {G H:Hp}{v:V}{a:α}{c:γ},Same G H->Rp.rel K G v a->f a=some c->∀ {Q:VK},(∀ w G2 H2,Ext G H G2 H2->Rp.rel K G2 w c->Q w H2)->r v H Q)
  (ea:EV K ta σ G ma):EV K (tUn r ta) σ G (ma.bind fun a=>f a):=by
 clear 7;obtain ⟨a,ha,hc⟩:=qaA.mp hc;clear 8 ea a ha;exact h x2.gh r2 hc fun w G4 H4 x4 r4=>k w G4 H4 (x2.trans x4) r4
instance decMul (i j:Int):Decidable (CMul i j):=by unfold CMul;infer_instance
instance decDiv (i j:Int):Decidable (LI i j):=by unfold LI;infer_instance
def IT (a b:Int):Option Int:=if CMul a b then some (a * b) else none
def divO (a b:Int):Option Int:=if LI a b then some (a / b) else none
def IX (a b:Int):Option Int:=if 0<b then some (a % b) else none
theorem Ao {p:Prop}[Decidable p]{α:Type}{a c:α}(h:(if p then some a else none)=some c):p/\a=c:=by
 by_cases hp:p
 ·rw [if_pos hp] at h;exact ⟨hp,qaB h⟩
 ·rw [if_neg hp] at h;cases h
section
variable {ia ib:Option Int}
theorem CF (ea:EV K ta σ G ia)(eb:EV K tb σ G ib):EV K (tOp (Ix K) ta tb) σ G (ia.bind fun a=>ib.bind fun b=>some (a+b)) :=
 Bx (fun s ra rb e Q k=>by cases ra;cases rb;cases e;exact k _ _ _ (.refl s) rfl) ea eb
theorem Jr (ea:EV K ta σ G ia)(eb:EV K tb σ G ib):EV K (tOp (rMul K) ta tb) σ G (ia.bind fun a=>ib.bind fun b=>IT a b) :=
 Bx (fun s ra rb e Q k=>by cases ra;cases rb;obtain ⟨h,rfl⟩:=Ao e;exact ⟨h,k _ _ _ (.refl s) rfl⟩) ea eb
theorem GG (ea:EV K ta σ G ia)(eb:EV K tb σ G ib):EV K (tOp (rI (fun _ j=>0<j) fun i j=>.int (i % j)) ta tb) σ G (ia.bind fun a=>ib.bind fun b=>IX a b) :=
 Bx (fun s ra rb e Q k=>by cases ra;cases rb;obtain ⟨h,rfl⟩:=Ao e;exact ⟨_,_,rfl,rfl,h,k _ _ _ (.refl s) rfl⟩) ea eb
theorem ev_div (ea:EV K ta σ G ia)(eb:EV K tb σ G ib):EV K (tOp (rI LI fun i j=>.int (i / j)) ta tb) σ G (ia.bind fun a=>ib.bind fun b=>divO a b) :=
 Bx (fun s ra rb e Q k=>by cases ra;cases rb;obtain ⟨h,rfl⟩:=Ao e;exact ⟨_,_,rfl,rfl,h,k _ _ _ (.refl s) rfl⟩) ea eb
theorem ev_neg (ea:EV K ta σ G ia):EV K (tUn (rU fun i=>.int (-i)) ta) σ G (ia.bind fun a=>some (-a)) :=
 ev_un (fun s ra e Q k=>by cases ra;cases e;exact ⟨_,rfl,k _ _ _ (.refl s) rfl⟩) ea
theorem FR {p:Int->Int->Bool}{q:List Nat->List Nat->Bool}(ea:EV K ta σ G ia)(eb:EV K tb σ G ib):EV K (tOp (K5 p q) ta tb) σ G (ia.bind fun a=>ib.bind fun b=>some (p a b)) :=
 Bx (fun s ra rb e Q k=>by cases ra;cases rb;cases e;exact k _ _ _ (.refl s) rfl) ea eb
theorem DM (ea:EV K ta σ G ia)(eb:EV K tb σ G ib):EV K (tOp rEq ta tb) σ G (ia.bind fun a=>ib.bind fun b=>some (decide (a=b))) :=
 Bx (fun s ra rb e Q k=>by cases ra;cases rb;cases e;exact ⟨rfl,k _ _ _ (.refl s) (by show V.bl _=V.bl _;congr 1;simp)⟩) ea eb
theorem GT (ea:EV K ta σ G ia)(eb:EV K tb σ G ib):EV K (tOp rNe ta tb) σ G (ia.bind fun a=>ib.bind fun b=>some (!decide (a=b))) :=
 Bx (fun s ra rb e Q k=>by cases ra;cases rb;cases e;exact ⟨rfl,k _ _ _ (.refl s) (by show V.bl _=V.bl _;congr 1;simp)⟩) ea eb
end
section
variable {ba bb:Option Bool}
theorem ev_not (ea:EV K ta σ G ba):EV K (tNotV ta) σ G (ba.bind fun a=>some (!a)):=by
 clear 7;obtain ⟨a,ha,hc⟩:=qaA.mp hc;cases hc;clear 8 ea a ha;cases r2;exact ⟨_,rfl,k _ _ _ x2 rfl⟩
theorem GL (ea:EV K ta σ G ba)(eb:EV K tb σ G bb):EV K (tAndV ta tb) σ G (ba.bind fun a=>cond a bb (some false)):=by
 clear 7;obtain ⟨a,ha,hc⟩:=qaA.mp hc;clear 8 ea a ha;cases r2;refine ⟨_,rfl,?_⟩
 cases a with
 | false=>cases hc;exact Ba (k _ _ _ x2 rfl)
 | true=>exact Bd (eb G2 (s1.trans x2.gg) c hc H2 x2.gh _ fun u G3 H3 x3 r3=>k _ _ _ (x2.trans x3) r3)
theorem ev_ifx {tt:TT}{m1 m2:Option α}(et:TV tt σ G ba)(ea:EV K ta σ G m1)(eb:EV K tb σ G m2):EV K (tIf tt ta tb) σ G (ba.bind fun a=>cond a m1 m2):=by
 clear 7;obtain ⟨a,ha,hc⟩:=qaA.mp hc;refine et G1 s1 a ha H sH _ fun G2 H2 x2=>?_
 cases a with
 | true=>exact Bd (ea G2 (s1.trans x2.gg) c hc H2 x2.gh _ fun u G3 H3 x3 r3=>k _ _ _ (x2.trans x3) r3)
 | false=>exact Ba (eb G2 (s1.trans x2.gg) c hc H2 x2.gh _ fun u G3 H3 x3 r3=>k _ _ _ (x2.trans x3) r3)
theorem AN (ea:EV K ta σ G ba):TV (tTest ta) σ G ba:=by
 clear 7;clear 8 ea c hc;cases r2;exact ⟨_,rfl,k _ _ x2⟩
theorem BB {t:TT}(ea:TV t σ G ba):TV (tNot t) σ G (ba.bind fun a=>some (!a)):=by
 clear 7;obtain ⟨a,ha,hc⟩:=qaA.mp hc;cases hc;exact ea G1 s1 a ha H sH _ fun G2 H2 x2=>k _ _ x2
theorem tv_and {t u:TT}(ea:TV t σ G ba)(eb:TV u σ G bb):TV (tAnd t u) σ G (ba.bind fun a=>cond a bb (some false)):=by
 clear 7;obtain ⟨a,ha,hc⟩:=qaA.mp hc;refine ea G1 s1 a ha H sH _ fun G2 H2 x2=>?_
 cases a with
 | false=>cases hc;exact Ba (k _ _ x2)
 | true=>exact Bd (eb G2 (s1.trans x2.gg) c hc H2 x2.gh _ fun G3 H3 x3=>k _ _ (x2.trans x3))
theorem Df {t u:TT}(ea:TV t σ G ba)(eb:TV u σ G bb):TV (tOr t u) σ G (ba.bind fun a=>cond a (some true) bb):=by
 clear 7;obtain ⟨a,ha,hc⟩:=qaA.mp hc;refine ea G1 s1 a ha H sH _ fun G2 H2 x2=>?_
 cases a with
 | true=>cases hc;exact Bd (k _ _ x2)
 | false=>exact Ba (eb G2 (s1.trans x2.gg) c hc H2 x2.gh _ fun G3 H3 x3=>k _ _ (x2.trans x3))
theorem tv_tru {f:α->Bool}(h:∀ {G:Hp}{v:V}{a:α},Rp.rel K G v a->TruV K v G (f a))(mn:∀ {G H:Hp}{v:V}{k:Bool},Same G H->TruV K v G k->TruV K v H k)(ea:EV K ta σ G ma) :
  TV (fun σ H Q=>ta σ H fun x H'=>∃ k,TruV K x H' k/\Q k H') σ G (ma.bind fun a=>some (f a)):=by
 clear 7;obtain ⟨a,ha,hc⟩:=qaA.mp hc;cases hc;clear 8 ea a ha;exact ⟨_,mn x2.gh (h r2),k _ _ x2⟩
end
end
end
section
variable {K:FZ9}{σ:St}{G:Hp}{α β γ δ:Type}[Rp α][Rp β][Rp γ][Rp δ]{ta tb tc td:TE}{ma:Option α}{mb:Option β}{mc:Option γ}{md:Option δ}
section
variable {sa sb:Option Str}{ia ib:Option Int}
def Ja (a b:Str):Option Str:=if a.length+b.length<=sizeLine then some (a++b) else none
theorem F4 (ea:EV K ta σ G sa)(eb:EV K tb σ G sb):EV K (tOp (Ix K) ta tb) σ G (sa.bind fun a=>sb.bind fun b=>Ja a b) :=
 Bx (fun s ra rb e Q k=>by
  obtain ⟨rfl,z1⟩:=ra;obtain ⟨rfl,z2⟩:=rb;obtain ⟨h,rfl⟩:=Ao e
  exact ⟨h,k _ _ _ (.refl s) ⟨rfl,by rw [len_app];exact h⟩⟩) ea eb
theorem JD {p:Int->Int->Bool}{q:List Nat->List Nat->Bool}(ea:EV K ta σ G sa)(eb:EV K tb σ G sb):EV K (tOp (K5 p q) ta tb) σ G (sa.bind fun a=>sb.bind fun b=>some (q a.cps.toList b.cps.toList)) :=
 Bx (fun s ra rb e Q k=>by obtain ⟨rfl,z1⟩:=ra;obtain ⟨rfl,z2⟩:=rb;cases e;exact k _ _ _ (.refl s) rfl) ea eb
theorem ER (ea:EV K ta σ G sa)(eb:EV K tb σ G sb):EV K (tOp rEq ta tb) σ G (sa.bind fun a=>sb.bind fun b=>some (decide (a=b))) :=
 Bx (fun s ra rb e Q k=>by obtain ⟨rfl,z1⟩:=ra;obtain ⟨rfl,z2⟩:=rb;cases e;exact ⟨rfl,k _ _ _ (.refl s) (by show V.bl _=V.bl _;congr 1;simp)⟩) ea eb
theorem L5 (ea:EV K ta σ G sa)(eb:EV K tb σ G sb):EV K (tOp rNe ta tb) σ G (sa.bind fun a=>sb.bind fun b=>some (!decide (a=b))) :=
 Bx (fun s ra rb e Q k=>by obtain ⟨rfl,z1⟩:=ra;obtain ⟨rfl,z2⟩:=rb;cases e;exact ⟨rfl,k _ _ _ (.refl s) (by show V.bl _=V.bl _;congr 1;simp)⟩) ea eb
def inS (a b:Str):Bool:=!(Builtin.Str.occurrences b a 0 b.length 1).isEmpty
theorem ev_inS (ea:EV K ta σ G sa)(eb:EV K tb σ G sb):EV K (tOp (fun x y H Q=>∃ i j,x = .str i/\y = .str j/\Q (.bl (!(Builtin.Str.occurrences j i 0 j.length 1).isEmpty)) H) ta tb) σ G (sa.bind fun a=>sb.bind fun b=>some (inS a b)) :=
 Bx (fun s ra rb e Q k=>by obtain ⟨rfl,z1⟩:=ra;obtain ⟨rfl,z2⟩:=rb;cases e;exact ⟨_,_,rfl,rfl,k _ _ _ (.refl s) rfl⟩) ea eb
theorem ev_atS (ea:EV K ta σ G sa)(eb:EV K tb σ G ib):EV K (tOp (rAt K) ta tb) σ G (sa.bind fun a=>ib.bind fun i=>(atI a.cps.toList i).bind fun c=>some (⟨#[c]⟩:Str)) :=
 Bx (fun s ra rb e Q k=>by
  obtain ⟨rfl,z1⟩:=ra;cases rb;obtain ⟨c,hc,e⟩:=qaA.mp e;cases e
  exact ⟨z1,c,hc,k _ _ _ (.refl s) ⟨rfl,by show 1<=sizeLine;decide⟩⟩) ea eb
end
theorem EB {R:V->α->Prop}{xs:List V}{as:List α}{i:Int}{a:α}(p:Paired R xs as)(h:atI as i=some a):∃ v,atI xs i=some v/\R v a:=by
 have hl:=Paired.length p;unfold atI at h ⊢;obtain ⟨j,hj,h⟩:=qaA.mp h;rw [hl,hj]
 have hlt:j<xs.length:=by
  have:=(qsA.mp h).1;omega
 exact ⟨xs[j],qtA hlt,Paired.at' p (qtA hlt) h⟩
theorem Paired.app {α β:Type}{F:α->β->Prop}:∀ {l1 l2:List α}{m1 m2:List β},Paired F l1 m1->Paired F l2 m2->Paired F (l1++l2) (m1++m2)
 | _,_,_,_,.nil,h=>h
 | _,_,_,_,.cons r t,h=>.cons r (Paired.app t h)
theorem Paired.tk {α β:Type}{F:α->β->Prop}:∀ (n:Nat) {l:List α}{m:List β},Paired F l m->Paired F (l.take n) (m.take n)
 | 0,_,_,_=>by simpa using .nil
 | n+1,_,_,.nil=>by simpa using .nil
 | n+1,_,_,.cons r t=>.cons r (Paired.tk n t)
theorem Paired.dp {α β:Type}{F:α->β->Prop}:∀ (n:Nat) {l:List α}{m:List β},Paired F l m->Paired F (l.drop n) (m.drop n)
 | 0,_,_,h=>h
 | n+1,_,_,.nil=>by simpa using .nil
 | n+1,_,_,.cons r t=>Paired.dp n t
theorem Paired.rep {α β:Type}{F:α->β->Prop}{l:List α}{m:List β}(h:Paired F l m):∀ n:Nat,Paired F (List.replicate n l).flatten (List.replicate n m).flatten
 | 0=>.nil
 | n+1=>by
  rw [List.replicate_succ,List.replicate_succ,List.flatten_cons,List.flatten_cons];exact Paired.app h (Paired.rep h n)
section
variable {la lb:Option (List α)}{ia ib:Option Int}
theorem Ed (ea:EV K ta σ G la)(eb:EV K tb σ G ib):EV K (tOp (rAt K) ta tb) σ G (la.bind fun a=>ib.bind fun i=>atI a i) :=
 Bx (fun s ra rb e Q k=>by
  obtain ⟨l,xs,rfl,h,z,p⟩:=ra;cases rb;obtain ⟨v,hv,r⟩:=EB p e
  exact .inl ⟨xs,v,.inl (s.rd h),hv,k _ _ _ (.refl s) r⟩) ea eb
theorem F1 {τ:Type}[Rp τ]{mt:Option τ}{i:Int}{f:τ->α}(h:∀ {G:Hp}{v:V}{p:τ},Rp.rel K G v p->∃ t xs w,v = .ref t/\SqT K G t xs/\atI xs i=some w/\Rp.rel K G w (f p))(ea:EV K ta σ G mt) :
  EV K (tOp (rAt K) ta (tC (.int i))) σ G (mt.bind fun p=>some (f p)):=by
 clear 7;obtain ⟨a,ha,hc⟩:=qaA.mp hc;cases hc;clear 8 ea a ha;obtain ⟨t,xs,w,rfl,ht,hw,r⟩:=h r2;exact .inr ⟨xs,w,x2.gh.tup ht,hw,k _ _ _ x2 r⟩
theorem ev_fst {mt:Option (α × β)}(ea:EV K ta σ G mt):EV K (tOp (rAt K) ta (tC (.int 0))) σ G (mt.bind fun p=>some p.1) :=
 F1 (τ:=α × β) (fun ⟨t,a,b,e,h,r1,r2⟩=>⟨t,_,a,e,h,rfl,r1⟩) ea
theorem ev_snd {mt:Option (α × β)}(ea:EV K ta σ G mt):EV K (tOp (rAt K) ta (tC (.int 1))) σ G (mt.bind fun p=>some p.2) :=
 F1 (τ:=α × β) (fun ⟨t,a,b,e,h,r1,r2⟩=>⟨t,_,b,e,h,rfl,r2⟩) ea
theorem FS {mt:Option (T4 α β γ δ)}(ea:EV K ta σ G mt):EV K (tOp (rAt K) ta (tC (.int 0))) σ G (mt.bind fun p=>some p.a) :=
 F1 (τ:=T4 α β γ δ) (fun ⟨t,a,b,c,d,e,h,r1,r2,r3,r4⟩=>⟨t,_,a,e,h,rfl,r1⟩) ea
theorem DP {mt:Option (T4 α β γ δ)}(ea:EV K ta σ G mt):EV K (tOp (rAt K) ta (tC (.int 1))) σ G (mt.bind fun p=>some p.b) :=
 F1 (τ:=T4 α β γ δ) (fun ⟨t,a,b,c,d,e,h,r1,r2,r3,r4⟩=>⟨t,_,b,e,h,rfl,r2⟩) ea
theorem GN {mt:Option (T4 α β γ δ)}(ea:EV K ta σ G mt):EV K (tOp (rAt K) ta (tC (.int 2))) σ G (mt.bind fun p=>some p.c) :=
 F1 (τ:=T4 α β γ δ) (fun ⟨t,a,b,c,d,e,h,r1,r2,r3,r4⟩=>⟨t,_,c,e,h,rfl,r3⟩) ea
theorem Dl {mt:Option (T4 α β γ δ)}(ea:EV K ta σ G mt):EV K (tOp (rAt K) ta (tC (.int 3))) σ G (mt.bind fun p=>some p.d) :=
 F1 (τ:=T4 α β γ δ) (fun ⟨t,a,b,c,d,e,h,r1,r2,r3,r4⟩=>⟨t,_,d,e,h,rfl,r4⟩) ea
theorem FN {H:Hp}{Q:VK}{as:List α}{G1:Hp}(s:Same G1 H){vs:List V}(hz:vs.length<=sizeLine)(hp:Paired (Rp.rel K G1) vs as)
  (k:∀ p vs G2 H2,Ext G1 H G2 H2->H p=none->G2 p=none->H2 p=some (.lst vs)->vs.length<=sizeLine->Paired (Rp.rel K G2) vs as->Q (.ref p) H2):∀ p,H p=none->Q (.ref p) (upd H p (.lst vs)) :=
 fun p h=>k p vs G1 _ (.own s h) h (s.free h) AI hz hp
theorem FV.mono {H H' G1 G2:Hp}{as:List α}{Q:VK}(x:Ext G1 H G2 H')
  (k:∀ p vs G3 H3,Ext G1 H G3 H3->H p=none->G3 p=none->H3 p=some (.lst vs)->vs.length<=sizeLine->Paired (Rp.rel K G3) vs as->Q (.ref p) H3) :
  ∀ p vs G3 H3,Ext G2 H' G3 H3->H' p=none->G3 p=none->H3 p=some (.lst vs)->vs.length<=sizeLine->Paired (Rp.rel K G3) vs as->Q (.ref p) H3 :=
 fun p vs G3 H3 y h0=>k p vs G3 H3 (x.trans y) (x.hh.free h0)
def KY {α:Type}(a b:List α):Option (List α):=if a.length+b.length<=sizeLine then some (a++b) else none
theorem JM (ea:EV K ta σ G la)(eb:EV K tb σ G lb):FV K (tOp (Ix K) ta tb) σ G (la.bind fun a=>lb.bind fun b=>KY a b):=by
 clear 7;obtain ⟨a,ha,hc⟩:=qaA.mp hc;obtain ⟨b,hb,hc⟩:=qaA.mp hc;obtain ⟨hl,rfl⟩:=Ao hc;clear 8 ea a ha;refine eb G2 (s1.trans x2.gg) b hb H2 x2.gh _ fun u G3 H3 x3 r3=>?_;obtain ⟨l1,xs,rfl,h1,z1,p1⟩:=Rp.mono x3.gg r2;obtain ⟨l2,ys,rfl,h2,z2,p2⟩:=r3;have e1:=Paired.length p1;have e2:=Paired.length p2;have hz:(xs++ys).length<=sizeLine:=by rw [qeA];omega
 exact ⟨xs,ys,x3.gh.rd h1,x3.gh.rd h2,by rw [qeA] at hz;exact hz,FN x3.gh hz (Paired.app p1 p2) (FV.mono (x2.trans x3) k)⟩
def FD {α:Type}(xs:List α)(lo hi:Option Int):List α:=(xs.drop (HT.sIx xs.length 0 lo)).take (HT.sIx xs.length xs.length hi - HT.sIx xs.length 0 lo)
theorem Paired.cut {α:Type}{R:V->α->Prop}{xs:List V}{as:List α}(p:Paired R xs as)(lo hi:Option Int):Paired R (Ko xs lo hi) (FD as lo hi):=by
 unfold Ko FD;rw [Paired.length p];exact Paired.tk _ (Paired.dp _ p)
section
variable {t1 t2:TO}{m1 m2:Option (Option Int)}
theorem EK:OV Lx σ G (some none):=fun G1 s1 a ha H sH Q k=>by
 cases ha;exact k _ _ (.refl sH)
theorem Fu (ea:EV K ta σ G ia):OV (tPart ta) σ G (ia.bind fun i=>some (some i)):=by
 clear 7;obtain ⟨a,ha,hc⟩:=qaA.mp hc;cases hc;clear 8 ea a ha;cases r2;exact ⟨_,rfl,k _ _ x2⟩
theorem Ez (ea:EV K ta σ G la)(e1:OV t1 σ G m1)(e2:OV t2 σ G m2):FV K (tSl (rSl K) ta t1 t2) σ G (la.bind fun a=>m1.bind fun lo=>m2.bind fun hi=>some (FD a lo hi)):=by
 clear 7;obtain ⟨a,ha,hc⟩:=qaA.mp hc;obtain ⟨lo,hlo,hc⟩:=qaA.mp hc;obtain ⟨hi,hhi,hc⟩:=qaA.mp hc;cases hc;clear 8 ea a ha;refine e1 G2 (s1.trans x2.gg) lo hlo H2 x2.gh _ fun G3 H3 x3=>?_;refine e2 G3 (s1.trans (x2.trans x3).gg) hi hhi H3 x3.gh _ fun G4 H4 x4=>?_;obtain ⟨l,xs,rfl,h,z,p⟩:=Rp.mono (x3.trans x4).gg r2;exact ⟨xs,.inl (x4.gh.rd h),FN x4.gh (qyA (Gg _ _ _) z) (Paired.cut p lo hi) (FV.mono ((x2.trans x3).trans x4) k)⟩
end
end
section
variable {t:TA}{n:Nat}{ml:Option (List α)}
theorem D4:LV K BZ σ G 0 (some ([]:List α)):=fun G1 s1 a ha H sH Q k=>by
 cases ha;exact k _ _ _ (.refl sH) rfl .nil
theorem B8 (ea:EV K ta σ G ma)(er:LV K t σ G n ml):LV K (Ab ta t) σ G (n+1) (ma.bind fun a=>ml.bind fun r=>some (a::r)):=by
 clear 7;obtain ⟨a,ha,hc⟩:=qaA.mp hc;obtain ⟨r,hr,hc⟩:=qaA.mp hc;cases hc;clear 8 ea a ha;refine er G2 (s1.trans x2.gg) r hr H2 x2.gh _ fun vs G3 H3 x3 hl hp=>?_;exact k _ _ _ (x2.trans x3) (by rw [qfA,hl]) (.cons (Rp.mono x3.gg r2) hp)
theorem DB (e:LV K t σ G n ml)(hn:n<=sizeLine:=by decide):FV K (MG t) σ G ml:=by
 clear 7;refine e G1 s1 c hc H sH _ fun vs G2 H2 x2 hl hp=>?_;exact ⟨by omega,FN x2.gh (by omega) hp (FV.mono x2 k)⟩
theorem JR (ea:EV K ta σ G ma)(eb:EV K tb σ G mb):EV K (tTup (Ab ta (Ab tb BZ))) σ G (ma.bind fun a=>mb.bind fun b=>some (a,b)):=by
 clear 7;obtain ⟨a,ha,hc⟩:=qaA.mp hc;obtain ⟨b,hb,hc⟩:=qaA.mp hc;cases hc;clear 8 ea a ha;refine eb G2 (s1.trans x2.gg) b hb H2 x2.gh _ fun u G3 H3 x3 r3=>⟨by show 2<=sizeLine;decide,fun p h=>?_⟩;have s:=Same.new (o:=.tup [v,u]) (x3.gh.free h);exact k _ _ _ ((x2.trans x3).trans (.new x3.gh h)) ⟨p,v,u,rfl,SqT.of AI,Rp.mono (x3.gg.trans s) r2,Rp.mono s r3⟩
theorem JH (ea:EV K ta σ G ma)(eb:EV K tb σ G mb)(ec:EV K tc σ G mc)(ed:EV K td σ G md):EV K (tTup (Ab ta (Ab tb (Ab tc (Ab td BZ))))) σ G (ma.bind fun a=>mb.bind fun b=>mc.bind fun c=>md.bind fun d=>some (T4.mk a b c d)):=by
 clear 7;obtain ⟨a,ha,hc⟩:=qaA.mp hc;obtain ⟨b,hb,hc⟩:=qaA.mp hc;obtain ⟨c',hc',hc⟩:=qaA.mp hc;obtain ⟨d,hd,hc⟩:=qaA.mp hc;cases hc;clear 8 ea a ha;refine eb G2 (s1.trans x2.gg) b hb H2 x2.gh _ fun u G3 H3 x3 r3=>?_;refine ec G3 (s1.trans (x2.trans x3).gg) c' hc' H3 x3.gh _ fun w G4 H4 x4 r4=>?_;refine ed G4 (s1.trans ((x2.trans x3).trans x4).gg) d hd H4 x4.gh _ fun y G5 H5 x5 r5=>⟨by show 4<=sizeLine;decide,fun p h=>?_⟩;have s:=Same.new (o:=.tup [v,u,w,y]) (x5.gh.free h);exact k _ _ _ ((((x2.trans x3).trans x4).trans x5).trans (.new x5.gh h)) ⟨p,v,u,w,y,rfl,SqT.of AI,Rp.mono (((x3.trans x4).trans x5).gg.trans s) r2,Rp.mono ((x4.trans x5).gg.trans s) r3,Rp.mono (x5.gg.trans s) r4,Rp.mono s r5⟩
end
section
variable {t:TA}{A B:Type}[RpA A][RpA B]{mA:Option A}
theorem av_nil:AV K BZ σ G (some ()):=fun G1 s1 a ha H sH Q k=>by
 cases ha;exact k _ _ _ (.refl sH) rfl
theorem av_cons (ea:EV K ta σ G ma)(er:AV K t σ G mA):AV K (Ab ta t) σ G (ma.bind fun a=>mA.bind fun r=>some (a,r)):=by
 clear 7;obtain ⟨a,ha,hc⟩:=qaA.mp hc;obtain ⟨r,hr,hc⟩:=qaA.mp hc;cases hc;clear 8 ea a ha;refine er G2 (s1.trans x2.gg) r hr H2 x2.gh _ fun vs G3 H3 x3 hp=>?_;exact k _ _ _ (x2.trans x3) ⟨v,vs,rfl,Rp.mono x3.gg r2,hp⟩
def spM (K:FZ9){A:Type}{ρ:Type}[RpA A][Rp ρ](m:A->Option ρ):Sp:=fun vs H Q _ =>
 ∃ G a r,Same G H/\RpA.rel K G vs a/\m a=some r/\∀ v G2 H2,Ext G H G2 H2->Rp.rel K G2 v r->Q v H2
theorem JL {A:Type}{ρ:Type}[RpA A][Rp ρ]{m:A->Option ρ}{vs:List V}{H:Hp}{Q:VK}{E:XK}(h:spM K m vs H Q E):vs.length=RpA.n A:=by
 obtain ⟨G,a,r,_,h,_⟩:=h;exact RpA.len h
theorem By {la:Option (List α)}(ea:EV K ta σ G la):EV K (tCB (JV K) (Ab ta BZ)) σ G (la.bind fun a=>some (a.length:Int)):=by
 clear 7;obtain ⟨a,ha,hc⟩:=qaA.mp hc;cases hc;clear 8 ea a ha;obtain ⟨l,xs,rfl,h,z,p⟩:=r2;exact ⟨xs,.inl (.inl (x2.gh.rd h)),by rw [Paired.length p];exact k _ _ _ x2 rfl⟩
theorem ev_len2 {la:Option (α × β)}(ea:EV K ta σ G la):EV K (tCB (JV K) (Ab ta BZ)) σ G (la.bind fun _=>some (2:Int)):=by
 clear 7;obtain ⟨a,ha,hc⟩:=qaA.mp hc;cases hc;clear 8 ea a ha;obtain ⟨t,x,y,rfl,h,_⟩:=r2;exact ⟨_,.inr (x2.gh.tup h),k _ _ _ x2 rfl⟩
theorem ev_lenS {sa:Option Str}(ea:EV K ta σ G sa):EV K (tCB (JV K) (Ab ta BZ)) σ G (sa.bind fun a=>some (a.length:Int)):=by
 clear 7;obtain ⟨a,ha,hc⟩:=qaA.mp hc;cases hc;clear 8 ea a ha;obtain ⟨rfl,z⟩:=r2;exact ⟨z,k _ _ _ x2 rfl⟩
theorem ev_min {ia ib:Option Int}(ea:EV K ta σ G ia)(eb:EV K tb σ G ib):EV K (tCB (fun xs H Q=>∃ i j,xs=[.int i,.int j]/\Q (.int (if j<i then j else i)) H) (Ab ta (Ab tb BZ))) σ G (ia.bind fun a=>ib.bind fun b=>some (if b<a then b else a)):=by
 clear 7;obtain ⟨a,ha,hc⟩:=qaA.mp hc;obtain ⟨b,hb,hc⟩:=qaA.mp hc;cases hc;clear 8 ea a ha;refine eb G2 (s1.trans x2.gg) b hb H2 x2.gh _ fun u G3 H3 x3 r3=>?_;cases r2;cases r3;exact ⟨_,_,rfl,k _ _ _ (x2.trans x3) rfl⟩
theorem HL {la:Option (List α)}(ea:EV K ta σ G la):FV K (tCB (fun xs H Q=>∃ p ys,xs=[.ref p]/\(SqL K H p ys\/SqT K H p ys)/\∀ l,H l=none->Q (.ref l) (upd H l (.lst ys))) (Ab ta BZ)) σ G la:=by
 intro G1 s1 a ha H sH Q k;clear 8 ea a ha;obtain ⟨l,xs,rfl,h,z,p⟩:=r2;exact ⟨l,xs,rfl,.inl (.inl (x2.gh.rd h)),FN x2.gh z p (FV.mono x2 k)⟩
end
inductive TyS (K:FZ9)(H:Hp):V->String->Prop where
 | non:TyS K H .non "NoneType"
 | bl (x:Bool):TyS K H (.bl x) "bool"
 | int (i:Int):TyS K H (.int i) "int"
 | str (x:Str):TyS K H (.str x) "str"
 | lst {a:Addr}{xs:List V}(e:SqL K H a xs):TyS K H (.ref a) "list"
 | tup {a:Addr}{xs:List V}(e:SqT K H a xs):TyS K H (.ref a) "tuple"
 | dK {a:Addr}{kvs:List (Key × V)}(e:Rd H a (.dK kvs)):TyS K H (.ref a) "dict"
 | dT {a:Addr}{kvs:List (List Key × V)}(e:Rd H a (.dT kvs)):TyS K H (.ref a) "dict"
def LS (K:FZ9):List V->Hp->VK->Prop:=fun vs H Q=>∃ x t T b,vs=[x,.ty T]/\TyS K H x t/\MO t T=some b/\Q (.bl b) H
theorem MH {X:Cx}:CI X (.builtin "isinstance") (LS X.K):=by
 intro pins s σ H vs us Q I r h;obtain ⟨x,t,T,b,rfl,ty,e,q⟩:=h;obtain ⟨u,w',rfl,rx,r2⟩:=Lr r;obtain rfl:w'=Value.type T:=r2;have e:=kit_of (K:=X.K) e;have fin:∀ tk,EP X pins σ Q (.bool b) { s with toks:=tk }:=fun tk=>⟨.bl b,H,I.tok tk,rfl,q⟩
 cases ty with
 | non=>cases (show u=Value.none from rx);exact PySem.W.kia_one PySem.W.kitx_none I.kIn True.intro e (fun z=>nomatch z) fin
 | bl y=>cases (show u=Value.bool y from rx);exact PySem.W.kia_one PySem.W.kitx_bool I.kIn True.intro e (fun z=>nomatch z) fin
 | int i=>obtain ⟨t,q'⟩:=(show ∃ t,u=Value.int i t from rx);cases q';exact PySem.W.kia_one PySem.W.kitx_int I.kIn True.intro e (fun z=>nomatch z) fin
 | str y=>obtain ⟨t,q'⟩:=(show ∃ t,u=Value.str y t from rx);cases q';exact PySem.W.kia_one PySem.W.kitx_str I.kIn True.intro e (fun z=>nomatch z) fin
 | @lst a xs ea =>
  cases (show u=Value.ref a from rx);obtain ⟨its,_,pl,_⟩:=I.list ea;obtain ⟨o,n,h1,h2,_⟩:=pl;exact PySem.W.kia_one PySem.W.kitx_list I.kIn ⟨o,h1,h2⟩ e (fun z=>nomatch z) fin
 | @tup a xs ea =>
  cases (show u=Value.ref a from rx);obtain ⟨its,_,pl,_⟩:=I.tuple ea;obtain ⟨o,h1,h2,_⟩:=pl;exact PySem.W.kia_one PySem.W.kitx_tuple I.kIn ⟨o,h1,h2⟩ e (fun z=>nomatch z) fin
 | @dK a kvs ea =>
  cases (show u=Value.ref a from rx);obtain ⟨_,_,vs,_,p⟩:=ea.ok I.hok;obtain ⟨o,es,ep,h1,h2,_⟩:=p;exact PySem.W.kia_one PySem.W.kitx_dict I.kIn ⟨o,h1,h2.1⟩ e (fun z=>nomatch z) fin
 | @dT a kvs ea =>
  cases (show u=Value.ref a from rx);obtain ⟨_,_,xs,_,o,es,ep,h1,h2,_⟩:=ea.ok I.hok;exact PySem.W.kia_one PySem.W.kitx_dict I.kIn ⟨o,h1,h2.1⟩ e (fun z=>nomatch z) fin
class RpT (α:Type) [Rp α] where
 tn:String
 ty:∀ {K:FZ9}{H:Hp}{v:V}{a:α},Rp.rel K H v a->TyS K H v tn
instance rtInt:RpT Int:=⟨"int",fun h=>by cases h;exact .int _⟩
instance rtStr:RpT Str:=⟨"str",fun h=>by obtain ⟨rfl,_⟩:=h;exact .str _⟩
instance rtList:RpT (List α):=⟨"list",fun h=>by obtain ⟨l,xs,rfl,h,_⟩:=h;exact .lst (.inl h)⟩
instance rtPair:RpT (α × β):=⟨"tuple",fun h=>by obtain ⟨l,x,y,rfl,h,_⟩:=h;exact .tup h⟩
instance rtT4:RpT (T4 α β γ δ):=⟨"tuple",fun h=>by obtain ⟨l,x,y,z,w,rfl,h,_⟩:=h;exact .tup h⟩
theorem TyS.mono {H H':Hp}{v:V}{t:String}(s:Same H H')(h:TyS K H v t):TyS K H' v t:=by
 cases h with
 | non=>exact .non
 | bl=>exact .bl _
 | int=>exact .int _
 | str=>exact .str _
 | lst e=>exact .lst (s.seq e)
 | tup e=>exact .tup (s.tup e)
 | dK e=>exact .dK (s.rd e)
 | dT e=>exact .dT (s.rd e)
theorem Bl [RpT α]{T:String}{b:Bool}(h:MO (RpT.tn α) T=some b)(ea:EV K ta σ G ma):EV K (tCB (LS K) (Ab ta (Ab (tC (.ty T)) BZ))) σ G (ma.bind fun _=>some b):=by
 clear 7;obtain ⟨a,ha,hc⟩:=qaA.mp hc;cases hc;clear 8 ea a ha;exact ⟨_,_,_,_,rfl,(RpT.ty r2).mono x2.gh,h,k _ _ _ x2 rfl⟩
theorem EqTy.imp {k:Nat}{α:Type}[DecidableEq α]{R R':Hp->V->α->Prop}(E:EqTy K k R)(h:∀ H v a,R' H v a->R H v a):EqTy K k R' :=
 ⟨fun hK I a b=>E.fn hK I (h _ _ _ a) (h _ _ _ b),fun A hK I hu r1 r2 a b=>E.eq A hK I hu r1 r2 (h _ _ _ a) (h _ _ _ b),fun A hK I hu r1 r2 a b=>E.rc A hK I hu r1 r2 (h _ _ _ a) (h _ _ _ b)⟩
class RpE (α:Type) [Rp α] [DecidableEq α] where
 k:Nat
 ty:∀ K:FZ9,EqTy K k (Rp.rel (α:=α) K)
instance reInt:RpE Int:=⟨0,fun _=>eqInt⟩
instance reStr:RpE Str:=⟨0,fun _=>eqStr.imp fun _ _ _ h=>h.1⟩
instance reList {α:Type}[Rp α][DecidableEq α][RpE α]:RpE (List α):=⟨RpE.k α+1,fun K=>(eqLst (RpE.ty K)).imp fun _ _ _ ⟨l,xs,e,h,_,p⟩=>⟨l,xs,e,.inl h,p⟩⟩
theorem EqTy.up {k j:Nat}{α:Type}[DecidableEq α]{R:Hp->V->α->Prop}(E:EqTy K k R)(h:k<=j):EqTy K j R :=
 ⟨fun hK I a b=>E.fn hK I a b,fun A hK I hu r1 r2 a b=>E.eq A hK I (by omega) r1 r2 a b,fun A hK I hu r1 r2 a b=>E.rc A hK I (by omega) r1 r2 a b⟩
instance rePair {α β:Type}[Rp α][DecidableEq α][RpE α][Rp β][DecidableEq β][RpE β]:RpE (α × β) :=
 ⟨max (RpE.k α) (RpE.k β)+1,fun K=>(eqPair ((RpE.ty (α:=α) K).up (Nat.le_max_left _ _)) ((RpE.ty (α:=β) K).up (Nat.le_max_right _ _)))⟩
section
variable {α:Type}[Rp α][DecidableEq α]{m1 m2:Option α}
def rNeD (K:FZ9)(α:Type)[Rp α][DecidableEq α]:R2:=fun x y H Q=>∃ a b:α,Rp.rel K H x a/\Rp.rel K H y b/\Q (.bl (!decide (a=b))) H
theorem op_neM {X:Cx}{j:Nat}(α:Type)[Rp α][DecidableEq α][RpE α](hr:Room j X.A)(hk:RpE.k α<=10):OpR X (compareOp .NotEq) (rNeD X.K α):=op_neD (RpE.ty X.K) hr hk
theorem ev_ne (ea:EV K ta σ G m1)(eb:EV K tb σ G m2):EV K (tOp (rNeD K α) ta tb) σ G (m1.bind fun a=>m2.bind fun b=>some (!decide (a=b))) :=
 Bx (fun s ra rb e Q k=>by cases e;exact ⟨_,_,Rp.mono s ra,Rp.mono s rb,k _ _ _ (.refl s) rfl⟩) ea eb
end
end
inductive Fl (S ρ:Type) where
 | nx (s:S)
 | bk (s:S)
 | rt (r:ρ)
def Ck {α S ρ:Type}(f:α->S->Option (Fl S ρ)):List α->S->Option (Fl S ρ)
 | [],s=>some (.nx s)
 | a::as,s=>(f a s).bind fun fl=>match fl with
  | .nx s'=>Ck f as s'
  | .bk s'=>some (.nx s')
  | .rt r=>some (.rt r)
def Gj {α β:Type}(fc:α->Option Bool)(fe:α->Option β):List α->Option (List β)
 | []=>some []
 | a::r=>(fc a).bind fun b=>cond b ((fe a).bind fun y=>(Gj fc fe r).bind fun ys=>some (y::ys)) (Gj fc fe r)
def C9 {α β:Type}(fe:α->Option β):List α->Option (List β)
 | []=>some []
 | a::r=>(fe a).bind fun y=>(C9 fe r).bind fun ys=>some (y::ys)
theorem Hx {α β:Type}(fe:α->Option β):∀ as,Gj (fun _=>some true) fe as=C9 fe as
 | []=>rfl
 | a::r=>by
  show ((fe a).bind fun y=>(Gj (fun _=>some true) fe r).bind fun ys=>some (y::ys))=_;rw [Hx fe r]
  rfl
def Hm (lo hi:Int):Option (List Int):=if (-(2 ^ 62)<=lo/\lo<2 ^ 62/\-(2 ^ 62)<=hi/\hi<2 ^ 62)/\(hi - lo).toNat<=sizeLine then some ((List.range (hi - lo).toNat).map fun (i:Nat)=>lo+(i:Int)) else none
section
variable {K:FZ9}{σ:St}{G:Hp}{α β γ δ:Type}[Rp α][Rp β][Rp γ][Rp δ]{ta tb tc td:TE}{ma:Option α}{mb:Option β}{mc:Option γ}{md:Option δ}
def IW (K:FZ9){α:Type}[Rp α](wi:TI)(σ:St)(G:Hp)(m:Option (List α)):Prop :=
 ∀ G1,Same G G1->∀ a,m=some a->∀ H,Same G1 H->∀ R:It->Hp->Prop,(∀ J vs G2 H2,Ext G1 H G2 H2->Yields J G2 vs->vs.length<=sizeLine->Paired (Rp.rel K G2) vs a->R J H2)->wi σ H R
theorem LG {a:Addr}{xs:List V}{H:Hp}(h:SqT K H a xs):Yields (Itt K a) H xs where
 go:=fun i H' s hi=>⟨xs,xs[i],s.tup h,by simp [hi]⟩
 stop:=fun H' s=>⟨xs,s.tup h,qxA _⟩
 yld:=fun i H' v H'' s _ y=>⟨y.1,y.2 xs (s.tup h)⟩
theorem BU {la:Option (List α)}(ea:EV K ta σ G la):IW K (iAny K ta) σ G la:=by
 intro G1 s1 a ha H sH R k;clear 8 ea a ha;obtain ⟨l,xs,rfl,h,z,p⟩:=r2;exact .inl ⟨⟨xs,.inl (x2.gh.rd h)⟩,k _ xs G2 H2 x2 (Gm (.inl h)) z p⟩
def FY (x:Str):List Str:=x.cps.toList.map fun c=>(⟨#[c]⟩:Str)
theorem GC (x:Str)(H:Hp):Paired (Rp.rel K H) (D8 x) (FY x):=by
 unfold D8 FY
 induction x.cps.toList with
 | nil=>exact .nil
 | cons c r ih=>exact .cons ⟨rfl,by show 1<=sizeLine;decide⟩ ih
theorem iw_str {sa:Option Str}(ea:EV K ta σ G sa):IW K (iAny K ta) σ G (sa.bind fun a=>some (FY a)):=by
 intro G1 s1 a ha H sH R k;obtain ⟨b,hb,ha⟩:=qaA.mp ha;cases ha;clear 8 ea b hb;obtain ⟨rfl,z⟩:=r2;exact k _ (D8 b) G2 H2 x2 (IF b G2) (by unfold D8;rw [qdA];exact z) (GC b G2)
theorem Gp (H:Hp)(f:Nat->Int):∀ l:List Nat,Paired (Rp.rel K H) (l.map fun i=>V.int (f i)) (l.map fun i=>f i)
 | []=>.nil
 | a::r=>.cons rfl (Gp H f r)
theorem DG {ia:Option Int}(ea:EV K ta σ G ia):IW K (iRng1 (Ab ta BZ)) σ G (ia.bind fun j=>Hm 0 j):=by
 intro G1 s1 a ha H sH R k;obtain ⟨j,hj,ha⟩:=qaA.mp ha;obtain ⟨⟨hb,hz⟩,rfl⟩:=Ao ha;clear 8 ea j hj;cases r2;refine ⟨j,rfl,hb.2.2.1,hb.2.2.2,?_⟩;have e:(j - 0).toNat=j.toNat:=by omega
 rw [e] at hz k;exact k (Itr 0 j.toNat) _ G2 H2 x2 (Jb 0 j.toNat G2) (by rw [qdA,qhA];exact hz) (Gp G2 (fun i=>(0:Int)+(i:Int)) _)
theorem tv_yes:TV tYes σ G (some true):=fun G1 s1 a ha H sH Q k=>by
 cases ha;exact k _ _ (.refl sH)
theorem Paired.getR {F:V->α->Prop}:∀ {xs:List V}{as:List α}{i:Nat}{v:V},Paired F xs as->xs[i]? = some v->∃ a,as[i]? = some a/\F v a
 | _,_,_,_,.nil,e=>by simp at e
 | _,_,0,_,.cons r _,e=>by simp at e;subst e;exact ⟨_,rfl,r⟩
 | _,_,i+1,_,.cons _ t,e=>Paired.getR (i:=i) t (by simpa using e)
theorem fv_comp {cap:List Nat}{wi:TI}{tt:TT}{te:TE}{mi:Option (List α)}{fc:α->Option Bool}{fe:α->Option β}(ei:IW K wi σ G mi)
  (hb:∀ (x:V) (a:α) (G1:Hp),Same G G1->Rp.rel K G1 x a->TV tt ((D0 cap σ).set 0 (some x)) G1 (fc a)/\EV K te ((D0 cap σ).set 0 (some x)) G1 (fe a)) :
  FV K (Lq cap wi tt te) σ G (mi.bind fun as=>Gj fc fe as):=by
 clear 7;obtain ⟨as,has,hc⟩:=qaA.mp hc;refine ei G1 s1 as has H sH _ fun J vs Ga Ha xa Y hz pr p hp=>?_;have hla:=Paired.length pr
 refine ⟨fun i m ys H2=>m=vs.length - i/\i<=vs.length/\∃ G2 bs cs,Ext Ga Ha G2 H2/\G2 p=none/\H2 p=some (.lst ys)/\ys.length<=i/\Paired (Rp.rel K G2) ys bs/\Gj fc fe (as.drop i)=some cs/\c=bs++cs,
  ⟨vs.length,by simp,qtB _,Ga,[],c,.own xa.gh hp,xa.gh.free hp,AI,qxA _,.nil,hc,rfl⟩,?_⟩
 rintro i m ys H2 ⟨rfl,hi,G2,bs,cs,x2,hg,hh,hy,hpr,hcs,rfl⟩;by_cases hlt:i<vs.length
 ·refine .inr ⟨Y.go i _ (x2.gg.trans x2.gh) hlt,fun ys' H'=>∃ G2 bs' cs',Ext Ga Ha G2 H'/\G2 p=none/\H' p=some (.lst ys')/\ys'.length<=i+1/\Paired (Rp.rel K G2) ys' bs'/\Gj fc fe (as.drop (i+1))=some cs'/\bs++cs=bs'++cs',
   fun ys' H' ⟨G3,bs',cs',h⟩=>⟨vs.length - (i+1),by omega,rfl,hlt,G3,bs',cs',h⟩,fun x H3 y=>?_⟩
  obtain ⟨rfl,hx⟩:=Y.yld i _ x H3 (x2.gg.trans x2.gh) hlt y;obtain ⟨a,hai,ra⟩:=Paired.getR pr hx
  have hd:as.drop i=a::as.drop (i+1):=by
   obtain ⟨h1,h2⟩:=qsA.mp hai;rw [List.drop_eq_getElem_cons h1,h2]
  rw [hd] at hcs;obtain ⟨b,hbb,hcs⟩:=qaA.mp hcs;have B:=hb x a G2 (s1.trans (xa.gg.trans x2.gg)) (Rp.mono x2.gg ra);refine B.1 G2 (.refl _) b hbb _ x2.gh _ fun G5 H5 x5=>?_;have hp5:H5 p=some (.lst ys):=x5.hh _ _ hh;have hg5:G5 p=none:=x5.no p hg (by rw [hh];exact fun z=>nomatch z)
  cases b with
  | false =>
   rw [if_neg qjB];exact ⟨G5,bs,cs,x2.trans x5,hg5,hp5,by omega,Paired.imp' (fun _ _ r=>Rp.mono x5.gg r) hpr,hcs,rfl⟩
  | true =>
   rw [if_pos rfl];obtain ⟨z,hze,hcs⟩:=qaA.mp hcs;obtain ⟨cs',hcs',hcs⟩:=qaA.mp hcs;cases hcs;refine B.2 G5 x5.gg z hze H5 x5.gh _ fun v G6 H6 x6 r6=>?_;have hp6:H6 p=some (.lst ys):=x6.hh _ _ hp5;have hg6:G6 p=none:=x6.no p hg5 (by rw [hp5];exact fun z=>nomatch z);refine ⟨hp6,by omega,G6,bs++[z],cs',((x2.trans x5).trans x6).put hp hg6,hg6,AI,?_,Paired.app (Paired.imp' (fun _ _ r=>Rp.mono (x5.trans x6).gg r) hpr) (.cons r6 .nil),hcs',by simp⟩;rw [qeA,qgA];omega
 ·have e:i=vs.length:=by omega
  subst e;have hd:as.drop vs.length=[]:=List.drop_eq_nil_of_le (by omega);rw [hd] at hcs;cases hcs;refine .inl ⟨Y.stop _ (x2.gg.trans x2.gh),?_⟩;rw [qwA] at k;exact k p ys G2 H2 (xa.trans x2) (xa.hh.free hp) hg hh (by omega) hpr
theorem Bp {cap:List Nat}{wi:TI}{te:TE}{mi:Option (List α)}{fe:α->Option β}(ei:IW K wi σ G mi)
  (hb:∀ (x:V) (a:α) (G1:Hp),Same G G1->Rp.rel K G1 x a->EV K te ((D0 cap σ).set 0 (some x)) G1 (fe a)) :
  FV K (Lq cap wi tYes te) σ G (mi.bind fun as=>C9 fe as):=by
 have h:=fv_comp (tt:=tYes) (fc:=fun _=>some true) ei fun x a G1 s r=>⟨tv_yes,hb x a G1 s r⟩;have e:(fun as=>Gj (fun _=>some true) fe as)=fun as=>C9 fe as:=funext (Hx fe);rw [e] at h;exact h
def Ee (z:Str)(ys:List Str):Option Str:=if (ys.map (·.length)).sum+ys.length * z.length<=16777216 then some (Txt.join z ys) else none
theorem Gk {H:Hp}:∀ {xs:List V}{ys:List Str},Paired (Rp.rel K H) xs ys->xs=ys.map V.str
 | _,_,.nil=>rfl
 | _,_,.cons r t=>by
  obtain ⟨rfl,_⟩:=r;rw [Gk t]
  rfl
theorem Ll (z:Str):∀ (ps:List Str) (acc:Array Nat),(ps.foldl (fun acc p=>acc++z.cps++p.cps) acc).size=acc.size+(ps.map (·.length)).sum+ps.length * z.length
 | [],acc=>by simp
 | p::ps,acc=>by
  rw [qsB,Ll z ps];simp only [Array.size_append,quA,List.sum_cons,qfA,Nat.succ_mul];have:p.cps.size=p.length:=rfl;have:z.cps.size=z.length:=rfl;omega
theorem join_len (z:Str)(ys:List Str):(Txt.join z ys).length<=(ys.map (·.length)).sum+ys.length * z.length:=by
 show ((ys.drop 1).foldl (fun acc p=>acc++z.cps++p.cps) (ys.headD Str.empty).cps).size<=_;rw [Ll]
 cases ys with
 | nil=>simp;rfl
 | cons a r =>
  simp only [List.headD_cons,List.drop_succ_cons,List.drop_zero,quA,List.sum_cons,qfA,Nat.succ_mul];have:a.cps.size=a.length:=rfl;omega
theorem HE {sa:Option Str}{lb:Option (List Str)}(ea:EV K ta σ G sa)(eb:EV K tb σ G lb):EV K (tBM K "str" (rJoin K) ta (Ab tb BZ)) σ G (sa.bind fun z=>lb.bind fun ys=>Ee z ys):=by
 clear 7;obtain ⟨a,ha,hc⟩:=qaA.mp hc;obtain ⟨b,hb,hc⟩:=qaA.mp hc;obtain ⟨hz,rfl⟩:=Ao hc;clear 8 ea a ha;obtain ⟨rfl,za⟩:=r2;refine ⟨rfl,?_⟩;refine eb G2 (s1.trans x2.gg) b hb H2 x2.gh _ fun u G3 H3 x3 r3=>?_;obtain ⟨l,xs,rfl,h,z,p⟩:=r3;obtain rfl:=Gk p;exact ⟨a,l,b,rfl,rfl,.inl (x3.gh.rd h),hz,k _ _ _ (x2.trans x3) ⟨rfl,qyA (join_len _ _) (by rw [qeB];exact hz)⟩⟩
def repL {α:Type}(a:List α)(k:Int):Option (List α):=if (-(2 ^ 63)<=k/\k<2 ^ 63)/\a.length * k.toNat<=sizeLine then some (List.replicate k.toNat a).flatten else none
end
section
variable {K:FZ9}{σ:St}{G H:Hp}{α β:Type}[Rp α][Rp β]{te:TE}{tt:TT}{t u rest:TS}{D:Ends}{i:Nat}{a:α}{m:Option α}
theorem Av (e:EV K te σ G m)(hm:m=some a)(s:Same G H)(k:∀ v G2 H2,Ext G H G2 H2->Rp.rel K G2 v a->rest D (σ.set i (some v)) H2):Ds (LN te (Es i)) rest D σ H:=e.run hm s k
theorem sv_drop (e:EV K te σ G m)(hm:m=some a)(s:Same G H)(k:∀ G2 H2,Ext G H G2 H2->rest D σ H2):Ds (Eb te) rest D σ H:=e.run hm s fun _ G2 H2 x _=>k G2 H2 x
theorem AR (e:EV K te σ G m)(hm:m=some a)(s:Same G H)(k:∀ v G2 H2,Ext G H G2 H2->Rp.rel K G2 v a->D.rt v H2):Ds (tRet te) rest D σ H:=e.run hm s k
theorem B2 {b:Bool}{m:Option Bool}(e:TV tt σ G m)(hm:m=some b)(s:Same G H)(k:∀ G2 H2,Ext G H G2 H2->if b=true then t { D with nx:=rest D } σ H2 else u { D with nx:=rest D } σ H2) :
  Ds (Ie tt t u) rest D σ H:=e.run hm s k
theorem E9 (Pv:St->Hp->Prop)(h:∀ nx:St->Hp->Prop,(∀ σ' H',Pv σ' H'->nx σ' H')->Ds t Bj { D with nx:=nx } σ H)(key:∀ σ' H',Pv σ' H'->rest D σ' H'):Ds t rest D σ H:=h (rest D) key
structure LoopOb (K:FZ9){α S ρ:Type}[Rp α](RR:ρ->V->Hp->Hp->Prop)(f:α->S->Option (Fl S ρ))(g:TG)(tb:TS)(D:Ends)(σ:St)(G2 H2:Hp)(as:List α)(s0:S)(res:Fl S ρ)(RS:S->St->Hp->Hp->Prop):Prop where
 start:RS s0 σ G2 H2
 keep:∀ s σ' G' H',RS s σ' G' H'->Same G2 G'/\Same G' H'
 step:∀ (x:V) (a:α) (s:S) (σ1:St) (G1 H1:Hp) (fl:Fl S ρ),a∈as->RS s σ1 G1 H1->Rp.rel K G1 x a->f a s=some fl->∀ D':Ends,(∀ s' σ' G' H',fl = .nx s'->RS s' σ' G' H'->D'.nx σ' H')->(∀ s' σ' G' H',fl = .nx s'->RS s' σ' G' H'->D'.ct σ' H') ->
  (∀ s' σ' G' H',fl = .bk s'->RS s' σ' G' H'->D'.bk σ' H')->(∀ r v G' H',fl = .rt r->RR r v G' H'->D'.rt v H')->g x σ1 H1 fun σ2 H2=>tb D' σ2 H2
 nxt:∀ s σ' G' H',res = .nx s->RS s σ' G' H'->D.nx σ' H'
 rtn:∀ r v G' H',res = .rt r->RR r v G' H'->D.rt v H'
theorem D6 {S ρ:Type}{RR:ρ->V->Hp->Hp->Prop}{f:α->S->Option (Fl S ρ)}{wi:TI}{g:TG}{tb:TS}{mi:Option (List α)}{as:List α}{s0:S}{res:Fl S ρ}(ei:IW K wi σ G mi)(hm:mi=some as)(hf:Ck f as s0=some res)(sg:Same G H)
  (k:∀ G2 H2,Ext G H G2 H2->∃ RS,LoopOb K RR f g tb { D with nx:=rest D } σ G2 H2 as s0 res RS):Ds (tFor wi g tb) rest D σ H:=by
 refine ei G (.refl G) as hm H sg _ fun J vs G2 H2 x2 Y hz pr=>?_;obtain ⟨RS,L⟩:=k G2 H2 x2;have hla:=Paired.length pr;refine ⟨fun i m σ' H'=>m=vs.length - i/\i<=vs.length/\∃ s G',RS s σ' G' H'/\Ck f (as.drop i) s=some res,⟨vs.length,by simp,qtB _,s0,G2,L.start,hf⟩,?_⟩;rintro i m σ' H' ⟨rfl,hi,s,G',rs,hfo⟩;obtain ⟨k1,k2⟩:=L.keep _ _ _ _ rs;by_cases hlt:i<vs.length
 ·refine .inr ⟨Y.go i _ (k1.trans k2) hlt,fun σ'' H''=>∃ s' G'',RS s' σ'' G'' H''/\Ck f (as.drop (i+1)) s'=some res,fun σ'' H'' ⟨s',G'',h⟩=>⟨vs.length - (i+1),by omega,rfl,hlt,s',G'',h⟩,fun x H3 y=>?_⟩;obtain ⟨rfl,hx⟩:=Y.yld i _ x H3 (k1.trans k2) hlt y;obtain ⟨a,hai,ra⟩:=Paired.getR pr hx
  have hd:as.drop i=a::as.drop (i+1):=by
   obtain ⟨h1,h2⟩:=qsA.mp hai;rw [List.drop_eq_getElem_cons h1,h2]
  rw [hd] at hfo;obtain ⟨fl,hfl,hfo⟩:=qaA.mp hfo;refine L.step x a s σ' G' _ fl (qrA hai) rs (Rp.mono k1 ra) hfl _ ?_ ?_ ?_ ?_
  ·intro s' σ'' G'' H'' e r;subst e;exact ⟨s',G'',r,hfo⟩
  ·intro s' σ'' G'' H'' e r;subst e;exact ⟨s',G'',r,hfo⟩
  ·intro s' σ'' G'' H'' e r;subst e;exact L.nxt s' σ'' G'' H'' (qaB hfo).symm r
  ·intro r v G'' H'' e rl;subst e;exact L.rtn r v G'' H'' (qaB hfo).symm rl
 ·have e:i=vs.length:=by omega
  subst e;have hd:as.drop vs.length=[]:=List.drop_eq_nil_of_le (by omega);rw [hd] at hfo;exact .inl ⟨Y.stop _ (k1.trans k2),L.nxt s σ' G' H' (qaB hfo).symm rs⟩
end
structure Own (K:FZ9){α:Type}[Rp α](G H:Hp)(v:V)(p:Addr)(vs:List V)(as:List α):Prop where
 v:v = .ref p
 g:G p=none
 h:H p=some (.lst vs)
 z:vs.length<=sizeLine
 p:Paired (Rp.rel K G) vs as
section
variable {K:FZ9}{σ:St}{G H G1 H1 G0 H0:Hp}{α β:Type}[Rp α][Rp β]{te ti:TE}{tt:TT}{t u rest:TS}{D:Ends}{i:Nat}{a:α}{m:Option α}{as:List α}{v:V}{p q:Addr}{vs:List V}
theorem Own.ext (o:Own K G H v p vs as)(x:Ext G H G1 H1):Own K G1 H1 v p vs as :=
 ⟨o.v,x.no p o.g (by rw [o.h];exact fun z=>nomatch z),x.hh _ _ o.h,o.z,Paired.imp' (fun _ _ r=>Rp.mono x.gg r) o.p⟩
theorem Own.put {ho:HO}(o:Own K G H v p vs as)(h:p≠q):Own K G (upd H q ho) v p vs as:=⟨o.v,o.g,by rw [AU h];exact o.h,o.z,o.p⟩
theorem Own.tell (o:Own K G H v p vs as):Rp.rel K (upd G p (.lst vs)) v as:=⟨p,vs,o.v,.inl AI,o.z,Paired.imp' (fun _ _ r=>Rp.mono (Same.new o.g) r) o.p⟩
theorem Own.same (o:Own K G H v p vs as)(s:Same G H):Same (upd G p (.lst vs)) H:=fun b x e=>by
 by_cases hb:b=p
 ·subst hb;rw [AI] at e;rw [o.h];exact e
 ·rw [AU hb] at e;exact s b x e
theorem Jh {m:Option (List α)}{as:List α}(e:FV K te σ G m)(hm:m=some as)(s:Same G H)(k:∀ p vs G2 H2,Ext G H G2 H2->H p=none->Own K G2 H2 (.ref p) p vs as->rest D (σ.set i (some (.ref p))) H2):Ds (LN te (Es i)) rest D σ H :=
 e G (.refl G) as hm H s _ fun p vs G2 H2 x h0 hg hh hz hp=>k p vs G2 H2 x h0 ⟨rfl,hg,hh,hz,hp⟩
def D1 {α:Type}(as:List α)(a:α):Option (List α):=if as.length<sizeLine then some (as++[a]) else none
theorem DI {as':List α}(hσ:σ[i]? = some (some v))(o:Own K G H v p vs as)(e:EV K te σ G m)(hm:m=some a)(hp:D1 as a=some as')(s:Same G H)
  (k:∀ G2 H2 w,Ext G H G2 H2->Own K G2 (upd H2 p (.lst (vs++[w]))) v p (vs++[w]) as'->rest D σ (upd H2 p (.lst (vs++[w])))):Ds (Eb (tBM K "list" Dh (GJ i) (Ab te BZ))) rest D σ H:=by
 obtain ⟨hl,rfl⟩:=Ao hp;have hlen:=Paired.length o.p;obtain ⟨rfl,og,oh,oz,op⟩:=o;refine ⟨_,hσ,.inl ⟨rfl,_,SqL.of oh⟩,?_⟩;refine e.run hm s fun w G2 H2 x r=>?_;refine ⟨p,vs,w,rfl,rfl,x.hh _ _ oh,by omega,?_⟩;refine k G2 H2 w x ⟨rfl,x.no p og (by rw [oh];exact fun z=>nomatch z),AI,?_,Paired.app (Paired.imp' (fun _ _ r=>Rp.mono x.gg r) op) (.cons r .nil)⟩;rw [qeA,qgA];omega
structure TupK (H H':Hp):Prop where
 rd:∀ b xs,Rd H b (.tup xs)->Rd H' b (.tup xs)
 eq:∀ b xs,H b=some (.tup xs)->H' b=some (.tup xs)
class Imm (α:Type) [Rp α]:Prop where
 im:∀ {K:FZ9}{H H':Hp}{v:V}{a:α},TupK H H'->Rp.rel K H v a->Rp.rel K H' v a
def del (G:Hp)(p:Addr):Hp:=fun b=>if b=p then none else G b
theorem LO {G:Hp}{p b:Addr}(h:b≠p):del G p b=G b:=by unfold del;rw [if_neg h]
theorem Kd {G:Hp}{p:Addr}:del G p p=none:=by unfold del;rw [if_pos rfl]
theorem Ext.del {ho:HO}{G2 H2:Hp}(hg:G p=none)(x:Ext (upd G p ho) H G2 H2):Ext G H (L2.del G2 p) H2 :=
 ⟨fun b o e=>by
  have hb:b≠p:=Ah e hg;rw [LO hb]
  exact x.gg b o (by rw [AU hb];exact e),fun b o e=>by
  by_cases hb:b=p
  ·subst hb;rw [Kd] at e;cases e
  ·rw [LO hb] at e
   exact x.gh b o e,x.hh,fun b h1 h2=>by
  by_cases hb:b=p
  ·subst hb;exact Kd
  ·rw [LO hb]
   exact x.no b (by rw [AU hb];exact h1) h2⟩
theorem TV.runB {mb:Option Bool}{b:Bool}{Q:Bool->Hp->Prop}(o:Own K G H v p vs as)(e:TV tt σ (upd G p (.lst vs)) mb)(hm:mb=some b)(s:Same G H)(k:∀ G2 H2,Ext G H G2 H2->Q b H2):tt σ H Q :=
 e.run hm (o.same s) fun G2 H2 x=>k (del G2 p) H2 (x.del o.g)
end
section
variable {K:FZ9}{σ:St}{G:Hp}
theorem BO {ρ A0:Type}[Rp ρ][Rp A0]{t0:TE}{m0:Option A0}{m:A0 × Unit->Option ρ}(e0:EV K t0 σ G m0):EV K (J6 (spM K m) [] E0 (Ab t0 BZ)) σ G (m0.bind fun a0=>m (a0,())):=by
 clear 7;obtain ⟨a0,ha0,hc⟩:=qaA.mp hc;refine e0 G1 s1 a0 ha0 H sH _ fun v0 G2 H2 x0 r0=>?_;have y0:=x0;exact ⟨G2,_,c,y0.gh,⟨v0,_,rfl,r0,rfl⟩,hc,fun v G9 H9 x9 r9=>k v G9 H9 (y0.trans x9) r9⟩
theorem Ag {ρ A0 A1:Type}[Rp ρ][Rp A0][Rp A1]{t0 t1:TE}{m0:Option A0}{m1:Option A1}{m:A0 × A1 × Unit->Option ρ}(e0:EV K t0 σ G m0)(e1:EV K t1 σ G m1):EV K (J6 (spM K m) [] E0 (Ab t0 (Ab t1 BZ))) σ G (m0.bind fun a0=>m1.bind fun a1=>m (a0,a1,())):=by
 clear 7;obtain ⟨a0,ha0,hc⟩:=qaA.mp hc;obtain ⟨a1,ha1,hc⟩:=qaA.mp hc;refine e0 G1 s1 a0 ha0 H sH _ fun v0 G2 H2 x0 r0=>?_;have y0:=x0;refine e1 G2 (s1.trans y0.gg) a1 ha1 H2 y0.gh _ fun v1 G3 H3 x1 r1=>?_;have y1:=y0.trans x1;exact ⟨G3,_,c,y1.gh,⟨v0,_,rfl,(Rp.mono x1.gg r0),⟨v1,_,rfl,r1,rfl⟩⟩,hc,fun v G9 H9 x9 r9=>k v G9 H9 (y1.trans x9) r9⟩
section
variable {ta tb:TE}{a b:Bool}{tt tu:TT}{mb:Option Bool}
theorem TV.of {m m':Option Bool}(e:TV tt σ G m)(h:m=m'):TV tt σ G m':=h ▸ e
theorem Cu (ea:TV tt σ G (some a))(eb:TV tu σ G (some b)):TV (tOr tt tu) σ G (some (a || b)):=(Df ea eb).of (by cases a<;>rfl)
theorem TruV.mono {G H:Hp}{v:V}{k:Bool}(s:Same G H)(h:TruV K v G k):TruV K v H k:=by
 cases v with
 | ref p =>
  rcases h with ⟨xs,hx,e⟩ | ⟨xs,hx,e⟩ | ⟨kvs,hx,e⟩
  ·exact .inl ⟨xs,s.seq hx,e⟩
  ·exact .inr (.inl ⟨xs,s.tup hx,e⟩)
  ·exact .inr (.inr ⟨kvs,s _ _ hx,e⟩)
 | _=>exact h
theorem Ce {mb:Option Bool}(ea:EV K ta σ G mb):TV (fun σ H Q=>ta σ H fun x H'=>∃ k,TruV K x H' k/\Q k H') σ G mb:=by
 have h:=tv_tru (K:=K) (f:=fun (a:Bool)=>a) (fun {G v a}(r:Rp.rel K G v a)=>by cases r;exact rfl) (fun s=>TruV.mono s) ea;refine h.of ?_;cases mb<;>rfl
end
theorem cT {α:Type}{A B:Option α}{r:Option α}(h:cond true A B=r):A=r:=h
theorem cF {α:Type}{A B:Option α}{r:Option α}(h:cond false A B=r):B=r:=h
theorem CM {i:Nat}{x:V}{σ:St}{H:Hp}{tb:TS}{D:Ends}(h:tb D (σ.set i (some x)) H):Es i x σ H fun σ2 H2=>tb D σ2 H2:=h
end
section
variable {K:FZ9}{σ:St}{G H:Hp}{α β γ:Type}[Rp α][Rp β][Rp γ]{ta tb te:TE}{ia ib:Option Int}{c:Int}{rest t u:TS}{D:Ends}{i j:Nat}{tt:TT}
theorem Fk (ea:EV K ta σ G ia)(hc:-(2 ^ 64)<c/\c<2 ^ 64:=by decide):EV K (tOp (rMul K) ta (tC (.int c))) σ G (ia.bind fun a=>some (a * c)):=by
 have h:=Jr ea (Aw (K:=K) (σ:=σ) (G:=G) (i:=c))
 have e:(ia.bind fun a=>(some c).bind fun b=>IT a b)=ia.bind fun a=>some (a * c):=by
  congr 1;funext a
  show IT a c=_;unfold IT;rw [if_pos (.inr hc)]
 exact h.of e
theorem ev_mulL (eb:EV K tb σ G ib)(hc:-(2 ^ 64)<c/\c<2 ^ 64:=by decide):EV K (tOp (rMul K) (tC (.int c)) tb) σ G (ib.bind fun b=>some (c * b)):=by
 have h:=Jr (Aw (K:=K) (σ:=σ) (G:=G) (i:=c)) eb
 have e:((some c).bind fun a=>ib.bind fun b=>IT a b)=ib.bind fun b=>some (c * b):=by
  show (ib.bind fun b=>IT c b)=_
  congr 1;funext b
  unfold IT;rw [if_pos (.inl hc)]
 exact h.of e
theorem BJ (ea:EV K ta σ G ia)(hc:0<c:=by decide):EV K (tOp (rI (fun _ j=>0<j) fun i j=>.int (i % j)) ta (tC (.int c))) σ G (ia.bind fun a=>some (a % c)):=by
 have h:=GG ea (Aw (K:=K) (σ:=σ) (G:=G) (i:=c))
 have e:(ia.bind fun a=>(some c).bind fun b=>IX a b)=ia.bind fun a=>some (a % c):=by
  congr 1;funext a
  show IX a c=_;unfold IX;rw [if_pos hc]
 exact h.of e
theorem Cv (ea:EV K ta σ G ia)(hc:0<c/\c<1073741824:=by decide):EV K (tOp (rI LI fun i j=>.int (i / j)) ta (tC (.int c))) σ G (ia.bind fun a=>some (a / c)):=by
 have h:=ev_div ea (Aw (K:=K) (σ:=σ) (G:=G) (i:=c))
 have e:(ia.bind fun a=>(some c).bind fun b=>divO a b)=ia.bind fun a=>some (a / c):=by
  congr 1;funext a
  show divO a c=_;unfold divO;rw [if_pos (show LI a c from hc)]
 exact h.of e
structure Scr where
 l:List Int
instance rpScr:Rp Scr:=⟨fun K H v a=>∃ l,v = .ref l/\SqL K H l (a.l.map V.int),fun s ⟨l,e,h⟩=>⟨l,e,s.seq h⟩⟩
theorem Jn {ma:Option Scr}(ea:EV K ta σ G ma):EV K (tCB (JV K) (Ab ta BZ)) σ G (ma.bind fun a=>some (a.l.length:Int)):=by
 clear 7;obtain ⟨a,ha,hc⟩:=qaA.mp hc;cases hc;clear 8 ea a ha;obtain ⟨l,rfl,h⟩:=r2;exact ⟨_,.inl (x2.gh.seq h),by rw [qdA];exact k _ _ _ x2 rfl⟩
theorem Ln {H:Hp}:∀ ns:List Int,Paired (Rp.rel K H) (ns.map V.int) ns
 | []=>.nil
 | _::r=>.cons rfl (Ln r)
theorem ev_atX {ma:Option Scr}(ea:EV K ta σ G ma)(eb:EV K tb σ G ib):EV K (tOp (rAt K) ta tb) σ G (ma.bind fun a=>ib.bind fun i=>atI a.l i) :=
 Bx (fun s ra rb e Q k=>by
  obtain ⟨l,rfl,h⟩:=ra;cases rb;obtain ⟨v,hv,r⟩:=EB (Ln (K:=K) _) e
  exact .inl ⟨_,v,s.seq h,hv,k _ _ _ (.refl s) r⟩) ea eb
theorem op_repR {X:Cx}:OpR X (binaryOp .Mult) (fun x y H Q=>∃ l k xs,x = .ref l/\y = .int k/\Rd H l (.lst xs)/\-(2 ^ 63)<=k/\k<2 ^ 63/\xs.length * k.toNat<=sizeLine/\∀ p,H p=none->Q (.ref p) (upd H p (.lst (List.replicate k.toNat xs).flatten))):=by
 intro pins s σ H x y v u Q I rx ry h;obtain ⟨l,k,xs,rfl,rfl,hH,h1,h2,hz,q⟩:=h;cases rx;obtain ⟨t,rfl⟩:=ry;obtain ⟨z,its,n,r,e⟩:=hH.ok I.hok;have hl:=r.length;have hlen:its.toArray.size * k.toNat<=sizeLine:=by rw [qkB,<- hl];exact hz
 have hcap:¬ its.toArray.size * k.toNat > (2 ^ 63 - 1) / 8:=by
  have:(sizeLine:Nat)<=(2 ^ 63 - 1) / 8:=by decide
  omega
 have hfit:¬ (!Builtin.List.listFitsIndex k)=true:=by
  rw [fitsIndex_both h1 h2];exact qjB
 have hlong:¬ Builtin.List.listTooLong (its.toArray.size * k.toNat)=true:=by
  rw [Hj hlen];exact qjB
 have hnew:List.foldl (fun x1 x2=>x1++x2) #[] (List.replicate (if its.toArray.isEmpty=true then 0 else k.toNat) its.toArray)=(List.replicate k.toNat its).flatten.toArray:=by
  have f0:∀ m:Nat,List.foldl (fun x1 x2=>x1++x2) #[] (List.replicate m its.toArray)=(List.replicate m its).flatten.toArray:=fun m=>by
   have:=GP its m [];rw [List.nil_append] at this;exact this
  rw [f0]
  cases its with
  | nil=>simp
  | cons a r'=>rw [if_neg (by simp)]
 refine wpAny_binaryOp_repeat_ref (T := "list") (U := "int") (by decide) ⟨_,e,rfl⟩ (fun s'=>typeIs_int s' k t) noFill_list_mul F.fills_int_mul F.slot_int_rmul repeat_list F.slot_int_index.lookup
  (call_meets F.slot_int_rmul (typeIs_int s k t) F.entry_int_rmul (F.args_int_rmul_2 _ _) (int___rmul___int_list k t l its.toArray n)
   ⟨e,rfl,⟨_,e,rfl⟩,call_meets F.slot_list_mul ⟨_,e,rfl⟩ F.entry_list_mul (F.args_list_mul_2 _ _) (AutoListH.list___mul___list_int_3 l its.toArray n k t hfit hcap hlong) ⟨e,?_⟩⟩)
 rw [hnew];exact ⟨.ref _,_,I.lnew (t':=s.toks) (r.rep k.toNat) (by rw [Jd,Nat.mul_comm];exact hz),rfl,q _ I.fresh⟩
theorem fv_rep {la:Option (List α)}(ea:EV K ta σ G la)(eb:EV K tb σ G ib) :
  FV K (tOp (fun x y H Q=>∃ l k xs,x = .ref l/\y = .int k/\Rd H l (.lst xs)/\-(2 ^ 63)<=k/\k<2 ^ 63/\xs.length * k.toNat<=sizeLine/\∀ p,H p=none->Q (.ref p) (upd H p (.lst (List.replicate k.toNat xs).flatten))) ta tb) σ G (la.bind fun a=>ib.bind fun b=>repL a b):=by
 clear 7;obtain ⟨a,ha,hc⟩:=qaA.mp hc;obtain ⟨b,hb,hc⟩:=qaA.mp hc;obtain ⟨⟨hl,hz⟩,rfl⟩:=Ao hc;clear 8 ea a ha;refine eb G2 (s1.trans x2.gg) b hb H2 x2.gh _ fun u G3 H3 x3 r3=>?_;obtain ⟨l1,xs,rfl,h1,z1,p1⟩:=Rp.mono x3.gg r2;cases r3;have e1:=Paired.length p1;rw [<- e1] at hz;exact ⟨l1,b,xs,rfl,rfl,x3.gh.rd h1,hl.1,hl.2,hz,FN x3.gh (by rw [Jd,Nat.mul_comm];exact hz) (Paired.rep p1 _) (FV.mono (x2.trans x3) k)⟩
theorem sv_ifB {b:Bool}{m:Option Bool}{v:V}{p:Addr}{vs:List V}{as:List β}(o:Own K G H v p vs as)(e:TV tt σ (upd G p (.lst vs)) m)(hm:m=some b)(s:Same G H)(k:∀ G2 H2,Ext G H G2 H2->if b=true then t { D with nx:=rest D } σ H2 else u { D with nx:=rest D } σ H2) :
  Ds (Ie tt t u) rest D σ H:=TV.runB o e hm s k
end
section
variable {X:Cx}{K:FZ9}
theorem op_plusK (h:X.K=K):OpR X (binaryOp .Add) (Ix K):=h ▸ op_plus
theorem Dg (h:X.K=K):OpR X (binaryOp .Mult) (rMul K):=h ▸ op_mulU
theorem Fj (h:X.K=K):SlR X (rSl K):=h ▸ sl_any
theorem ix_anyK (h:X.K=K):IxR X (rAt K):=h ▸ ix_any
theorem Me (h:X.K=K):CI X (.builtin "len") (JV K):=h ▸ MC
theorem AZ (h:X.K=K):CI X (.builtin "isinstance") (LS K):=h ▸ MH
theorem Fo (h:X.K=K):MtR X "str.join" (rJoin K):=h ▸ mt_join
theorem LB {j:Nat}(h:X.K=K)(α:Type)[Rp α][DecidableEq α][RpE α](hr:Room j X.A)(hk:RpE.k α<=10):OpR X (compareOp .NotEq) (rNeD K α):=h ▸ op_neM α hr hk
theorem Cr (h:X.K=K):CI X (.type "list") (fun xs H Q=>∃ p ys,xs=[.ref p]/\(SqL K H p ys\/SqT K H p ys)/\∀ l,H l=none->Q (.ref l) (upd H l (.lst ys))):=h ▸ Jp
theorem B7 {tg l:Expr}{tl:TE}(h:X.K=K)(hl:PE X l tl):PI X tg l (iAny K tl):=h ▸ pi_any hl
theorem Ml {a:Expr}{ta:TE}(h:X.K=K)(ha:PE X a ta)(he:∀ whole,isTrue a X.env whole=(do let v <- whole;standAt a.pos;holding [v] (truthy v))) :
  PT X a (fun σ H Q=>ta σ H fun x H'=>∃ k,TruV K x H' k/\Q k H'):=h ▸ pt_truth ha he
section
variable {o e:Expr}{es:List Expr}{to:TE}{t:TA}{name:Str}{apos cpos:Pos}{T id:String}{r:V->List V->Hp->VK->Prop}
theorem Dq (h:X.K=K)(pa:PlainAttrs T)(slot:Slot T name id)(hty:typeOf (.builtin id)=pure (.type "method_descriptor"))(hm:MtR X id r)(ho:PE X o to)(ha:PA X (e::es) t)
  (hbase:attributeBase o name X.env (eval o X.env)=eval o X.env:=by rfl)
  (hfew:((backTo cpos (starEach (e::es) X.env)).all (fun x=>!x.1) && (backToKw cpos (keywordEach [] X.env)).all (fun x=>x.1.isSome)
   && decide ((e::es).length+([]:List Keyword).length+(if ([]:List Keyword).isEmpty then 0 else 1)<30))=true:=by rfl)
  (hline:(apos.endLine == cpos.line)=true:=by rfl) (hs:starEach (e::es) X.env=(false,eval e X.env)::starEach es X.env:=by rfl) (hplain:(backTo cpos (starEach es X.env)).any (·.1)=false:=by rfl) :
  PE X (.Call (.Attribute o name apos) (e::es) [] cpos) (tBM K T r to t):=h ▸ pe_bm pa slot hty hm ho ha hbase hfew hline hs hplain
end
end
theorem EX {f:St->Hp->Prop}{rt:VK}{bk ct:St->Hp->Prop}{σ:St}{H:Hp}(h:f σ H):({ nx:=f,rt:=rt,bk:=bk,ct:=ct }:Ends).nx σ H:=h
section
variable {K:FZ9}{σ:St}{G H:Hp}{α β γ:Type}[Rp α][Rp β][Rp γ]{ta tb te:TE}{rest t u:TS}{D:Ends}{i j:Nat}
def extO {α:Type}(as bs:List α):Option (List α):=if as.length+bs.length<=sizeLine then some (as++bs) else none
theorem GM {ml:Option (List α)}{as bs as':List α}{v:V}{p:Addr}{vs:List V}(hσ:σ[i]? = some (some v))(o:Own K G H v p vs as)(e:FV K te σ G ml)(hm:ml=some bs)(hp:extO as bs=some as')(s:Same G H)
  (k:∀ G2 H2 ws,Ext G H G2 H2->Own K G2 (upd H2 p (.lst (vs++ws))) v p (vs++ws) as'->rest D σ (upd H2 p (.lst (vs++ws)))):Ds (Eb (tBM K "list" Lf (GJ i) (Ab te BZ))) rest D σ H:=by
 obtain ⟨hl,rfl⟩:=Ao hp;have hlen:=Paired.length o.p;obtain ⟨rfl,og,oh,oz,op⟩:=o;refine ⟨_,hσ,.inl ⟨rfl,_,SqL.of oh⟩,?_⟩;refine e G (.refl G) bs hm H s _ fun q ws G2 H2 x h0 hg hh hz hpr=>?_;have hlw:=Paired.length hpr;refine ⟨p,q,vs,ws,rfl,rfl,x.hh _ _ oh,hh,by omega,?_⟩;refine k G2 H2 ws x ⟨rfl,x.no p og (by rw [oh];exact fun z=>nomatch z),AI,?_,Paired.app (Paired.imp' (fun _ _ r=>Rp.mono x.gg r) op) hpr⟩;rw [qeA];omega
end
inductive D where
 | non
 | bl (b:Bool)
 | int (i:Int)
 | str (x:Str)
 | lst (l:List D)
 | tup (l:List D)
 | dic
mutual
inductive RelD (K:FZ9)(H:Hp):V->D->Prop where
 | non:RelD K H .non .non
 | bl (b:Bool):RelD K H (.bl b) (.bl b)
 | int (i:Int):RelD K H (.int i) (.int i)
 | str (x:Str) (z:x.length<=sizeLine):RelD K H (.str x) (.str x)
 | lst {a:Addr}{xs:List V}{ds:List D}(h:Rd H a (.lst xs)) (z:xs.length<=sizeLine) (r:RelDs K H xs ds):RelD K H (.ref a) (.lst ds)
 | tup {a:Addr}{xs:List V}{ds:List D}(h:SqT K H a xs) (z:xs.length<=sizeLine) (r:RelDs K H xs ds):RelD K H (.ref a) (.tup ds)
 | dK {a:Addr}{kvs:List (Key × V)}(h:Rd H a (.dK kvs)):RelD K H (.ref a) .dic
inductive RelDs (K:FZ9)(H:Hp):List V->List D->Prop where
 | nil:RelDs K H [] []
 | cons {x:V}{d:D}{xs:List V}{ds:List D}(h:RelD K H x d) (t:RelDs K H xs ds):RelDs K H (x::xs) (d::ds)
end
mutual
theorem RelD.mono {K:FZ9}{H H':Hp}(s:Same H H'):∀ {v:V}{d:D},RelD K H v d->RelD K H' v d
 | _,_,.non=>.non
 | _,_,.bl b=>.bl b
 | _,_,.int i=>.int i
 | _,_,.str x z=>.str x z
 | _,_,.lst h z r=>.lst (s.rd h) z (RelDs.mono s r)
 | _,_,.tup h z r=>.tup (s.tup h) z (RelDs.mono s r)
 | _,_,.dK h=>.dK (s.rd h)
theorem RelDs.mono {K:FZ9}{H H':Hp}(s:Same H H'):∀ {v:List V}{d:List D},RelDs K H v d->RelDs K H' v d
 | _,_,.nil=>.nil
 | _,_,.cons h t=>.cons (RelD.mono s h) (RelDs.mono s t)
end
instance rpD:Rp D:=⟨RelD,fun s h=>RelD.mono s h⟩
theorem Kb {K:FZ9}{H:Hp}:∀ {xs:List V}{ds:List D},Paired (Rp.rel K H) xs ds->RelDs K H xs ds
 | _,_,.nil=>.nil
 | _,_,.cons h t=>.cons h (Kb t)
theorem DO {K:FZ9}{H:Hp}:∀ {xs:List V}{ds:List D},RelDs K H xs ds->Paired (Rp.rel K H) xs ds
 | _,_,.nil=>.nil
 | _,_,.cons h t=>.cons h (DO t)
class ToD (α:Type) [Rp α] where
 to:α->D
 rel:∀ {K:FZ9}{H:Hp}{v:V}{a:α},Rp.rel K H v a->RelD K H v (to a)
theorem toDs {K:FZ9}{H:Hp}{α:Type}[Rp α][ToD α]:∀ {xs:List V}{as:List α},Paired (Rp.rel K H) xs as->Paired (Rp.rel (α:=D) K H) xs (as.map ToD.to)
 | _,_,.nil=>.nil
 | _,_,.cons h t=>.cons (ToD.rel h) (toDs t)
instance tdD:ToD D:=⟨id,fun h=>h⟩
instance tdInt:ToD Int:=⟨.int,fun h=>by cases h;exact .int _⟩
instance tdStr:ToD Str:=⟨.str,fun h=>by obtain ⟨rfl,z⟩:=h;exact .str _ z⟩
instance tdList {α:Type}[Rp α][ToD α]:ToD (List α):=⟨fun l=>.lst (l.map ToD.to),fun ⟨l,xs,e,h,z,p⟩=>by subst e;exact .lst h z (Kb (toDs p))⟩
instance tdPair {α β:Type}[Rp α][ToD α][Rp β][ToD β]:ToD (α × β):=⟨fun p=>.tup [ToD.to p.1,ToD.to p.2],fun ⟨t,x,y,e,h,r1,r2⟩=>by subst e;exact .tup h (by show 2<=sizeLine;decide) (.cons (ToD.rel r1) (.cons (ToD.rel r2) .nil))⟩
def dk:D->String
 | .non => "NoneType"
 | .bl _ => "bool"
 | .int _ => "int"
 | .str _ => "str"
 | .lst _ => "list"
 | .tup _ => "tuple"
 | .dic => "dict"
def isK (T:String)(d:D):Bool:=dk d == T || (T == "int" && dk d == "bool")
def lenD:D->Option Int
 | .str x=>some (x.length:Int)
 | .lst l=>some (l.length:Int)
 | .tup l=>some (l.length:Int)
 | _=>none
def atD:D->Int->Option D
 | .lst l,i=>atI l i
 | .tup l,i=>atI l i
 | .str x,i=>(atI x.cps.toList i).bind fun c=>some (.str ⟨#[c]⟩)
 | _,_=>none
def iterD:D->Option (List D)
 | .lst l=>some l
 | .tup l=>some l
 | .str x=>some ((FY x).map D.str)
 | _=>none
section
variable {K:FZ9}{σ:St}{G:Hp}{α β:Type}[Rp α][Rp β]{ta tb te:TE}{md:Option D}
theorem D9 [ToD α]{m:Option α}(e:EV K te σ G m):EV K te σ G (m.bind fun a=>some (ToD.to a)):=by
 clear 7;obtain ⟨a,ha,hc⟩:=qaA.mp hc;cases hc;exact e G1 s1 a ha H sH Q fun v G2 H2 x r=>k v G2 H2 x (ToD.rel r)
theorem RelD.ty {H:Hp}{v:V}{d:D}(r:RelD K H v d):TyS K H v (dk d):=by
 cases r with
 | non=>exact .non
 | bl=>exact .bl _
 | int=>exact .int _
 | str=>exact .str _
 | lst h=>exact .lst (.inl h)
 | tup h=>exact .tup h
 | dK h=>exact .dK h
theorem kit_all:∀ n∈["NoneType","bool","int","str","list","tuple","dict"],∀ T∈["str","list","tuple","bool","int","dict"],MO n T=some (n == T || (T == "int" && n == "bool")):=by decide +kernel
theorem isK_ok {T:String}(hT:T∈["str","list","tuple","bool","int","dict"])(d:D):MO (dk d) T=some (isK T d):=by
 unfold isK;exact kit_all (dk d) (by cases d<;>simp [dk]) T hT
theorem Ex {T:String}(hT:T∈["str","list","tuple","bool","int","dict"])(ea:EV K ta σ G md):EV K (tCB (LS K) (Ab ta (Ab (tC (.ty T)) BZ))) σ G (md.bind fun d=>some (isK T d)):=by
 clear 7;obtain ⟨a,ha,hc⟩:=qaA.mp hc;cases hc;clear 8 ea a ha;exact ⟨_,_,_,_,rfl,(RelD.ty r2).mono x2.gh,isK_ok hT a,k _ _ _ x2 rfl⟩
theorem RelDs.len {H:Hp}{xs:List V}{ds:List D}(r:RelDs K H xs ds):xs.length=ds.length:=Paired.length (DO r)
theorem JS (ea:EV K ta σ G md):EV K (tCB (JV K) (Ab ta BZ)) σ G (md.bind fun d=>lenD d):=by
 clear 7;obtain ⟨a,ha,hc⟩:=qaA.mp hc;clear 8 ea a ha
 cases r2 with
 | str x z=>cases hc;exact ⟨z,k _ _ _ x2 rfl⟩
 | lst h z r=>cases hc;exact ⟨_,.inl (.inl (x2.gh.rd h)),by rw [r.len];exact k _ _ _ x2 rfl⟩
 | tup h z r=>cases hc;exact ⟨_,.inr (x2.gh.tup h),by rw [r.len];exact k _ _ _ x2 rfl⟩
 | _=>cases hc
theorem Eu {ib:Option Int}(ea:EV K ta σ G md)(eb:EV K tb σ G ib):EV K (tOp (rAt K) ta tb) σ G (md.bind fun d=>ib.bind fun i=>atD d i) :=
 Bx (fun s ra rb e Q k=>by
  cases rb
  cases ra with
  | str x z =>
   obtain ⟨c,hc,e⟩:=qaA.mp e;cases e;exact ⟨z,c,hc,k _ _ _ (.refl s) (.str _ (by show 1<=sizeLine;decide))⟩
  | lst h z r =>
   obtain ⟨v,hv,r⟩:=EB (DO r) e;exact .inl ⟨_,v,.inl (s.rd h),hv,k _ _ _ (.refl s) r⟩
  | tup h z r =>
   obtain ⟨v,hv,r⟩:=EB (DO r) e;exact .inr ⟨_,v,s.tup h,hv,k _ _ _ (.refl s) r⟩
  | _=>cases e) ea eb
theorem iw_any (ea:EV K ta σ G md):IW K (iAny K ta) σ G (md.bind fun d=>iterD d):=by
 intro G1 s1 a ha H sH R k;obtain ⟨b,hb,ha⟩:=qaA.mp ha;clear 8 ea b hb
 cases r2 with
 | str x z =>
  cases ha;exact k _ (D8 x) G2 H2 x2 (IF x G2) (by unfold D8;rw [qdA];exact z) (toDs (GC x G2))
 | lst h z r=>cases ha;exact .inl ⟨⟨_,.inl (x2.gh.rd h)⟩,k _ _ G2 H2 x2 (Gm (.inl h)) z (DO r)⟩
 | tup h z r=>cases ha;exact .inr ⟨⟨_,x2.gh.tup h⟩,k _ _ G2 H2 x2 (LG h) z (DO r)⟩
 | _=>cases ha
theorem MA {X:Cx}(h:X.K=K):CI X (.type "tuple") (fun xs H Q=>∃ p ys,xs=[.ref p]/\((SqL K H p ys/\∀ l,H l=none->Q (.ref l) (upd H l (.tup ys)))\/(SqT K H p ys/\Q (.ref p) H))):=h ▸ IU
theorem ev_tuple {la:Option (List α)}(ea:EV K ta σ G la):EV K (tCB (fun xs H Q=>∃ p ys,xs=[.ref p]/\((SqL K H p ys/\∀ l,H l=none->Q (.ref l) (upd H l (.tup ys)))\/(SqT K H p ys/\Q (.ref p) H))) (Ab ta BZ)) σ G (la.bind fun a=>some (Tp.mk a)):=by
 clear 7;obtain ⟨a,ha,hc⟩:=qaA.mp hc;cases hc;clear 8 ea a ha;obtain ⟨l,xs,rfl,h,z,p⟩:=r2;refine ⟨l,xs,rfl,.inl ⟨.inl (x2.gh.rd h),fun q hq=>?_⟩⟩;exact k _ _ _ (x2.trans (.new x2.gh hq)) ⟨q,xs,rfl,SqT.of AI,z,Paired.imp' (fun _ _ r=>Rp.mono (Same.new (x2.gh.free hq)) r) p⟩
end
section
variable {K:FZ9}{σ:St}{G:Hp}{ta:TE}
def rAllB (K:FZ9):List V->Hp->VK->Prop:=fun vs H Q=>∃ (l:Addr) (bs:List Bool),vs=[.ref l]/\SqL K H l (bs.map V.bl)/\Q (.bl (bs.all id)) H
theorem bools_at {bs:List Bool}{its:List Value}(r:Vals (bs.map V.bl) its){i:Nat}{v:Value}(h:its.toArray[i]? = some v):v = .bool (bs.getD i true):=by
 have h:its[i]? = some v:=by simpa using h
 have hl:=r.length;rw [qdA] at hl;obtain ⟨hi,_⟩:=qsA.mp h
 have e:(bs.map V.bl)[i]? = some (V.bl (bs.getD i true)):=by
  have:i<bs.length:=by omega
  simp [this]
 obtain ⟨u,hu,ru⟩:=r.get e;rw [h] at hu;cases hu;exact ru
theorem E5 {X:Cx}(hc:X.calm=true)(h:X.K=K):CI X (.builtin "all") (rAllB K):=by
 subst h;intro pins s σ H vs us Q I r h;obtain ⟨l,bs,rfl,hl,q⟩:=h;obtain ⟨u,rfl,ru⟩:=DX r;cases ru;obtain ⟨its,rv,pl,_⟩:=I.list hl;have hL:=pl.isList;have hlt:l<s.heap.objs.size:=by obtain ⟨_,e,_⟩:=hL;exact qbB e
 have hlen:=rv.length;rw [qdA] at hlen;refine call_all_walk (wpAny_pyIter_list hL ?_);refine ⟨_,_,_,_,_,_,fun i=>bs.getD i true,rfl,Walks.list (A:=X.A.in1) (I.ok.hd hc) _ l (qoB hlt) its.toArray,⟨⟨_,qdB _ rfl,rfl,rfl⟩,hL.push _⟩,?_,fun h' tk hk=>?_⟩
 ·intro i v s' Q' E' hP hQ;rw [bools_at rv hP];exact wpAny_truthy_bool hQ
 ·have e:(List.range its.toArray.size).all (fun i=>bs.getD i true)=bs.all id:=by
   rw [qkB,<- hlen];apply Bool.eq_iff_iff.mpr;rw [List.all_eq_true,List.all_eq_true];constructor
   ·intro hh b hb;obtain ⟨i,hi⟩:=List.mem_iff_getElem?.mp hb;have hi2:=(qsA.mp hi).1;have:=hh i (qqA.mpr hi2);rw [List.getD_eq_getElem?_getD,hi] at this;exact this
   ·intro hh i hi;have hi2:=qqA.mp hi;have:=hh bs[i] (List.getElem_mem hi2);rw [List.getD_eq_getElem?_getD,qtA hi2];exact this
  rw [e];refine ⟨.bl _,H,I.kept fun b o eb=>?_,rfl,q⟩;refine hk b o (fun hm=>?_) (qcB _ eb);have:b=s.heap.objs.size:=by simpa using hm
  exact absurd (this ▸ qbB eb) (qzA _)
theorem Fn {H:Hp}:∀ {xs:List V}{ys:List Bool},Paired (Rp.rel K H) xs ys->xs=ys.map V.bl
 | _,_,.nil=>rfl
 | _,_,.cons r t=>by
  cases r;rw [Fn t]
  rfl
theorem IK {lb:Option (List Bool)}(ea:EV K ta σ G lb):EV K (tCB (rAllB K) (Ab ta BZ)) σ G (lb.bind fun bs=>some (bs.all id)):=by
 clear 7;obtain ⟨a,ha,hc⟩:=qaA.mp hc;cases hc;clear 8 ea a ha;obtain ⟨l,xs,rfl,h,z,p⟩:=r2;obtain rfl:=Fn p;exact ⟨l,a,rfl,.inl (x2.gh.rd h),k _ _ _ x2 rfl⟩
end
def OK {α:Type}(m:Option α)(P:α->Prop):Prop:=∃ a,m=some a/\P a
section
variable {α β S ρ:Type}{m:Option α}{P Q:α->Prop}{R:β->Prop}
theorem OK.mono (h:OK m P)(k:∀ a,P a->Q a):OK m Q:=let ⟨a,e,p⟩:=h;⟨a,e,k a p⟩
theorem AD {a:α}(h:P a):OK (some a) P:=⟨a,rfl,h⟩
theorem A9 {f:α->Option β}(h:OK m fun a=>OK (f a) R):OK (m.bind f) R:=by
 obtain ⟨a,rfl,h⟩:=h;exact h
theorem ok_bC {f:α->Option β}(a:α)(e:m=some a)(h:OK (f a) R):OK (m.bind f) R:=A9 ⟨a,e,h⟩
theorem Cb {f:α->Option β}(h:OK m P)(k:∀ a,P a->OK (f a) R):OK (m.bind f) R:=A9 (h.mono k)
theorem AX {b:Bool}{x y:Option α}(h1:b=true->OK x P)(h2:b=false->OK y P):OK (cond b x y) P:=by
 cases b with
 | true=>exact h1 rfl
 | false=>exact h2 rfl
theorem OK.eq {a:α}(h:OK m fun b=>b=a):m=some a:=by obtain ⟨b,e,rfl⟩:=h;exact e
theorem OK.of {a:α}(e:m=some a)(h:P a):OK m P:=⟨a,e,h⟩
theorem AT {α β:Type}(a:α)(f:α->Option β):(some a).bind f=f a:=by rw [Option.bind_some]
theorem Ae {α:Type}(m:Option α):(m.bind fun x=>some x)=m:=by cases m<;>rfl
theorem HP {a b:Int}{P:Int->Prop}(hb:0<b)(h:P (a % b)):OK (IX a b) P:=⟨_,if_pos hb,h⟩
theorem ok_mul {a b:Int}{P:Int->Prop}(hb:CMul a b)(h:P (a * b)):OK (IT a b) P:=⟨_,if_pos hb,h⟩
theorem ok_catS {a b:Str}{P:Str->Prop}(hb:a.length+b.length<=sizeLine)(h:P (a++b)):OK (Ja a b) P:=⟨_,if_pos hb,h⟩
theorem HF {a b:List α}{P:List α->Prop}(hb:a.length+b.length<=sizeLine)(h:P (a++b)):OK (KY a b) P:=⟨_,if_pos hb,h⟩
theorem F2 {a:List α}{b:α}{P:List α->Prop}(hb:a.length<sizeLine)(h:P (a++[b])):OK (D1 a b) P:=⟨_,if_pos hb,h⟩
theorem ok_rep {a:List α}{k:Nat}{P:List α->Prop}(hk:a.length * k<=sizeLine)(hs:k<4611686018427387904)(h:P (List.replicate k a).flatten):OK (repL a (k:Int)) P :=
 ⟨_,if_pos ⟨⟨by omega,by omega⟩,by rw [Int.toNat_natCast];exact hk⟩,by rw [Int.toNat_natCast];exact h⟩
theorem EM {lo hi:Int}{n:Nat}{P:List Int->Prop}(hn:hi - lo=n)(h0:-1000000000<=lo/\lo<=1000000000)(h1:n<=sizeLine)(h:P ((List.range n).map fun (i:Nat)=>lo+(i:Int))):OK (Hm lo hi) P:=by
 have hs:sizeLine=16777216:=qeB;have e:(hi - lo).toNat=n:=by omega
 refine ⟨_,if_pos ⟨⟨by omega,by omega,by omega,by omega⟩,by omega⟩,?_⟩;rw [e];exact h
theorem ok_at {a:List α}{i:Int}(h0:0<=i)(h1:i<a.length)(h:∀ x,a[i.toNat]? = some x->P x):OK (atI a i) P:=by
 obtain ⟨k,rfl⟩:=qgB h0;have hk:k<a.length:=by omega
 refine ⟨a[k],F8 (by simp [hk]),h _ ?_⟩;rw [Int.toNat_natCast];simp [hk]
theorem ok_for {f:α->S->Option (Fl S ρ)}{as:List α}{s0:S}(I:Nat->S->Prop)(J:S->Prop)(R:ρ->Prop){P:Fl S ρ->Prop}(h0:I 0 s0)
  (hs:∀ (i:Nat) a s,as[i]? = some a->I i s->OK (f a s) fun fl=>match fl with | .nx s'=>I (i+1) s' | .bk s'=>J s' | .rt r=>R r)
  (hn:∀ s,I as.length s->P (.nx s)) (hj:∀ s,J s->P (.nx s)) (hr:∀ r,R r->P (.rt r)):OK (Ck f as s0) P:=by
 have key:∀ (n i:Nat) (s:S),n=as.length - i->i<=as.length->I i s->OK (Ck f (as.drop i) s) P:=by
  intro n
  induction n with
  | zero =>
   intro i s hn0 hi hI;have e:i=as.length:=by omega
   subst e;rw [List.drop_length];exact AD (hn s hI)
  | succ n ih =>
   intro i s hn0 hi hI;have hlt:i<as.length:=by omega
   rw [List.drop_eq_getElem_cons hlt];obtain ⟨fl,e,h⟩:=hs i as[i] s (by simp [hlt]) hI;show OK ((f as[i] s).bind _) P;rw [e]
   cases fl with
   | nx s'=>exact ih (i+1) s' (by omega) hlt h
   | bk s'=>exact AD (hj s' h)
   | rt r=>exact AD (hr r h)
 exact key as.length 0 s0 (by omega) (qtB _) h0
theorem Dj {f:α->S->Option (Fl S ρ)}{as:List α}{s0:S}(I:Nat->S->Prop){P:Fl S ρ->Prop}(h0:I 0 s0)
  (hs:∀ (i:Nat) a s,as[i]? = some a->I i s->OK (f a s) fun fl=>∃ s',fl = .nx s'/\I (i+1) s') (hn:∀ s,I as.length s->P (.nx s)):OK (Ck f as s0) P :=
 ok_for I (fun _=>False) (fun _=>False) h0 (fun i a s ha hI=>(hs i a s ha hI).mono fun fl ⟨s',e,h⟩=>by subst e;exact h) hn (fun _ h=>h.elim) fun _ h=>h.elim
theorem CS {f:α->Option β}{g:α->β}{P:List β->Prop}:∀ {as:List α},(∀ a∈as,f a=some (g a))->P (as.map g)->OK (C9 f as) P:=by
 intro as
 have key:∀ as:List α,(∀ a∈as,f a=some (g a))->C9 f as=some (as.map g):=by
  intro as
  induction as with
  | nil=>intro _;rfl
  | cons a r ih =>
   intro h;show ((f a).bind fun y=>(C9 f r).bind fun ys=>some (y::ys))=_;rw [h a qoA,ih fun x hx=>h x (qpA _ hx)]
   rfl
 exact fun h p=>⟨_,key as h,p⟩
theorem LY {f:α->Option β}{R:α->β->Prop}{P:List β->Prop}:∀ {as:List α},(∀ a∈as,OK (f a) (R a))->(∀ bs:List β,bs.length=as.length->(∀ b∈bs,∃ a∈as,R a b)->(∀ (i:Nat) a b,as[i]? = some a->bs[i]? = some b->R a b)->P bs)->OK (C9 f as) P:=by
 intro as
 have key:∀ as:List α,(∀ a∈as,OK (f a) (R a))->OK (C9 f as) fun bs=>bs.length=as.length/\(∀ b∈bs,∃ a∈as,R a b)/\∀ (i:Nat) a b,as[i]? = some a->bs[i]? = some b->R a b:=by
  intro as
  induction as with
  | nil=>intro _;exact AD ⟨rfl,fun b h=>by simp at h,fun i a b h=>by simp at h⟩
  | cons a r ih =>
   intro h;refine Cb (h a qoA) fun y hy=>Cb (ih fun x hx=>h x (qpA _ hx)) fun ys ⟨h1,h2,h3⟩=>AD ⟨by simp [h1],?_,?_⟩
   ·intro b hb;rcases qkA.mp hb with e|e
    ·subst e;exact ⟨a,qoA,hy⟩
    ·obtain ⟨x,hx,hr⟩:=h2 b e;exact ⟨x,qpA _ hx,hr⟩
   ·intro i x b hx hb
    cases i with
    | zero=>simp at hx hb;subst hx;subst hb;exact hy
    | succ i=>exact h3 i x b (by simpa using hx) (by simpa using hb)
 exact fun h p=>(key as h).mono fun bs ⟨h1,h2,h3⟩=>p bs h1 h2 h3
end
end L2
namespace Lasso
variable {α β:Type}
end Lasso
namespace Lasso
variable {α:Type}[DecidableEq α]
end Lasso
namespace L2
open PySem PySem.Spec PyProof.Rows
section
variable {X:Cx}{K:FZ9}{o:Expr}{to:TE}{name:Str}{apos cpos:Pos}{T id:String}{r:V->List V->Hp->VK->Prop}
theorem pe_bm0K (h:X.K=K)(pa:PlainAttrs T)(slot:Slot T name id)(hty:typeOf (.builtin id)=pure (.type "method_descriptor"))(hm:MtR X id r)(ho:PE X o to)
  (hbase:attributeBase o name X.env (eval o X.env)=eval o X.env:=by rfl) (hline:(apos.endLine == cpos.line)=true:=by rfl):PE X (.Call (.Attribute o name apos) [] [] cpos) (tBM0 K T r to):=h ▸ pe_bm0 pa slot hty hm ho hbase hline
end
section
variable {K:FZ9}{σ:St}{G H G1 H1 G0 H0:Hp}{α β:Type}[Rp α][Rp β]{te ti:TE}{tt:TT}{t u rest:TS}{D:Ends}{i j:Nat}{a:α}{m:Option α}{as:List α}{v:V}{p q:Addr}{vs:List V}
def era (H:Hp)(C:List Addr):Hp:=fun a=>if a∈C then none else H a
theorem IB {C:List Addr}{b:Addr}(h:b∈C):era H C b=none:=if_pos h
theorem Jt {C:List Addr}{b:Addr}(h:b ∉ C):era H C b=H b:=if_neg h
theorem era_same {C:List Addr}:Same (era H C) H:=fun b o e=>by
 by_cases h:b∈C
 ·rw [IB h] at e;cases e
 ·rw [Jt h] at e;exact e
theorem Ext.begin {C:List Addr}(s:Same G H):Ext G (era H C) G H:=⟨.refl _,s,era_same,fun _ h _=>h⟩
theorem Ext.past {C:List Addr}(x:Ext G0 H0 G H)(h0:∀ b∈C,H0 b=none)(y:Ext G (era H C) G1 H1):Ext G0 H0 G1 H1:=by
 refine ⟨x.gg.trans y.gg,y.gh,fun b o e=>?_,fun b g h=>?_⟩
 ·have hb:b ∉ C:=fun hc=>by
   rw [h0 b hc] at e;cases e
  exact y.hh b o (by rw [Jt hb];exact x.hh b o e)
 ·have hb:b ∉ C:=fun hc=>h (h0 b hc);refine y.no b (x.no b g h) ?_;rw [Jt hb]
  cases e:H0 b with
  | none=>exact absurd e h
  | some o =>
   rw [x.hh b o e];exact fun z=>nomatch z
end
inductive Nt where
 | txt (x:Str)
 | tup (l:List Nt)
 | int (n:Int)
mutual
def Nt.dec:(a b:Nt)->Decidable (a=b)
 | .txt x,.txt y=>if h:x=y then .isTrue (by rw [h]) else .isFalse fun e=>h (by cases e;rfl)
 | .txt _,.tup _=>.isFalse fun e=>by cases e
 | .tup _,.txt _=>.isFalse fun e=>by cases e
 | .int m,.int n=>if h:m=n then .isTrue (by rw [h]) else .isFalse fun e=>h (by cases e;rfl)
 | .int _,.txt _=>.isFalse fun e=>by cases e
 | .int _,.tup _=>.isFalse fun e=>by cases e
 | .txt _,.int _=>.isFalse fun e=>by cases e
 | .tup _,.int _=>.isFalse fun e=>by cases e
 | .tup l,.tup m=>match Nt.decs l m with
  | .isTrue h=>.isTrue (by rw [h])
  | .isFalse h=>.isFalse fun e=>h (by cases e;rfl)
def Nt.decs:(l m:List Nt)->Decidable (l=m)
 | [],[]=>.isTrue rfl
 | [],_::_=>.isFalse fun e=>by cases e
 | _::_,[]=>.isFalse fun e=>by cases e
 | a::l,b::m=>match Nt.dec a b with
  | .isFalse h=>.isFalse fun e=>h (by cases e;rfl)
  | .isTrue h=>match Nt.decs l m with
   | .isTrue h2=>.isTrue (by rw [h,h2])
   | .isFalse h2=>.isFalse fun e=>h2 (by cases e;rfl)
end
mutual
def Nt.dep:Nt->Nat
 | .txt _=>0
 | .int _=>0
 | .tup l=>Nt.deps l+1
def Nt.deps:List Nt->Nat
 | []=>0
 | a::l=>max (Nt.dep a) (Nt.deps l)
end
mutual
inductive RelN (K:FZ9)(H:Hp):V->Nt->Prop where
 | txt (x:Str) (z:x.length<=sizeLine):RelN K H (.str x) (.txt x)
 | int (n:Int):RelN K H (.int n) (.int n)
 | tup {a:Addr}{xs:List V}{ds:List Nt}(h:SqT K H a xs) (z:xs.length<=sizeLine) (r:RelNs K H xs ds) (l:ds[0]? = some (.txt "lamp")->H a=some (.tup xs)):RelN K H (.ref a) (.tup ds)
inductive RelNs (K:FZ9)(H:Hp):List V->List Nt->Prop where
 | nil:RelNs K H [] []
 | cons {x:V}{d:Nt}{xs:List V}{ds:List Nt}(h:RelN K H x d) (t:RelNs K H xs ds):RelNs K H (x::xs) (d::ds)
end
mutual
theorem RelN.mono {K:FZ9}{H H':Hp}(s:Same H H'):∀ {v:V}{d:Nt},RelN K H v d->RelN K H' v d
 | _,_,.txt x z=>.txt x z
 | _,_,.int n=>.int n
 | _,_,.tup h z r l=>.tup (s.tup h) z (RelNs.mono s r) fun e=>s _ _ (l e)
theorem RelNs.mono {K:FZ9}{H H':Hp}(s:Same H H'):∀ {v:List V}{d:List Nt},RelNs K H v d->RelNs K H' v d
 | _,_,.nil=>.nil
 | _,_,.cons h t=>.cons (RelN.mono s h) (RelNs.mono s t)
end
instance rpN:Rp Nt:=⟨RelN,fun s h=>RelN.mono s h⟩
theorem SqT.keep {K:FZ9}{H H':Hp}{a:Addr}{xs:List V}(s:TupK H H')(h:SqT K H a xs):SqT K H' a xs:=by
 rcases h with h|h
 ·exact .inl (s.rd _ _ h)
 ·exact .inr h
mutual
theorem RelN.keep {K:FZ9}{H H':Hp}(s:TupK H H'):∀ {v:V}{d:Nt},RelN K H v d->RelN K H' v d
 | _,_,.txt x z=>.txt x z
 | _,_,.int n=>.int n
 | _,_,.tup h z r l=>.tup (SqT.keep s h) z (RelNs.keep s r) fun e=>s.eq _ _ (l e)
theorem RelNs.keep {K:FZ9}{H H':Hp}(s:TupK H H'):∀ {v:List V}{d:List Nt},RelNs K H v d->RelNs K H' v d
 | _,_,.nil=>.nil
 | _,_,.cons h t=>.cons (RelN.keep s h) (RelNs.keep s t)
end
instance imN:Imm Nt:=⟨fun s h=>RelN.keep s h⟩
section
variable {K:FZ9}{σ:St}{G:Hp}{α:Type}[Rp α]{ta tb tc te:TE}{t1 t2:TO}{ia ib ic:Option Int}{m1 m2:Option (Option Int)}
theorem ev_chain {p p':Int->Int->Bool}{q q':List Nat->List Nat->Bool}(ea:EV K ta σ G ia)(eb:EV K tb σ G ib)(ec:EV K tc σ G ic) :
  EV K (tChain (K5 p q) (K5 p' q') ta tb tc) σ G (ia.bind fun a=>ib.bind fun b=>cond (p a b) (ic.bind fun c=>some (p' b c)) (some false)):=by
 intro G1 s1 r hr H sH Q k;obtain ⟨a,ha,hr⟩:=qaA.mp hr;obtain ⟨b,hb,hr⟩:=qaA.mp hr;clear 8 ea a ha;refine eb G2 (s1.trans x2.gg) b hb H2 x2.gh _ fun u G3 H3 x3 r3=>?_;cases r2;cases r3;refine ⟨p a b,rfl,?_⟩
 cases hp:p a b with
 | false =>
  rw [hp] at hr;cases hr;rw [if_neg qjB];exact k _ _ _ (x2.trans x3) rfl
 | true =>
  rw [hp] at hr;obtain ⟨c,hc,hr⟩:=qaA.mp (cT hr);cases hr;rw [if_pos rfl];refine ec G3 (s1.trans (x2.trans x3).gg) c hc H3 x3.gh _ fun w G4 H4 x4 r4=>?_;cases r4;exact k _ _ _ ((x2.trans x3).trans x4) rfl
class Flat (α:Type) [Rp α] [DecidableEq α]:Prop where
 fl:∀ {K:FZ9}{H:Hp}{v:V}{a:α},Rp.rel K H v a->flatV v=true
 eq:∀ {K:FZ9}{H H':Hp}{v u:V}{a b:α},Rp.rel K H v a->Rp.rel K H' u b->eqV v u=decide (a=b)
end
mutual
def Nt.toD:Nt->D
 | .txt x=>.str x
 | .int n=>.int n
 | .tup l=>.tup (Nt.toDs l)
def Nt.toDs:List Nt->List D
 | []=>[]
 | a::l=>Nt.toD a::Nt.toDs l
end
mutual
theorem RelN.toD {K:FZ9}{H:Hp}:∀ {v:V}{a:Nt},RelN K H v a->RelD K H v a.toD
 | _,_,.txt x z=>by unfold Nt.toD;exact .str x z
 | _,_,.int n=>by unfold Nt.toD;exact .int n
 | _,_,.tup h z r _=>by unfold Nt.toD;exact .tup h z (RelNs.toD r)
theorem RelNs.toD {K:FZ9}{H:Hp}:∀ {xs:List V}{l:List Nt},RelNs K H xs l->RelDs K H xs (Nt.toDs l)
 | _,_,.nil=>by unfold Nt.toDs;exact .nil
 | _,_,.cons h t=>by unfold Nt.toDs;exact .cons (RelN.toD h) (RelNs.toD t)
end
instance tdN:ToD Nt:=⟨Nt.toD,fun h=>RelN.toD h⟩
theorem vals3' {x y z:V}{us:List Value}(h:Vals [x,y,z] us):∃ a b c,us=[a,b,c]/\RelV x a/\RelV y b/\RelV z c:=by
 cases h with
 | cons r t=>cases t with
  | cons r' t'=>cases t' with
   | cons r'' t''=>cases t'';exact ⟨_,_,_,rfl,r,r',r''⟩
class NoN (α:Type) [Rp α]:Prop where
 no_non:∀ {K:FZ9}{H:Hp}{x:V}{a:α},Rp.rel K H x a->x ≠ .non
 ne:∀ {K:FZ9}{X:Cx}{pins:List (Addr × Obj)}{σ:St}{H:Hp}{s:Shared}{x:V}{u:Value}{a:α}(A:Around),X.K=K->Inv X pins σ H s->A.units<cLine->RelV x u->Rp.rel K H x a ->
  (SeqAt.EqAt A s .none u false/\SeqAt.RcAt A s .none u false/\SeqAt.RcNeAt A s .none u true)/\SeqAt.EqAt A s u .none false/\SeqAt.RcAt A s u .none false/\SeqAt.RcNeAt A s u .none true
class Fix (α:Type) [Rp α]:Prop where
 fx:∀ {K:FZ9}{G G':Hp}{v:V}{a:α},Rp.rel K G v a->Rp.rel K G' v a
end L2
namespace L3
open PySem
end L3
namespace L2
open PySem PySem.Spec PyProof.Rows
inductive SI where
 | s (x:Str)
 | i (n:Int)
 deriving DecidableEq
def RelSI (v:V):SI->Prop
 | .s x=>v = .str x/\x.length<=sizeLine
 | .i n=>v = .int n
instance rpSI:Rp SI:=⟨fun _ _ v a=>RelSI v a,fun _ h=>h⟩
theorem eqSI {K:FZ9}:EqTy K 0 (Rp.rel (α:=SI) K) where
 fn:=fun {X pins σ H s x a b} hK I h1 h2=>by
  cases a with
  | s y=>cases b with
   | s z=>obtain ⟨rfl,_⟩:=h1;obtain ⟨e,_⟩:=h2;cases e;rfl
   | i n=>obtain ⟨rfl,_⟩:=h1;cases h2
  | i m=>cases b with
   | s z=>obtain ⟨rfl,_⟩:=h2;cases h1
   | i n =>
    have h1:x = .int m:=h1;have h2:x = .int n:=h2;subst h1;cases h2
    rfl
 eq:=fun {X pins σ H s x y u v a b} A hK I hu r1 r2 h1 h2=>by
  cases a with
  | s p=>cases b with
   | s q =>
    obtain ⟨rfl,_⟩:=h1;obtain ⟨rfl,_⟩:=h2;have:=eqStr.eq (K:=K) (a:=p) (b:=q) A hK I hu r1 r2 rfl rfl
    rwa [show decide (SI.s p=SI.s q)=decide (p=q) from decide_eq_decide.mpr ⟨fun e=>by cases e;rfl,fun e=>by rw [e]⟩]
   | i n =>
    obtain ⟨rfl,_⟩:=h1;have h2:y = .int n:=h2;subst h2;obtain ⟨t,rfl⟩:=r1;obtain ⟨t',rfl⟩:=r2;rw [decide_eq_false (fun e=>by cases e)];exact SeqAt.EqAt.str_int _ _ _ _
  | i m=>cases b with
   | s q =>
    obtain ⟨rfl,_⟩:=h2;have h1:x = .int m:=h1;subst h1;obtain ⟨t,rfl⟩:=r1;obtain ⟨t',rfl⟩:=r2;rw [decide_eq_false (fun e=>by cases e)];exact SeqAt.EqAt.int_str _ _ _ _
   | i n =>
    have:=eqInt.eq (K:=K) (a:=m) (b:=n) A hK I hu r1 r2 h1 h2
    rwa [show decide (SI.i m=SI.i n)=decide (m=n) from decide_eq_decide.mpr ⟨fun e=>by cases e;rfl,fun e=>by rw [e]⟩]
 rc:=fun {X pins σ H s x y u v a b} A hK I hu r1 r2 h1 h2=>by
  cases a with
  | s p=>cases b with
   | s q =>
    obtain ⟨rfl,_⟩:=h1;obtain ⟨rfl,_⟩:=h2;have:=eqStr.rc (K:=K) (a:=p) (b:=q) A hK I hu r1 r2 rfl rfl
    rwa [show decide (SI.s p=SI.s q)=decide (p=q) from decide_eq_decide.mpr ⟨fun e=>by cases e;rfl,fun e=>by rw [e]⟩]
   | i n =>
    obtain ⟨rfl,_⟩:=h1;have h2:y = .int n:=h2;subst h2;obtain ⟨t,rfl⟩:=r1;obtain ⟨t',rfl⟩:=r2;rw [decide_eq_false (fun e=>by cases e)];exact ⟨SeqAt.RcAt.str_int _ _ _ _,SeqAt.RcNeAt.str_int _ _ _ _⟩
  | i m=>cases b with
   | s q =>
    obtain ⟨rfl,_⟩:=h2;have h1:x = .int m:=h1;subst h1;obtain ⟨t,rfl⟩:=r1;obtain ⟨t',rfl⟩:=r2;rw [decide_eq_false (fun e=>by cases e)];exact ⟨SeqAt.RcAt.int_str _ _ _ _,SeqAt.RcNeAt.int_str _ _ _ _⟩
   | i n =>
    have:=eqInt.rc (K:=K) (a:=m) (b:=n) A hK I hu r1 r2 h1 h2
    rwa [show decide (SI.i m=SI.i n)=decide (m=n) from decide_eq_decide.mpr ⟨fun e=>by cases e;rfl,fun e=>by rw [e]⟩]
instance reSI:RpE SI:=⟨0,fun _=>eqSI⟩
def rInE (K:FZ9)(α:Type)[Rp α][DecidableEq α](neg:Bool):R2:=fun x y H Q=>∃ p xs a as,y = .ref p/\SqL K H p xs/\Rp.rel (α:=α) K H x a/\Paired (Rp.rel (α:=α) K H) xs as/\Q (.bl (if neg then !decide (a∈as) else decide (a∈as))) H
open Classical in
def eqW {α:Type}[Rp α](K:FZ9)(H:Hp)(a:α)(u:Value):Bool:=decide (∃ y,RelV y u/\Rp.rel K H y a)
theorem eqW_of {α:Type}[Rp α][DecidableEq α][RpE α]{X:Cx}{pins:List (Addr × Obj)}{σ:St}{H:Hp}{s:Shared}(I:Inv X pins σ H s){a b:α}{y:V}{u:Value}(r:RelV y u)(h:Rp.rel X.K H y b):eqW X.K H a u=decide (b=a):=by
 unfold eqW
 classical
 by_cases e:b=a
 ·subst e;rw [decide_eq_true rfl,decide_eq_true];exact ⟨y,r,h⟩
 ·rw [decide_eq_false e,decide_eq_false];rintro ⟨z,rz,hz⟩;have:=RelV.inj r rz;subst this;exact e ((RpE.ty X.K).fn rfl I h hz)
theorem Lz {α:Type}[Rp α][DecidableEq α][RpE α]{X:Cx}{pins:List (Addr × Obj)}{σ:St}{H:Hp}{s:Shared}(I:Inv X pins σ H s){a:α}:∀ {xs:List V}{us:List Value}{as:List α},Vals xs us->Paired (Rp.rel X.K H) xs as->us.any (eqW X.K H a)=decide (a∈as)
 | _,_,_,.nil,.nil=>by simp
 | y::xs,u::us,b::as,.cons r t,.cons h p=>by
  rw [List.any_cons,eqW_of I r h,Lz I t p];by_cases e:b=a
  ·subst e;simp
  ·rw [decide_eq_false e,Bool.false_or]
   exact decide_eq_decide.mpr ⟨fun m=>qpA _ m,fun m=>by
    rcases qkA.mp m with rfl|m
    ·exact absurd rfl e
    ·exact m⟩
theorem Li {α:Type}[Rp α][DecidableEq α][RpE α]{X:Cx}{A:Around}{pins:List (Addr × Obj)}{σ:St}{H:Hp}{s:Shared}(I:Inv X pins σ H s)(hA:A.units+RpE.k α<cLine){a:α}{x:V}{v:Value}(rx:RelV x v)(hx:Rp.rel X.K H x a):∀ {xs:List V}{us:List Value}{as:List α},Vals xs us->Paired (Rp.rel X.K H) xs as->∀ u∈us,SeqAt.EqAt A s u v (eqW X.K H a u)
 | _,_,_,.nil,.nil=>fun u hu=>by cases hu
 | y::xs,u::us,b::as,.cons r t,.cons h p=>fun u' hu=>by
  rcases qkA.mp hu with rfl|hu
  ·rw [eqW_of I r h];exact (RpE.ty X.K).eq A rfl I hA r rx h hx
  ·exact Li I hA rx hx t p u' hu
theorem MY {X:Cx}{K:FZ9}{j:Nat}(hK:X.K=K)(α:Type)[Rp α][DecidableEq α][RpE α](hr:Room j X.A)(hk:RpE.k α<=40):OpR X (compareOp .NotIn) (rInE K α true):=by
 subst hK;intro pins s σ H x y v u Q I rx ry h;obtain ⟨p,xs,a,as,rfl,hq,hx,pr,q⟩:=h;cases ry;obtain ⟨its,r,pl,hz⟩:=I.list hq;refine SeqAt.notIn_listAt (eqW X.K H a) pl.isList (fun w hw=>Li I (by have:=hr.un;rw [Around.in1_units];omega) rx hx r pr w (by simpa using hw)) ⟨.bl _,H,I,rfl,?_⟩;rw [show its.toArray.any (eqW X.K H a)=its.any (eqW X.K H a) by simp,Lz I r pr];exact q
section
variable {K:FZ9}{σ:St}{G H:Hp}{ta tb te td ti:TE}{α:Type}[Rp α]
theorem M6 [DecidableEq α]{ma:Option α}{ml:Option (List α)}(ea:EV K ta σ G ma)(eb:EV K tb σ G ml):EV K (tOp (rInE K α true) ta tb) σ G (ma.bind fun a=>ml.bind fun l=>some (!decide (a∈l))) :=
 Bx (fun {G' H' x y a b c} s ra rb e Q k=>by
  cases e;obtain ⟨l,xs,rfl,h,z,p⟩:=rb
  exact ⟨l,xs,a,b,rfl,.inl (s.rd h),Rp.mono s ra,Paired.imp' (fun _ _ r=>Rp.mono s r) p,k _ _ _ (.refl s) rfl⟩) ea eb
theorem Jx {la:Option (Tp α)}(ea:EV K ta σ G la):FV K (tCB (fun xs H Q=>∃ p ys,xs=[.ref p]/\(SqL K H p ys\/SqT K H p ys)/\∀ l,H l=none->Q (.ref l) (upd H l (.lst ys))) (Ab ta BZ)) σ G (la.bind fun a=>some a.l):=by
 clear 7;obtain ⟨a,ha,hc⟩:=qaA.mp hc;cases hc;clear 8 ea a ha;obtain ⟨l,xs,rfl,h,z,p⟩:=r2;exact ⟨l,xs,rfl,.inr (x2.gh.tup h),FN x2.gh z p (FV.mono x2 k)⟩
end
theorem EI {K:FZ9}{H:Hp}:∀ {xs:List V}{ns:List Int},Paired (Rp.rel K H) xs ns->xs=ns.map V.int
 | _,_,.nil=>rfl
 | _,_,.cons h t=>by
  cases h;rw [quA,EI t]
structure Mp (α:Type) where
 l:List (Int × α)
def E3 {α:Type}(l:List α)(lo hi:Option Int)(st:Int):List α :=
 (sliceRange (sliceBounds lo hi (some st) l.length).1 (sliceBounds lo hi (some st) l.length).2.1 (sliceBounds lo hi (some st) l.length).2.2).filterMap fun i=>l[i]?
theorem Paired.fm {α β:Type}{R:α->β->Prop}{f:Nat->Option α}{g:Nat->Option β}(h:∀ i,(f i=none/\g i=none)\/∃ a b,f i=some a/\g i=some b/\R a b):∀ is:List Nat,Paired R (is.filterMap f) (is.filterMap g)
 | []=>.nil
 | i::is=>by
  rcases h i with ⟨h1,h2⟩ | ⟨a,b,h1,h2,r⟩
  ·rw [List.filterMap_cons_none h1,List.filterMap_cons_none h2];exact Paired.fm h is
  ·rw [List.filterMap_cons_some h1,List.filterMap_cons_some h2];exact .cons r (Paired.fm h is)
theorem Paired.opt {α β:Type}{R:α->β->Prop}:∀ {vs:List α}{as:List β}(_:Paired R vs as) (i:Nat),(vs[i]? = none/\as[i]? = none)\/∃ a b,vs[i]? = some a/\as[i]? = some b/\R a b
 | _,_,.nil,i=>.inl ⟨by simp,by simp⟩
 | _,_,.cons r t,0=>.inr ⟨_,_,rfl,rfl,r⟩
 | _,_,.cons r t,i+1=>by
  rw [List.getElem?_cons_succ,List.getElem?_cons_succ];exact Paired.opt t i
theorem Paired.pick {α β:Type}{R:α->β->Prop}{vs:List α}{as:List β}(p:Paired R vs as)(lo hi:Option Int)(st:Int):Paired R (E3 vs lo hi st) (E3 as lo hi st):=by
 unfold E3;rw [Paired.length p];exact Paired.fm (Paired.opt p) _
theorem Fz {α:Type}(l:List α)(lo hi:Option Int)(st:Int):(E3 l lo hi st).length<=l.length:=by
 have h:=slicePick_size_le (l.map fun _=>Value.none).toArray lo hi (some st)
 have p:Paired (fun _ _=>True) l (l.map fun _=>Value.none):=by
  induction l with
  | nil=>exact .nil
  | cons a l ih=>exact .cons trivial (ih (slicePick_size_le _ _ _ _))
 have e:=Paired.length (Paired.pick p lo hi st)
 have e2:(slicePick (l.map fun _=>Value.none).toArray lo hi (some st)).size=(E3 (l.map fun _=>Value.none) lo hi st).length:=by
  unfold slicePick E3;rw [qkB,qkB]
  congr 1
  congr 1
  funext i
  simp
 rw [e2,qkB,qdA] at h;omega
def SlR3 (X:Cx)(r:V->Option Int->Option Int->Option Int->Hp->VK->Prop):Prop :=
 ∀ (pins:List (Addr × Obj)) (s:Shared) (σ:St) (H:Hp) (x:V) (v vl vu vs:Value) (lo hi st:Option Int) (sl:Addr) (Q:VK),Inv X pins σ H s->RelV x v->s.heap.IsSliceOf sl vl vu vs->IsPart vl lo->IsPart vu hi->IsPart vs st->r x lo hi st H Q ->
  ∃ T id,typeLookup (.type T) "__getitem__" = pure (some (.builtin id))/\s.TypeIs v T/\wpAny (model X.prog X.w) X.A (getItem v (.ref sl)) (EP X pins σ Q) X.xe s
abbrev tSl3 (r:V->Option Int->Option Int->Option Int->Hp->VK->Prop)(te:TE)(tl th ts:TO):TE:=fun σ H Q=>te σ H fun x H1=>tl σ H1 fun l H2=>th σ H2 fun u H3=>ts σ H3 fun c H4=>r x l u c H4 Q
def rSl3 (K:FZ9):V->Option Int->Option Int->Option Int->Hp->VK->Prop:=fun x lo hi st H Q=>∃ a xs c,x = .ref a/\SqL K H a xs/\st=some c/\c≠0/\∀ p,H p=none->Q (.ref p) (upd H p (.lst (E3 xs lo hi c)))
section
variable {X:Cx}{e:Expr}{te:TE}{lo hi:Option Expr}{se:Expr}{tl th ts:TO}{pos p2:Pos}
theorem MF {r:V->Option Int->Option Int->Option Int->Hp->VK->Prop}(hr:SlR3 X r)(he:PE X e te)(hl:PO X lo tl)(hu:PO X hi th)(hs:PO X (some se) ts):PE X (.Subscript e (.Slice lo hi (some se) p2) pos) (tSl3 r te tl th ts):=by
 intro pins s σ H Q I h;refine Subscript_ (thn (he pins s σ H _ I h) fun v s1 ⟨x,H1,I1,r1,q1⟩=>?_);refine wpAny_Slice (thn (hl pins s1 σ H1 _ I1 q1) fun vl s2 ⟨l,H2,I2,pl,q2⟩=>thn (hu pins s2 σ H2 _ I2 q2) fun vu s3 ⟨u,H3,I3,pu,q3⟩=>thn (hs pins s3 σ H3 _ I3 q3) fun vs s4 ⟨c,H4,I4,pc,q4⟩=>?_);have I5:Inv X pins σ H4 { s4 with heap:=s4.heap.push { cls:=.type "slice",data:=.fields #[vl,vu,vs] } }:=I4.kept (t':=s4.toks) fun b ob q=>qcB _ q;obtain ⟨T,id,hT,ht,hg⟩:=hr pins { s4 with heap:=s4.heap.push { cls:=.type "slice",data:=.fields #[vl,vu,vs] } } σ H4 x v vl vu vs l u c s4.heap.objs.size Q I5 r1 (Heap.IsSliceOf.new ..) pl pu pc q4;show wpAny (model X.prog X.w) X.A (subscriptTail e (.Slice lo hi (some se) p2) v (.ref s4.heap.objs.size)) (EP X pins σ Q) X.xe { s4 with heap:=s4.heap.push { cls:=.type "slice",data:=.fields #[vl,vu,vs] } };exact tail_any (ops:=[v,.ref s4.heap.objs.size]) ht hT hg (by with_unfolding_all rfl)
theorem sl3_list {K:FZ9}(h:X.K=K):SlR3 X (rSl3 K):=by
 subst h;intro pins s σ H x v vl vu vs lo hi st sl Q I rx hs pl pu ps h;obtain ⟨a,xs,c,rfl,hx,rfl,hc,q⟩:=h;cases rx;obtain ⟨its,r,ht,hz⟩:=I.list hx;have hlen:=r.length;refine ⟨"list",_,slot_list_getitem.lookup,ht.isList.typeIs,?_⟩;refine wpAny_getItem_list_slice ht.isList hs pl pu ps (fun z=>hc (qaB z)) ?_ (by rw [qkB]<;>omega)
 have e:slicePick its.toArray lo hi (some c)=(E3 its lo hi c).toArray:=by
  unfold slicePick E3;rw [qkB]
  congr 1
  congr 1
  funext i
  simp
 rw [e];refine ⟨.ref s.heap.objs.size,_,I.laid (t':=s.toks) (o:=.lst (E3 xs lo hi c)) (fun b ob q=>qcB _ q) (qxA _) ?_,rfl,q _ (I.hok.fresh (qxA _))⟩;exact ⟨qyA (Fz xs lo hi c) hz,_,0,Paired.pick r lo hi c,qdB _ rfl⟩
end
section
variable {K:FZ9}{σ:St}{G H:Hp}{ta t3:TE}{t1 t2:TO}{α:Type}[Rp α]{m1 m2:Option (Option Int)}{c:Int}
theorem MW {la:Option (List α)}(ea:EV K ta σ G la)(e1:OV t1 σ G m1)(e2:OV t2 σ G m2)(e3:EV K t3 σ G (some c))(hc:c≠0:=by decide):FV K (tSl3 (rSl3 K) ta t1 t2 (tPart t3)) σ G (la.bind fun a=>m1.bind fun lo=>m2.bind fun hi=>some (E3 a lo hi c)):=by
 intro G1 s1 z hz H sH Q k;obtain ⟨a,ha,hz⟩:=qaA.mp hz;obtain ⟨lo,hlo,hz⟩:=qaA.mp hz;obtain ⟨hi,hhi,hz⟩:=qaA.mp hz;cases hz;clear 8 ea a ha;refine e1 G2 (s1.trans x2.gg) lo hlo H2 x2.gh _ fun G3 H3 x3=>?_;refine e2 G3 (s1.trans (x2.trans x3).gg) hi hhi H3 x3.gh _ fun G4 H4 x4=>?_;refine e3 G4 (s1.trans ((x2.trans x3).trans x4).gg) c rfl H4 x4.gh _ fun w G5 H5 x5 r5=>?_;cases r5;obtain ⟨l,xs,rfl,h,z,p⟩:=Rp.mono ((x3.trans x4).trans x5).gg r2;exact ⟨c,rfl,l,xs,c,rfl,.inl (x5.gh.rd h),rfl,hc,FN x5.gh (qyA (Fz _ _ _ _) z) (Paired.pick p lo hi c) (FV.mono (((x2.trans x3).trans x4).trans x5) k)⟩
end
section
variable {K:FZ9}{σ:St}{G H:Hp}{ta tb te:TE}{rest:TS}{D:Ends}{i:Nat}{v:V}{p:Addr}{vs:List V}
theorem Ff {G:Hp}:∀ {xs:List V}{ys:List Str},Paired (Rp.rel K G) xs ys->xs=ys.map V.str
 | _,_,.nil=>rfl
 | _,_,.cons h t=>by
  obtain ⟨rfl,_⟩:=h;rw [quA,Ff t]
end
def leS (a b:Str):Bool:=!decide (b.cps.toList<a.cps.toList)
theorem leS_iff {a b:Str}:leS a b=true ↔ a.cps.toList<=b.cps.toList:=by
 unfold leS;rw [Bool.not_eq_true',decide_eq_false_iff_not];exact List.not_lt
theorem GZ (a b c:Str)(h1:leS a b=true)(h2:leS b c=true):leS a c=true:=leS_iff.mpr (List.le_trans (leS_iff.mp h1) (leS_iff.mp h2))
theorem JC (a b:Str):(leS a b || leS b a)=true:=by
 rw [Bool.or_eq_true,leS_iff,leS_iff];exact List.le_total _ _
theorem Kg {a b:Str}(h1:leS a b=true)(h2:leS b a=true):a=b:=by
 have:=List.le_antisymm (leS_iff.mp h1) (leS_iff.mp h2);cases a;cases b
 congr 1
 exact Array.toList_inj.mp this
def Hu (ys:List Str):List Str:=ys.mergeSort leS
theorem DK (ys:List Str):(Hu ys).Perm ys:=List.mergeSort_perm ys leS
theorem Is:∀ (p:Str) (l:List Str),risingS p l=true->(p::l).Pairwise fun a b=>leS a b=true
 | p,[],_=>by simp
 | p,x::r,h=>by
  have h:(!ltCps x.cps.toList p.cps.toList && risingS x r)=true:=h;rw [quB,ltCps_eq] at h;have h1:leS p x=true:=h.1;have ih:=Is x r h.2;refine List.pairwise_cons.mpr ⟨fun y hy=>?_,ih⟩;rcases qkA.mp hy with rfl|hy
  ·exact h1
  ·exact GZ _ _ _ h1 (List.rel_of_pairwise_cons ih hy)
theorem sortS_of {ss ss':List Str}(hp:ss'.Perm ss)(hs:sortedS ss'=true):ss'=Hu ss:=by
 have pw:ss'.Pairwise fun a b=>leS a b=true:=by
  cases ss' with
  | nil=>exact .nil
  | cons x r=>exact Is x r hs
 exact List.Perm.eq_of_pairwise (fun a b _ _ h1 h2=>Kg h1 h2) pw (List.pairwise_mergeSort GZ JC ss) (hp.trans (DK ss).symm)
def Lm (ys:List Str):Option (List Str):=if ys.length<64 then some (Hu ys) else none
theorem Im:∀ {vs:List Value}{ss:List Str},StrsAre vs ss->Vals (ss.map V.str) vs
 | _,_,.nil=>.nil
 | _,_,.cons x t r=>.cons ⟨t,rfl⟩ (Im r)
def rSortS (K:FZ9):List V->Hp->VK->Prop:=fun vs H Q=>∃ (l:Addr) (ys:List Str),vs=[.ref l]/\SqL K H l (ys.map V.str)/\ys.length<64/\∀ p,H p=none->Q (.ref p) (upd H p (.lst ((Hu ys).map V.str)))
theorem Jf {X:Cx}{K:FZ9}(h:X.K=K):CI X (.builtin "sorted") (rSortS K):=by
 subst h;intro pins s σ H vs us Q I r h;obtain ⟨l,ys,rfl,hl,h64,q⟩:=h;obtain ⟨u,rfl,ru⟩:=DX r;cases ru;obtain ⟨its,rv,pl,_⟩:=I.list hl;have hlen:=rv.length;rw [qdA] at hlen;refine sorted_strs pl.isList (IN rv) (by omega) fun out ss' a1 a2 a3=>?_;have e:=sortS_of a2 a3;subst e;obtain ⟨n,he⟩:=sortedAll_at s.heap its out;refine ⟨.ref (s.heap.objs.size+1),_,I.laid (a:=s.heap.objs.size+1) (t':=s.toks) (o:=.lst ((Hu ys).map V.str)) (fun b ob q=>sortedAll_old q) (Nat.le_succ _) ?_,rfl,q _ (I.hok.fresh (Nat.le_succ _))⟩;refine ⟨?_,out.toList,n,Im a1,he⟩;rw [qdA,(DK ys).length_eq,qeB];omega
theorem Ho {K:FZ9}{G:Hp}:∀ {xs:List V}{ys:List Str},Paired (Rp.rel K G) xs ys->∀ y∈ys,y.length<=sizeLine
 | _,_,.nil=>fun y hy=>by cases hy
 | _,_,.cons h t=>fun y hy=>by
  rcases qkA.mp hy with rfl|hy
  ·exact h.2
  ·exact Ho t y hy
section
variable {K:FZ9}{σ:St}{G:Hp}{ta:TE}
theorem fv_sortS {la:Option (List Str)}(ea:EV K ta σ G la):FV K (tCB (rSortS K) (Ab ta BZ)) σ G (la.bind fun ys=>Lm ys):=by
 clear 7;obtain ⟨a,ha,hc⟩:=qaA.mp hc;obtain ⟨h64,rfl⟩:=Ao hc;clear 8 ea a ha;obtain ⟨l,xs,rfl,h,z,p⟩:=r2;have e:=Ff p;subst e;refine ⟨l,a,rfl,.inl (x2.gh.rd h),h64,?_⟩;refine FN x2.gh ?_ ?_ (FV.mono x2 k)
 ·rw [qdA,(DK a).length_eq,qeB];omega
 ·have hl:∀ y∈a,y.length<=sizeLine:=fun y hy=>by
   have:=Ho p y hy;exact this
  have:∀ zs:List Str,(∀ y∈zs,y.length<=sizeLine)->Paired (Rp.rel K G2) (zs.map V.str) zs:=fun zs=>by
   induction zs with
   | nil=>intro _;exact .nil
   | cons y zs ih=>intro h;exact .cons ⟨rfl,h y qoA⟩ (ih fun w hw=>h w (qpA _ hw))
  exact this _ fun y hy=>hl y ((DK a).mem_iff.mp hy)
end
def Ris (xs:Array Nat):Prop:=∀ i j,i<j->(hj:j<xs.size)->xs.getD i 0<xs.getD j 0
theorem below_go (xs:Array Nat)(j:Nat)(hr:Ris xs):∀ fuel lo hi,lo<=hi->hi<=xs.size->hi - lo<=fuel->(∀ i,i<lo->xs.getD i 0<j)->(∀ i,hi<=i->i<xs.size->j<=xs.getD i 0) ->
  (SetTable.below.go xs j fuel lo hi<=xs.size/\(∀ i,i<SetTable.below.go xs j fuel lo hi->xs.getD i 0<j)/\∀ i,SetTable.below.go xs j fuel lo hi<=i->i<xs.size->j<=xs.getD i 0):=by
 intro fuel
 induction fuel with
 | zero =>
  intro lo hi h1 h2 h3 h4 h5;have e:lo=hi:=by omega
  subst e;exact ⟨h2,h4,h5⟩
 | succ fuel ih =>
  intro lo hi h1 h2 h3 h4 h5;unfold SetTable.below.go;by_cases hlt:lo<hi
  ·rw [if_pos hlt];dsimp only;have hm1:lo<=(lo+hi) / 2:=by omega
   have hm2:(lo+hi) / 2<hi:=by omega
   generalize (lo+hi) / 2=mid at hm1 hm2 ⊢;have hms:mid<xs.size:=by omega
   have e1:xs.getD mid j=xs.getD mid 0:=by simp [Array.getD,hms]
   rw [e1]
   have mono:∀ a b,a<=b->b<xs.size->xs.getD a 0<=xs.getD b 0:=fun a b hab hb=>by
    rcases Nat.lt_or_eq_of_le hab with h|h
    ·exact Nat.le_of_lt (hr a b h hb)
    ·rw [h];exact qxA _
   by_cases hc:xs.getD mid 0<j
   ·rw [if_pos hc];refine ih (mid+1) hi (by omega) h2 (by omega) (fun i hi'=>?_) h5;exact Nat.lt_of_le_of_lt (mono i mid (by omega) hms) hc
   ·rw [if_neg hc];refine ih lo mid hm1 (by omega) (by omega) h4 fun i hi' hs=>?_;exact qyA (Nat.le_of_not_lt hc) (mono mid i hi' hs)
  ·rw [if_neg hlt];have e:lo=hi:=by omega
   subst e;exact ⟨h2,h4,h5⟩
theorem below_ok {xs:Array Nat}(hr:Ris xs)(j:Nat):SetTable.below xs j<=xs.size/\(∀ i,i<SetTable.below xs j->xs.getD i 0<j)/\∀ i,SetTable.below xs j<=i->i<xs.size->j<=xs.getD i 0 :=
 below_go xs j hr xs.size 0 xs.size (qtB _) (qxA _) (qxA _) (fun i h=>absurd h (Nat.not_lt_zero _)) fun i h h'=>absurd h' (Nat.not_lt.mpr h)
theorem GO {xs:Array Nat}(h:xs.toList.Pairwise (· < ·)):Ris xs:=fun i j hij hj=>by
 have:=List.pairwise_iff_getElem.mp h i j (by simpa using Nat.lt_trans hij hj) (by simpa using hj) hij
 simpa [Array.getD,hj,Nat.lt_trans hij hj] using this
theorem MR {xs:Array Nat}(h:Ris xs):xs.toList.Pairwise (· < ·):=by
 rw [List.pairwise_iff_getElem];intro i j hi hj hij;have hi':i<xs.size:=by simpa using hi
 have hj':j<xs.size:=by simpa using hj
 have:=h i j hij hj'
 simpa [Array.getD,hj',hi'] using this
theorem Kp {xs:Array Nat}(hr:Ris xs){j:Nat}(hn:xs[SetTable.below xs j]?≠some j):Ris (SetTable.insertAt xs (SetTable.below xs j) j):=by
 apply GO;rw [SetTable.toList_insertAt];obtain ⟨a,b,c⟩:=below_ok hr j;have pw:=MR hr;generalize hp:SetTable.below xs j=p at a b c hn
 have hA:∀ x∈xs.toList.take p,x<j:=fun x hx=>by
  obtain ⟨i,hi,rfl⟩:=List.mem_iff_getElem.mp hx;rw [qiA] at hi;have h1:i<p:=by omega
  have h2:i<xs.size:=by rw [qnB] at hi;omega
  have:=b i h1;rw [List.getElem_take]
  simpa [Array.getD,h2] using this
 have hB:∀ x∈xs.toList.drop p,j<x:=fun x hx=>by
  obtain ⟨i,hi,rfl⟩:=List.mem_iff_getElem.mp hx;rw [List.length_drop,qnB] at hi;have h2:p+i<xs.size:=by omega
  have hp2:p<xs.size:=by omega
  have h3:=c (p+i) (Nat.le_add_right _ _) h2;rw [List.getElem_drop]
  have h4:xs.getD (p+i) 0≠j:=fun e=>by
   have h5:=c p (qxA _) hp2
   have h6:xs.getD p 0<=xs.getD (p+i) 0:=by
    cases i with
    | zero=>exact qxA _
    | succ i=>exact Nat.le_of_lt (hr p (p+(i+1)) (by omega) h2)
   have h7:xs.getD p 0=j:=by omega
   apply hn;simp only [Array.getD,hp2,dite_true] at h7;rw [Array.getElem?_eq_getElem hp2];exact congrArg some h7
  simp only [Array.getD,h2,dite_true] at h3 h4;have e:xs.toList[p+i]'(by simpa using h2)=xs[p+i]:=by simp
  rw [e];have h3':j<=xs[p+i]:=by simpa using h3
  have h4':xs[p+i]≠j:=by simpa using h4
  omega
 rw [List.pairwise_append];refine ⟨pw.take,List.pairwise_cons.mpr ⟨hB,pw.drop⟩,fun x hx y hy=>?_⟩;have h1:=hA x hx;rcases qkA.mp hy with rfl|hy
 ·exact h1
 ·exact Nat.lt_trans h1 (hB y hy)
structure RT (t:SetTable):Prop where
 ris:Ris t.place
 dum:t.dummies = #[]
theorem E2 (j:Nat):SetTable.has #[] j=false:=by
 unfold SetTable.has;simp
theorem probe_go {t:SetTable}(hd:t.dummies = #[])(f:Nat->Int)(h:Int):∀ fuel p j d,p.dummy=none->SetTable.probe.go t f h fuel p=some (.empty j d)->d=none/\t.place[SetTable.below t.place j]?≠some j:=by
 intro fuel
 induction fuel with
 | zero=>intro p j d _ e;cases e
 | succ fuel ih =>
  intro p j d hp e;unfold SetTable.probe.go at e
  have hadv:(t.advance p).dummy=none:=by
   unfold SetTable.advance;split
   ·exact hp
   ·exact hp
  cases hs:t.slot p.j with
  | empty =>
   rw [hs] at e;dsimp only at e;cases e;refine ⟨hp,fun hc=>?_⟩;unfold SetTable.slot at hs;dsimp only at hs;rw [hc] at hs;simp at hs
  | dummy =>
   unfold SetTable.slot at hs;dsimp only at hs;rw [hd,E2] at hs;split at hs<;>simp at hs
  | live i =>
   rw [hs] at e;dsimp only at e;split at e
   ·cases e
   ·exact ih _ _ _ hadv e
theorem KW {t:SetTable}(hd:t.dummies = #[]){h:Int}{j:Nat}{b:Bool}(e:t.freeSlot h=some (j,b)):b=false/\t.place[SetTable.below t.place j]?≠some j:=by
 unfold SetTable.freeSlot at e
 cases hp:t.probe (fun _=>h+1) h (t.probeStart h) with
 | none=>rw [hp] at e;cases e
 | some m =>
  rw [hp] at e
  cases m with
  | candidate _ _ _=>cases e
  | empty j' d =>
   obtain ⟨rfl,h2⟩:=probe_go hd _ _ _ _ _ _ rfl hp;simp only [Option.getD_none,Option.isSome_none,Option.some.injEq,Prod.mk.injEq] at e;obtain ⟨rfl,rfl⟩:=e;exact ⟨rfl,h2⟩
theorem EO (t:SetTable)(n:Nat):RT (t.standIn n):=⟨GO (by show (Array.range n).toList.Pairwise _;rw [Array.toList_range];exact List.pairwise_lt_range),rfl⟩
theorem JE {t:SetTable}(h:RT t)(n:Nat):RT (t.orStandIn n):=by
 unfold SetTable.orStandIn;split
 ·exact h
 ·exact EO t n
theorem Ig (t:SetTable)(n:Nat):(t.orStandIn n).led=t.led:=by
 unfold SetTable.orStandIn;split<;>rfl
theorem M8 {t:SetTable}(ht:RT t)(es:Array (Int × Value))(h:Int)(x:Value):RT (layNew t es h x).2.1/\(layNew t es h x).2.1.led=t.led:=by
 unfold layNew;split
 ·rename_i slot wd e;obtain ⟨_,h2⟩:=KW ht.dum e;refine ⟨JE ⟨?_,?_⟩ _,Ig _ _⟩
  ·exact Kp ht.ris h2
  ·show (if SetTable.has t.dummies slot then _ else t.dummies) = #[];rw [ht.dum,E2]
   rfl
 ·exact ⟨EO _ _,rfl⟩
theorem Fe {β:Type}(f:Nat->Option β):∀ l:List Nat,l.Pairwise (· < ·)->((l.filterMap fun j=>(f j).map (j,·)).map (·.1)).Pairwise (· < ·)
 | [],_=>.nil
 | a::l,h=>by
  have ih:=Fe f l h.tail
  cases hf:f a with
  | none=>rw [List.filterMap_cons_none (by rw [hf];rfl)];exact ih
  | some b =>
   rw [List.filterMap_cons_some (b:=(a,b)) (by rw [hf];rfl),quA];refine List.pairwise_cons.mpr ⟨fun y hy=>?_,ih⟩;obtain ⟨⟨j,c⟩,hq,rfl⟩:=qmA.mp hy;obtain ⟨j',hj',e⟩:=List.mem_filterMap.mp hq
   cases hf':f j' with
   | none=>rw [hf'] at e;cases e
   | some c' =>
    rw [hf'] at e;cases e;exact List.rel_of_pairwise_cons h hj'
theorem Ly {mask finger moves:Nat}{led plain:Bool}{hs:Array Int}{t:SetTable}{o:Array Nat}(e:SetTable.laid mask finger moves led plain hs=some (t,o)):RT t/\t.led=led/\t.plain=plain/\t.mask=mask:=by
 unfold SetTable.laid at e
 cases hl:SetTable.layClean mask hs with
 | none=>rw [hl] at e;cases e
 | some ow =>
  rw [hl] at e;simp only [Option.pure_def,Option.bind_eq_bind,Option.bind_some,Option.some.injEq,Prod.mk.injEq] at e;obtain ⟨rfl,rfl⟩:=e;refine ⟨⟨GO ?_,rfl⟩,rfl,rfl,rfl⟩;exact Fe (fun j=>ow.getD j none) _ List.pairwise_lt_range
theorem Jy (t:SetTable)(ht:RT t)(es:Array (Int × Value))(wanted:Nat):RT (relayAll t es wanted).2.1/\(relayAll t es wanted).2.1.led=t.led:=by
 unfold relayAll;split
 ·rename_i t' order e;dsimp only;split
  ·unfold SetTable.relaid at e;obtain ⟨a,b,_⟩:=Ly e;exact ⟨a,b⟩
  ·exact ⟨EO _ _,rfl⟩
 ·exact ⟨EO _ _,rfl⟩
def byT (w:World):Bool:=w.params.followText "set-order"
def Ent (w:World)(e:Int × Value)(k:Key):Prop:=DQ k e.2=true/\e.1=Ka w k
theorem K3 {k:Key}{v:Value}(h:DQ k v=true):v.scannable=true:=by
 rcases BV h with ⟨i,t,rfl,rfl⟩ | ⟨x,t,rfl,rfl⟩<;>rfl
structure SObj (w:World)(o:Obj)(es:Array (Int × Value))(ep:Nat)(t:SetTable)(ks:List Key):Prop where
 exact':o.ExactSet
 data:o.data = .set es ep t
 ent:Paired (Ent w) es.toList ks
 few:ks.length<scanBound
 fit:t.fits es.size=true
 rt:RT t
 led:t.led = !byT w
def SetIs (w:World)(h:Heap)(a:Addr)(ks:List Key):Prop:=∃ o es ep t,h.get? a=some o/\SObj w o es ep t ks
theorem Di {α β:Type}{F:α->β->Prop}:∀ {l₁:List α}{l₂:List β},Paired F l₁ l₂->l₁.length=l₂.length
 | _,_,.nil=>rfl
 | _,_,.cons _ t=>congrArg (· + 1) (Di t)
theorem SObj.size {w:World}{o es ep t ks}(S:SObj w o es ep t ks):es.size=ks.length:=by
 have:=Di S.ent
 rwa [qnB] at this
theorem SObj.elems {prog:Program}{w:World}{o es ep t ks}(S:SObj w o es ep t ks):ElemsOf (CK prog w) es.toList:=by
 have:∀ {l:List (Int × Value)}{ks:List Key},Paired (Ent w) l ks->ElemsOf (CK prog w) l:=by
  intro l ks p
  induction p with
  | nil=>intro e he;cases he
  | cons hd _ ih =>
   intro e he;rcases qkA.mp he with rfl|he
   ·exact ⟨⟨_,hd.1,hd.2⟩,K3 hd.1⟩
   ·exact ih e he
 exact this S.ent
theorem Ge {α β:Type}{F:α->β->Prop}{l l':List α}(hp:l'.Perm l):∀ {m:List β},Paired F l m->∃ m',m'.Perm m/\Paired F l' m':=by
 have:=hp.symm;clear hp
 induction this with
 | nil=>intro m p;exact ⟨m,.rfl,p⟩
 | cons x _ ih =>
  intro m p
  cases p with
  | cons h t =>
   obtain ⟨m',e,q⟩:=ih t;exact ⟨_,e.cons _,.cons h q⟩
 | swap x y l =>
  intro m p
  cases p with
  | cons h t=>cases t with
   | cons h2 t2=>exact ⟨_,List.Perm.swap _ _ _,.cons h2 (.cons h t2)⟩
 | trans _ _ ih1 ih2 =>
  intro m p;obtain ⟨m1,e1,q1⟩:=ih1 p;obtain ⟨m2,e2,q2⟩:=ih2 q1;exact ⟨m2,e2.trans e1,q2⟩
theorem Jz {w:World}{k:Key}:∀ {l:List (Int × Value)}{ks:List Key},Paired (Ent w) l ks->((∃ e∈l,DQ k e.2=true) ↔ k∈ks)
 | _,_,.nil=>by simp
 | _,_,.cons (a:=e) (b:=k') h t=>by
  have ih:=Jz (k:=k) t;have hk:DQ k e.2=true ↔ k=k':=⟨fun q=>(CK default w).inj _ _ _ q h.1,fun q=>q ▸ h.1⟩;constructor
  ·rintro ⟨x,hx,q⟩;rcases qkA.mp hx with rfl|hx
   ·exact qkA.mpr (.inl (hk.mp q))
   ·exact qkA.mpr (.inr (ih.mp ⟨x,hx,q⟩))
  ·intro hm;rcases qkA.mp hm with rfl|hm
   ·exact ⟨e,qoA,h.1⟩
   ·obtain ⟨x,hx,q⟩:=ih.mpr hm;exact ⟨x,qpA _ hx,q⟩
def FC (ks:List Key)(k:Key):List Key:=if ks.any (fun y=>decide (y=k)) then ks else ks++[k]
theorem any_mem {ks:List Key}{k:Key}:ks.any (fun y=>decide (y=k))=true ↔ k∈ks:=by
 rw [List.any_eq_true];exact ⟨fun ⟨y,hy,e⟩=>(of_decide_eq_true e) ▸ hy,fun h=>⟨k,h,decide_eq_true rfl⟩⟩
theorem JZ {ks:List Key}{k:Key}(h:k∈ks):FC ks k=ks:=by unfold FC;rw [if_pos (any_mem.mpr h)]
theorem HU {ks:List Key}{k:Key}(h:k ∉ ks):FC ks k=ks++[k]:=by unfold FC;rw [if_neg (fun q=>h (any_mem.mp q))]
theorem Jk {t:SetTable}(h:RT t):RT { t with plain:=false }:=⟨h.ris,h.dum⟩
section
variable {prog:Program}{w:World}{A:Around}{E:Value->Shared->Prop}{s:Shared}
theorem F0 {a:Addr}{o:Obj}{es:Array (Int × Value)}{ep:Nat}{t:SetTable}{es':Array (Int × Value)}{t':SetTable}(ho:s.heap.get? a=some o)(hd:o.data = .set es ep t) :
  (s.heap.update a (Obj.putSet es' t')).get? a=some { o with data:=.set es' (ep+1) t' }:=by
 have:=Heap.get?_update_self (Obj.putSet es' t') ho (by rw [putSet_of es' t' hd];rfl)
 rwa [putSet_of es' t' hd] at this
theorem K8 {n:Nat}(h:n<scanBound):n<=sizeLine:=fits_of_scanBound h
theorem KB {g:Bool->Sem Unit}(hg:∀ (b:Bool) (s₁:Shared) (Q':Unit->Shared->Prop),Q' () s₁->wpAny (model prog w) A (g b) Q' E s₁)
  {a:Addr}{o:Obj}{es:Array (Int × Value)}{ep:Nat}{t:SetTable}(gA:s.heap.get? a=some o) (xA:o.ExactSet) (dA:o.data = .set es ep t)
  {es1:Array (Int × Value)}{t2:SetTable}{ks:List Key}(p1:Paired (Ent w) es1.toList ks) (f1:ks.length<scanBound) (ft:t2.fits es1.size=true) (r2:RT t2) (l2:t2.led = !byT w) {wd:Bool}{R:Option Bool->Shared->Prop}
  (h:∀ h' ks',Heap.SameBut a s.heap h'->SetIs w h' a ks'->ks'.Perm ks->R (some true) { s with heap:=h' }) :
  wpAny (model prog w) A (do
    storeSet a es1 t2
    if (!wd && t2.tooFull)=true then do
      g (relayAll t2 es1 (SetTable.grown es1.size)).2.2;storeSet a (relayAll t2 es1 (SetTable.grown es1.size)).1 (relayAll t2 es1 (SetTable.grown es1.size)).2.1
      pure (some true)
     else pure (some true)) R E s:=by
 have z1:es1.size=ks.length:=by have:=Di p1;rwa [qnB] at this
 refine qbA (wpAny_storeSet_of gA dA ?_ (K8 (by rw [z1];exact f1)));have g1:=F0 (es':=es1) (t':=t2) gA dA;have b1:=Heap.SameBut.update s.heap a (Obj.putSet es1 t2);split
 ·have hp:=relayAll_perm t2 es1 (SetTable.grown es1.size);have hfr:=relayAll_fits t2 es1 (SetTable.grown es1.size);obtain ⟨hrt,hld⟩:=Jy t2 r2 es1 (SetTable.grown es1.size);generalize relayAll t2 es1 (SetTable.grown es1.size)=Rl at hp hfr hrt hld ⊢;obtain ⟨es2,t3,gave2⟩:=Rl;dsimp only at hp hfr hrt hld ⊢;obtain ⟨ks',e',p2⟩:=Ge hp p1;have f2:ks'.length<scanBound:=by rw [e'.length_eq];exact f1
  have z2:es2.size=ks'.length:=by have:=Di p2;rwa [qnB] at this
  refine qbA (hg _ _ _ (qbA (wpAny_storeSet_of (o:={ o with data:=.set es1 (ep+1) t2 }) g1 rfl ?_ (K8 (by rw [z2];exact f2)))));have g2:=F0 (s:={ s with heap:=s.heap.update a (Obj.putSet es1 t2) }) (es':=es2) (t':=t3) g1 rfl;exact qcA (h _ ks' (b1.trans (Heap.SameBut.update _ a _)) ⟨_,es2,_,t3,g2,⟨xA,rfl,p2,f2,hfr,hrt,hld.trans l2⟩⟩ e')
 ·exact qcA (h _ ks b1 ⟨_,es1,_,t2,g1,⟨xA,rfl,p1,f1,ft,r2,l2⟩⟩ .rfl)
theorem add_ok {a:Addr}{ks:List Key}{k:Key}{x:Value}{Q:Bool->Shared->Prop}(hk:DQ k x=true)(hS:SetIs w s.heap a ks)(hroom:ks.length+1<scanBound)
  (h:∀ h' ks',Heap.SameBut a s.heap h'->SetIs w h' a ks'->ks'.Perm (FC ks k)->∀ b,Q b { s with heap:=h' }) :
  wpAny (model prog w) A (setAddHashed a x (Ka w k)) Q E s:=by
 obtain ⟨o,es,ep,t,gA,S⟩:=hS;have hel:=S.elems (prog:=prog);have hsz:=S.size;have hsc:=K3 hk;unfold setAddHashed setAddHashedIn;refine wpAny_holding (qbA (wpAny_setState_of gA S.data S.fit ?_));dsimp only;rw [byScan_of hsc (by rw [hsz];exact S.few) hel];simp only [↓reduceIte];unfold setAddByScan;refine qbA (qbA (wpAny_rule (qbA (wpAny_setScan_of (knd:=CK prog w) (k:=k) hk gA S.data S.fit hel ?_))));have hf:=Jz (k:=k) S.ent
 cases hr:List.findIdx? (fun e=>(CK prog w).is k e.2) es.toList with
 | some j =>
  dsimp only;obtain ⟨hj,hpj,_⟩:=List.findIdx?_eq_some_iff_getElem.mp hr;have hm:k∈ks:=hf.mp ⟨es.toList[j],List.getElem_mem hj,hpj⟩;refine qcA (qcA ?_);have e:s = { s with heap:=s.heap }:=by cases s;rfl
  have q:=h s.heap ks (Heap.SameBut.refl a s.heap) ⟨o,es,ep,t,gA,S⟩ (by rw [JZ hm]) false;rw [<- e] at q;exact q
 | none =>
  dsimp only
  have hm:k ∉ ks:=fun hm=>by
   obtain ⟨e,he,q⟩:=hf.mpr hm;have:=List.findIdx?_eq_none_iff.mp hr e he;have q':(CK prog w).is k e.2=true:=q;rw [q'] at this;exact Bool.noConfusion this
  have hgw:∀ (b:Bool) {s₁:Shared}{Q':Unit->Shared->Prop},Q' () s₁->wpAny (model prog w) A (match b with|true=>rule "set.scan.the-table-gave-way" | false=>pure ()) Q' E s₁:=by
   intro b s₁ Q' hq;cases b
   ·exact qcA hq
   ·exact wpAny_rule hq
  have hperm:=layNew_perm t es (Ka w k) x;have hfits:=layNew_fits t es (Ka w k) x;obtain ⟨hrt,hld⟩:=M8 S.rt es (Ka w k) x;generalize hL:layNew t es (Ka w k) x=L at hperm hfits hrt hld;obtain ⟨es1,t1,wd,gave⟩:=L;dsimp only at hperm hfits hrt hld ⊢;rw [Array.toList_push] at hperm;obtain ⟨ks1,e1,p1⟩:=Ge hperm (S.ent.snoc (b:=k) (show Ent w (Ka w k,x) k from ⟨hk,rfl⟩));have f1:ks1.length<scanBound:=by rw [e1.length_eq,qeA];exact hroom
  have fin:∀ (h':Heap) (ks':List Key),Heap.SameBut a s.heap h'->SetIs w h' a ks'->ks'.Perm ks1->Q true { s with heap:=h' }:=fun h' ks' b1 b2 b3=>h h' ks' b1 b2 (by rw [HU hm];exact b3.trans e1) true;refine qbA (hgw _ ?_);split
  ·refine qbA ?_;rw [hashByValue_scannable 8 hsc];refine qcA (KB (fun b s₁ Q' hq=>by cases b<;>first|exact qcA hq|exact wpAny_rule hq) gA S.exact' S.data p1 f1 ?_ ?_ ?_ fun h' ks' b1 b2 b3=>?_)
   ·split
    ·exact hfits
    ·exact SetTable.fits_plain_off hfits
   ·split
    ·exact hrt
    ·exact Jk hrt
   ·split
    ·exact hld.trans S.led
    ·exact hld.trans S.led
   ·exact qcA (fin h' ks' b1 b2 b3)
  ·refine qbA (qcA ?_);simp only [↓reduceIte];refine KB (fun b s₁ Q' hq=>by cases b<;>first|exact qcA hq|exact wpAny_rule hq) gA S.exact' S.data p1 f1 hfits hrt (hld.trans S.led) fun h' ks' b1 b2 b3=>?_;exact qcA (fin h' ks' b1 b2 b3)
end
def GA (ks:List Key):List Key:=ks.foldl FC []
theorem MJ {a b:List Key}(h:a.Perm b)(k:Key):(FC a k).Perm (FC b k):=by
 by_cases hk:k∈b
 ·rw [JZ hk,JZ (h.mem_iff.mpr hk)];exact h
 ·rw [HU hk,HU (fun q=>hk (h.mem_iff.mp q))];exact h.append_right _
theorem addK_len (a:List Key)(k:Key):(FC a k).length<=a.length+1:=by
 unfold FC;split
 ·exact Nat.le_succ _
 ·rw [qeA];exact qxA _
theorem M7 (ks:List Key):∀ a:List Key,(ks.foldl FC a).length<=a.length+ks.length:=by
 induction ks with
 | nil=>intro a;exact qxA _
 | cons k ks ih =>
  intro a;have h1:=ih (FC a k);have h2:=addK_len a k;rw [qsB,qfA];omega
theorem dedK_len (ks:List Key):(GA ks).length<=ks.length:=by
 have:=M7 ks [];rw [List.length_nil] at this;unfold GA;omega
theorem Mc (ks:List Key)(k:Key):GA (ks++[k])=FC (GA ks) k:=by
 unfold GA;rw [List.foldl_append]
 rfl
def SetP (w:World)(h:Heap)(a:Addr)(ks:List Key):Prop:=∃ ks',SetIs w h a ks'/\ks'.Perm ks
theorem SetIs.at {w:World}{h h':Heap}{a:Addr}{ks:List Key}(x:SetIs w h a ks)(k:∀ o,h.get? a=some o->h'.get? a=some o):SetIs w h' a ks:=by
 obtain ⟨o,es,ep,t,g,S⟩:=x;exact ⟨o,es,ep,t,k _ g,S⟩
theorem SetP.at {w:World}{h h':Heap}{a:Addr}{ks:List Key}(x:SetP w h a ks)(k:∀ o,h.get? a=some o->h'.get? a=some o):SetP w h' a ks:=by
 obtain ⟨ks',g,e⟩:=x;exact ⟨ks',g.at k,e⟩
def Ar (w:World):Obj:={ cls:=.type "set",dict:=none,data:=.set #[] 0 (.fresh 0 0 (!byT w)) }
theorem fresh_is {w:World}{h:Heap}{a:Addr}(g:h.get? a=some (Ar w)):SetIs w h a [] :=
 ⟨_,#[],0,_,g,⟨⟨rfl,rfl,rfl⟩,rfl,.nil,by decide,rfl,⟨fun i j _ hj=>absurd hj (Nat.not_lt_zero _),rfl⟩,rfl⟩⟩
section
variable {prog:Program}{w:World}{A:Around}{R:Result->Shared->Prop}{I:Addr}{fp wr:List Addr}{G:Array GenState->Array GenState->Prop}{n:Nat}{P:Nat->Value->Prop}{St:Nat->Shared->Prop}
theorem upd_loop (W:WalksS prog w A.in1 I fp wr G n P St)(S:Addr)(nS:S ∉ fp)(val:List Key)(hn:val.length=n)(hv:∀ i v,P i v->∃ k,val[i]? = some k/\DQ k v=true)(hb:n+1<scanBound) :
  ∀ (k i:Nat) (s:Shared),n - i=k->i<=n->St i s->SetP w s.heap S (GA (val.take i)) ->
   (∀ s',Moved (S::wr) G s s'->SetP w s'.heap S (GA val)->R (.ok (.ret .none)) s') ->
   codeAny (model prog w) A (.builtin "set.update.loop" ⟨[.ref S,.ref I],[]⟩) R s:=by
 have nW:S ∉ wr:=fun h=>nS (W.sub _ h);have up:∀ b∈wr,b∈S::wr:=fun b hb=>qpA _ hb;intro k
 induction k with
 | zero =>
  intro i s e1 e2 st hS hR;have ei:i=n:=by omega
  subst ei;refine codeAny_builtin PyProof.Rows.F.entry_set_update_loop ?_;rw [Around.under_plainId PyProof.Rows.F.plain_set_update_loop _];show wpAny _ A.in1 (pyNext (.ref I) >>= _) _ _ s;refine qbA (W.done s _ _ st fun s' hm=>?_);show wpAny _ A.in1 (ret Value.none) _ _ s';refine qcA (hR s' (hm.mono up) ?_);rw [List.take_of_length_le (Nat.le_of_eq hn)] at hS;exact hS.at fun o e=>hm.heap S _ nW e
 | succ k ih =>
  intro i s e1 e2 st hS hR;have hlt:i<n:=by omega
  refine codeAny_builtin PyProof.Rows.F.entry_set_update_loop ?_;rw [Around.under_plainId PyProof.Rows.F.plain_set_update_loop _];show wpAny _ A.in1 (pyNext (.ref I) >>= _) _ _ s;refine qbA (W.item i s _ _ hlt st fun v s' hP st' hm=>?_);obtain ⟨kk,hkk,hi⟩:=hv i v hP;obtain ⟨ks',hS',ep⟩:SetP w s'.heap S (GA (val.take i)):=hS.at fun o e=>hm.heap S _ nW e;show wpAny _ A.in1 (holding [v] (setAdd S v) >>= _) _ _ s';refine qbA (wpAny_holding ?_);unfold setAdd;refine wpAny_holding (qbA ((CK prog w).pyHash (k:=kk) hi ?_))
  have hl:ks'.length<=i:=by
   rw [ep.length_eq];exact qyA (dedK_len _) (by rw [qiA];exact Nat.min_le_left _ _)
  refine add_ok (s:={ s' with toks:=s'.toks+1 }) hi hS' (by omega) fun h' ks2 hsb hS2 e2' b=>?_
  have hnext:SetP w h' S (GA (val.take (i+1))):=by
   refine ⟨ks2,hS2,?_⟩;rw [List.take_add_one,hkk];show ks2.Perm (GA (val.take i++[kk]));rw [Mc];exact e2'.trans (MJ ep kk)
  refine qcA ⟨plainId_quiet PyProof.Rows.F.plain_set_update_loop _,ih (i+1) _ (by omega) hlt (W.frame _ s' _ _ st' (Nat.le_succ _) fun b hb o e=>?_) hnext fun s'' hm'' hS''=>?_⟩
  ·exact (hsb.2 b (fun h:b=S=>nS (by rw [<- h];exact hb))).trans e
  ·refine hR s'' (Moved.trans W.gtrans ((hm.mono up).then_heap (Nat.le_succ _) fun b o hb e=>?_) hm'') hS'';exact (hsb.2 b (fun h:b=S=>hb (by rw [h];exact qoA))).trans e
end
def Src (prog:Program)(w:World)(x:Value)(h0:Heap)(n:Nat)(P:Nat->Value->Prop):Prop :=
 ∀ s₁:Shared,(∀ b o,h0.get? b=some o->s₁.heap.get? b=some o)->∃ (oI:Obj) (fp:List Addr) (St:Nat->Heap->Prop),oI.isFreed=false/\(∀ b∈fp,b=s₁.heap.objs.size\/b<h0.objs.size)/\St 0 (s₁.heap.push oI) /\
  (∀ (A':Around) (Q:Value->Shared->Prop) (E:Value->Shared->Prop),A'.handled=none->Q (.ref s₁.heap.objs.size) { s₁ with heap:=s₁.heap.push oI }->wpAny (model prog w) A' (pyIter x) Q E s₁) /\
  ∀ A':Around,A'.handled=none->Walks prog w A' s₁.heap.objs.size fp [s₁.heap.objs.size] n P St
section
variable {prog:Program}{w:World}{A:Around}{E:Value->Shared->Prop}{s:Shared}
theorem K4 {l:Addr}{items:Array Value}(hl:s.heap.IsList l items):Src prog w (.ref l) s.heap items.size (fun i v=>items[i]? = some v):=fun s₁ hk=>by
 have hl1:s₁.heap.IsList l items:=hl.at fun o e=>hk _ _ e;obtain ⟨o0,ho0,_⟩:=hl;have ne:l≠s₁.heap.objs.size:=qoB (qbB (hk _ _ ho0));refine ⟨{ cls:=.type "list_iterator",data:=.fields #[.ref l,.int 0 0] },[s₁.heap.objs.size,l],_,rfl,fun b hb=>?_,?_,fun A' Q E' hh q=>wpAny_pyIter_list hl1 q,fun A' hh=>Walks.list hh _ l ne items⟩
 ·rcases qkA.mp hb with e|e
  ·exact .inl e
  ·rw [qnA.mp e];exact .inr (qbB ho0)
 ·exact ⟨⟨_,qdB _ rfl,rfl,rfl⟩,hl1.push _⟩
theorem Fm (a:Value){Q₁:Value->Shared->Prop}(h:Q₁ (.ref s.heap.objs.size) { s with heap:=s.heap.push (Ar w) }) :
  codeAny (model prog w) A (.call (.builtin "set.__new__") ⟨[.type "set",a],[]⟩) (wants Q₁ E) s:=by
 refine codeAny_of_tree ?_;show wpAny _ A.in1 (checkBuiltinCall "set.__new__" ⟨[.type "set",a],[]⟩ >>= fun _=>again (.builtin "set.__new__" ⟨[.type "set",a],[]⟩)) _ _ s;refine qbA (wpAny_of_eq (PySem.F.newCall_set_1 a) (qcA ⟨plainId_quiet F.plain_set_new _,codeAny_builtin F.entry_set_new ?_⟩));rw [Around.under_plainId F.plain_set_new _];unfold Builtin.«set.__new__» Builtin.Frozenset.newClass;have hsub:=sub_set_self;obtain ⟨hp,g,d,tk,os⟩:=s;dsimp only
 wp_walk
 refine wpAny_askSetting (qcA ?_);dsimp only;simp only [newObj];exact qbA (wpAny_alloc (qcA (qcA h)))
end
section
variable {prog:Program}{w:World}{A:Around}{E:Value->Shared->Prop}{s:Shared}
theorem JQ {x:Value}{T:String}{n:Nat}{P:Nat->Value->Prop}{val:List Key}{Q:Value->Shared->Prop}(hh:A.handled=none)(hx:Src prog w x s.heap n P)
  (tx:∀ s₁:Shared,(∀ b o,s.heap.get? b=some o->s₁.heap.get? b=some o)->s₁.TypeIs x T) (n1:isSubtype (.type T) (.type "set")=pure false) (n2:isSubtype (.type T) (.type "frozenset")=pure false) (n3:(Value.type T == Value.type "dict")=false)
  (hn:val.length=n) (hv:∀ i v,P i v->∃ k,val[i]? = some k/\DQ k v=true) (hb:n+1<scanBound)
  (h:∀ (h':Heap) (tk:Nat),SetP w h' s.heap.objs.size (GA val)->(∀ b o,s.heap.get? b=some o->h'.get? b=some o)->Q (.ref s.heap.objs.size) { s with heap:=h',toks:=tk }) :
  wpAny (model prog w) A (call (.type "set") [x]) Q E s:=by
 obtain ⟨c,tl,hmro⟩:=F.called_set.mro;have hmade:=F.called_set.made;have hsub:=F.called_set.sub;refine wpAny_call (codeAny_of_tree ?_);show wpAny _ _ (callAny (.type "set") _) _ _ _;refine qcA ⟨Code.quiet_builtin _ (by decide +kernel),codeAny_builtin F.entry_type_call ?_⟩;rw [Around.under_plain (weight_type_call_type "set" [x] []) rfl];have h1:=F.called_set.notType;have h2:=F.called_set.canCreate;have hct:=PySem.F.typeCall_set_1 x
 repeat (any_goals (first|assumption|wp_step))
 refine codeAny_mono (Fm x (E:=E) (Q₁:=fun obj s₁=>obj = .ref s.heap.objs.size/\s₁ = { s with heap:=s.heap.push (Ar w) }) ⟨rfl,rfl⟩) fun r s₁ hr=>?_
 cases r with
 | error e=>exact hr
 | ok fl=>cases fl with
  | ret obj =>
   obtain ⟨rfl,rfl⟩:=hr;have gS:(s.heap.push (Ar w)).get? s.heap.objs.size=some (Ar w):=qdB _ rfl;have hT:Shared.TypeIs { s with heap:=s.heap.push (Ar w) } (.ref s.heap.objs.size) "set" := ⟨_,gS,rfl⟩;have hli:=F.called_set.init.lookup;have hbi:=F.called_set.init.bind (.ref s.heap.objs.size)
   repeat (any_goals (first|assumption|wp_step))
   refine codeAny_mono (codeAny_call_builtin (R:=wants (fun r s₂=>r = .none/\∃ h' tk,s₂ = { s with heap:=h',toks:=tk }/\SetP w h' s.heap.objs.size (GA val)/\(∀ b o,s.heap.get? b=some o->h'.get? b=some o)) E) F.called_set.init.plain F.entry_set_init (check_set_init_1 hT ?_)) fun r₂ s₂ hr₂=>?_
   ·obtain ⟨hp,g,d,tk0,os⟩:=s;dsimp only at *;have kp:∀ b o,hp.get? b=some o->(hp.push (Ar w)).get? b=some o:=fun b o e=>qcB _ e;have hTx:Shared.TypeIs { heap:=hp.push (Ar w),gens:=g,drawn:=d,toks:=tk0,os:=os } x T:=tx _ kp;unfold Builtin.«set.__init__» noKeywords Builtin.Frozenset.updateFrom;generalize hPI:pyIter=PI;unfold Ar at *
    wp_walk
    subst hPI;obtain ⟨oI,fp,St,hf,hfp,st0,hit,hW⟩:=hx { heap:=hp.push (Ar w),gens:=g,drawn:=d,toks:=tk0,os:=os } kp;refine hit _ _ _ (by simp [hh]) (qbA (wpAny_runValue ?_));have eS:(hp.push (Ar w)).objs.size=hp.objs.size+1:=size_push' _ _
    have nS:hp.objs.size ∉ fp:=fun hm=>by
     rcases hfp _ hm with e|e
     ·rw [eS] at e;exact absurd e (qoB (Nat.lt_succ_self _))
     ·exact qzA _ e
    refine upd_loop (hW _ (by simp [hh])).toS hp.objs.size nS val hn hv hb n 0 _ rfl (qtB _) st0 ?_ fun s' hm hS'=>?_
    ·exact ⟨[],fresh_is (qcB _ gS),.rfl⟩
    ·obtain ⟨h',g',d',tk',os'⟩:=s';obtain rfl:g'=g:=hm.gens;obtain rfl:d'=d:=hm.drawn;obtain rfl:os'=os:=hm.os;refine qcA ?_;show wpAny _ _ (ret Value.none) _ _ _;refine qcA ⟨rfl,h',tk',rfl,hS',fun b o e=>?_⟩;have lb:b<hp.objs.size:=qbB e;refine hm.heap b o (fun hmem=>?_) (qcB _ (kp b o e));rcases qkA.mp hmem with q|q
     ·exact absurd q (qoB lb)
     ·have q:=qnA.mp q;rw [eS] at q;exact absurd q (qoB (Nat.lt_succ_of_lt lb))
   ·cases r₂ with
    | error e=>exact hr₂
    | ok fl₂=>cases fl₂ with
     | ret r =>
      obtain ⟨rfl,h',tk,rfl,hS',hk'⟩:=hr₂
      repeat (any_goals (first|assumption|wp_step))
      exact h _ _ hS' hk'
     | _=>exact hr₂.elim
  | _=>exact hr.elim
end
def SetO (w:World)(p:Addr)(ks:List Key):HO:=.ext fun h=>SetP w h p ks
theorem setO_ok {P:Program}{w:World}{H:Hp}{h:Heap}{p:Addr}{ks:List Key}(x:SetP w h p ks):ObjOk P w H h p (SetO w p ks):=by
 refine ⟨x,?_,fun h1 h2 a b=>a.at b⟩;obtain ⟨_,⟨o,_,_,_,g,_⟩,_⟩:=x;exact ⟨o,g⟩
theorem setO_get {P:Program}{w:World}{H:Hp}{h:Heap}{p:Addr}{ks:List Key}(x:HOk P w H h)(e:H p=some (SetO w p ks)):SetP w h p ks:=(x p _ e).1
section
variable {X:Cx}{pins:List (Addr × Obj)}{σ:List (Option V)}{H:Hp}{s s':Shared}
theorem Inv.same (I:Inv X pins σ H s)(e1:s'.heap=s.heap)(e2:s'.gens=s.gens)(e3:s'.os=s.os):Inv X pins σ H s':=by
 obtain ⟨h,g,d,t,o⟩:=s;obtain ⟨h',g',d',t',o'⟩:=s';dsimp only at e1 e2 e3;subst e1;subst e2;subst e3;exact ⟨I.ok,I.os,I.bare,I.base,I.loc,I.cell,I.free,I.freeC,I.pin,I.hok,I.len⟩
theorem Inv.laid' {a:Addr}{o:HO}(I:Inv X pins σ H s)(k:∀ b u,s.heap.get? b=some u->s'.heap.get? b=some u)(hp:s.heap.objs.size<=a)(new:ObjOk X.prog X.w (upd H a o) s'.heap a o)(e2:s'.gens=s.gens)(e3:s'.os=s.os) :
  Inv X pins σ (upd H a o) s':=(I.laid (t':=s.toks) k hp new).same rfl e2 e3
end
theorem rel_key:∀ {k:Key}{u:Value},RelV (kV k) u->DQ k u=true
 | .inl i,u,h=>by obtain ⟨t,rfl⟩:=h;exact GU i t
 | .inr x,u,h=>by obtain ⟨t,rfl⟩:=h;exact Mn x t
theorem vals_key {ks:List Key}:∀ {us:List Value},Vals (ks.map kV) us->∀ (i:Nat) (v:Value),us[i]? = some v->∃ k,ks[i]? = some k/\DQ k v=true:=by
 induction ks with
 | nil=>intro us r i v e;cases r;cases e
 | cons k ks ih =>
  intro us r i v e;rw [quA] at r
  cases r with
  | cons h t=>cases i with
   | zero =>
    cases e;exact ⟨k,rfl,rel_key h⟩
   | succ i=>exact ih t i v e
def rSetK (w:World)(K:FZ9):List V->Hp->VK->Prop:=fun vs H Q=>∃ (l:Addr) (ks:List Key),vs=[.ref l]/\SqL K H l (ks.map kV)/\ks.length<4000/\∀ p,H p=none->Q (.ref p) (upd H p (SetO w p (GA ks)))
theorem Ma {X:Cx}{w:World}{K:FZ9}(hc:X.calm=true)(hw:X.w=w)(hK:X.K=K):CI X (.type "set") (rSetK w K):=by
 subst hK;subst hw;intro pins s σ H vs us Q I r h;obtain ⟨l,ks,rfl,hl,hz,q⟩:=h;obtain ⟨u,rfl,ru⟩:=DX r;cases ru;obtain ⟨its,rv,pl,_⟩:=I.list hl;have hlen:=rv.length;rw [qdA] at hlen;have il:=pl.isList;refine JQ (val:=ks) (T := "list") (I.ok.hd hc) (K4 il) (fun s1 k=>(il.at fun o e=>k _ _ e).typeIs) PySem.F.sub_list_set PySem.F.sub_list_frozenset (by decide) ?_ (fun i v e=>vals_key rv i v (by rw [List.getElem?_toArray] at e;exact e)) ?_ fun h' tk hS hk=>?_
 ·rw [qkB];exact hlen
 ·rw [qkB,<- hlen];unfold scanBound;omega
 ·exact ⟨.ref s.heap.objs.size,_,I.laid' (s':={ s with heap:=h',toks:=tk }) (fun b o e=>hk b o e) (qxA _) (setO_ok hS) rfl rfl,rfl,q _ (I.hok.fresh (qxA _))⟩
def leZ (a b:Int):Bool:=decide (a<=b)
def Gi (ys:List Int):List Int:=ys.mergeSort leZ
theorem sortZ_of {ss ss':List Int}(hp:ss'.Perm ss)(hs:ss'.Pairwise (· <= ·)):ss'=Gi ss:=by
 refine List.Perm.eq_of_pairwise (le:=fun a b=>leZ a b=true) (fun a b _ _ h1 h2=>Int.le_antisymm (of_decide_eq_true h1) (of_decide_eq_true h2)) (hs.imp fun h=>decide_eq_true h) (List.pairwise_mergeSort (le:=leZ) (fun a b c h1 h2=>decide_eq_true (Int.le_trans (of_decide_eq_true h1) (of_decide_eq_true h2))) (fun a b=>?_) ss) (hp.trans (List.mergeSort_perm ss leZ).symm);unfold leZ;rcases Int.le_total a b with h|h<;>simp [h]
def GX {α:Type}[DecidableEq α](ks:List α)(k:α):List α:=if ks.any (fun y=>decide (y=k)) then ks else ks++[k]
def Ic {α:Type}[DecidableEq α](ks:List α):List α:=ks.foldl GX []
theorem addA_map {α:Type}[DecidableEq α]{f:α->Key}(hf:∀ a b,f a=f b->a=b)(ks:List α)(k:α):FC (ks.map f) (f k)=(GX ks k).map f:=by
 have e:(ks.map f).any (fun y=>decide (y=f k))=ks.any (fun y=>decide (y=k)):=by
  rw [List.any_map]
  congr 1
  funext y
  show decide (f y=f k)=decide (y=k);by_cases h:y=k
  ·rw [h,decide_eq_true rfl,decide_eq_true rfl]
  ·rw [decide_eq_false h,decide_eq_false (fun q=>h (hf _ _ q))]
 unfold FC GX;rw [e];split
 ·rfl
 ·rw [List.map_append];rfl
theorem dedA_map {α:Type}[DecidableEq α]{f:α->Key}(hf:∀ a b,f a=f b->a=b)(ks:List α):GA (ks.map f)=(Ic ks).map f:=by
 have:∀ (ks acc:List α),(ks.map f).foldl FC (acc.map f)=(ks.foldl GX acc).map f:=by
  intro ks
  induction ks with
  | nil=>intro acc;rfl
  | cons k ks ih=>intro acc;rw [quA,qsB,qsB,addA_map hf,ih]
 exact this ks []
theorem inl_inj (a b:Int)(h:(Sum.inl a:Key)=Sum.inl b):a=b:=Sum.inl.inj h
theorem mem_addA {α:Type}[DecidableEq α]{ks:List α}{k x:α}:x∈GX ks k ↔ x∈ks\/x=k:=by
 unfold GX;split
 ·rename_i h;obtain ⟨y,hy,e⟩:=List.any_eq_true.mp h;have e:=of_decide_eq_true e;constructor
  ·exact .inl
  ·rintro (h|rfl)
   ·exact h
   ·exact e ▸ hy
 ·rw [qjA,qnA]
theorem mem_dedA {α:Type}[DecidableEq α]{ks:List α}{x:α}:x∈Ic ks ↔ x∈ks:=by
 have:∀ (ks acc:List α),x∈ks.foldl GX acc ↔ x∈acc\/x∈ks:=by
  intro ks
  induction ks with
  | nil=>intro acc;simp
  | cons k ks ih=>intro acc;rw [qsB,ih,mem_addA,qkA,or_assoc]
 rw [Ic,this];simp
theorem L7 {α:Type}[DecidableEq α](ks:List α):(Ic ks).Nodup:=by
 have:∀ (ks acc:List α),acc.Nodup->(ks.foldl GX acc).Nodup:=by
  intro ks
  induction ks with
  | nil=>intro acc h;exact h
  | cons k ks ih =>
   intro acc h;rw [qsB];refine ih _ ?_;unfold GX;split
   ·exact h
   ·rename_i hn;refine List.nodup_append.mpr ⟨h,by simp,fun a ha b hb e=>hn ?_⟩;rw [qnA] at hb;exact List.any_eq_true.mpr ⟨a,ha,decide_eq_true (e.trans hb)⟩
 exact this ks [] List.nodup_nil
def lcg:Nat->Nat->Nat
 | 0,x=>x
 | n+1,x=>lcg n (5 * x+1)
def IE:Nat->Nat
 | 0=>0
 | n+1=>IE n+5 ^ n
theorem Js:∀ n x,lcg n x=5 ^ n * x+IE n
 | 0,x=>by simp [lcg,IE]
 | n+1,x=>by
  rw [lcg,Js n,IE,Nat.pow_succ]
  grind
theorem Lu:∀ m n x,lcg (m+n) x=lcg n (lcg m x)
 | 0,n,x=>by rw [Nat.zero_add];rfl
 | m+1,n,x=>by
  have e:m+1+n=(m+n)+1:=by omega
  rw [e,lcg,lcg,Lu m n]
theorem KC (m:Nat):∀ n,IE (m+n)=IE m+5 ^ m * IE n
 | 0=>by simp [IE]
 | n+1=>by
  rw [<- Nat.add_assoc,IE,IE,KC m n,Nat.pow_add]
  grind
theorem pow5:∀ k:Nat,(∃ d,5 ^ (2 ^ k)=1+4 * 2 ^ k * d)/\∃ e,IE (2 ^ k)=2 ^ k+2 * 2 ^ k * e
 | 0=>⟨⟨1,rfl⟩,⟨0,rfl⟩⟩
 | k+1=>by
  obtain ⟨⟨d,hd⟩,⟨e,he⟩⟩:=pow5 k;have e2:2 ^ (k+1)=2 ^ k+2 ^ k:=by rw [Nat.pow_succ];omega
  refine ⟨⟨d+2 * 2 ^ k * d * d,?_⟩,⟨e+2 ^ k * d+2 * e * 2 ^ k * d,?_⟩⟩
  ·rw [e2,Nat.pow_add,hd];generalize 2 ^ k=q
   grind
  ·rw [e2,KC,hd,he];generalize 2 ^ k=q
   grind
theorem lcg_turn (k x:Nat):∃ c,lcg (2 ^ k) x=x+2 ^ k+2 * 2 ^ k * c:=by
 obtain ⟨⟨d,hd⟩,⟨e,he⟩⟩:=pow5 k;refine ⟨2 * d * x+e,?_⟩;rw [Js,hd,he];generalize 2 ^ k=q
 grind
theorem JA:∀ k x j:Nat,∃ n,n<2 ^ k/\lcg n x % 2 ^ k=j % 2 ^ k
 | 0,x,j=>⟨0,by simp,by simp [Nat.mod_one]⟩
 | k+1,x,j=>by
  obtain ⟨n,hn,e⟩:=JA k x j;have e2:2 ^ (k+1)=2 ^ k * 2:=Nat.pow_succ 2 k;have hq:0<2 ^ k:=Nat.two_pow_pos k;obtain ⟨c,hc⟩:=lcg_turn k (lcg n x);generalize hy:lcg n x=y at e hc;generalize 2 ^ k=q at e2 hq hn e hc;have hM:∀ z,z % (q * 2)=z % q+q * (z / q % 2):=fun z=>Nat.mod_mul
  have h2:(y+q+2 * q * c) % (q * 2)=(y+q) % (q * 2):=by
   rw [show y+q+2 * q * c=y+q+q * 2 * c by rw [Nat.mul_comm 2 q],Nat.add_mul_mod_self_left]
  have hdiv:(y+q) / q=y / q+1:=Nat.add_div_right y hq;have hmod:(y+q) % q=y % q:=Nat.add_mod_right y q;rw [e2];by_cases hc2:y / q % 2=j / q % 2
  ·exact ⟨n,by omega,by rw [hy,hM,hM,e,hc2]⟩
  ·refine ⟨n+q,by omega,?_⟩;have:∀ u:Nat,lcg (n+q) x=u->u % (q * 2)=j % (q * 2)->lcg (n+q) x % (q * 2)=j % (q * 2):=fun u h1 h3=>by rw [h1];exact h3
   rw [Lu,hy,hc,h2,hM,hM,hmod,hdiv,e];have:(y / q+1) % 2=j / q % 2:=by omega
   rw [this]
def CW (mask:Nat):Nat->Nat × Nat->Nat × Nat
 | 0,p=>p
 | n+1,p=>CW mask n (SetTable.leap mask p.1 p.2)
theorem Il (mask:Nat):∀ m n p,CW mask (m+n) p=CW mask n (CW mask m p)
 | 0,n,p=>by rw [Nat.zero_add];rfl
 | m+1,n,p=>by
  have e:m+1+n=(m+n)+1:=by omega
  rw [e,CW,CW,Il mask m n]
theorem J0 (mask:Nat):∀ n p,(CW mask n p).2=p.2 / 32 ^ n
 | 0,p=>by simp [CW]
 | n+1,p=>by
  rw [CW,J0 mask n];show p.2 / 32 / 32 ^ n=_;rw [Nat.div_div_eq_div_mul,Nat.pow_succ,Nat.mul_comm]
theorem GB {mask:Nat}:∀ n p,p.1<mask+1->(CW mask n p).1<mask+1
 | 0,p,h=>h
 | n+1,p,h=>by
  rw [CW];exact GB n _ (Nat.mod_lt _ (Nat.succ_pos _))
theorem Ir {mask:Nat}:∀ n i,i<mask+1->(CW mask n (i,0)).1=lcg n i % (mask+1)
 | 0,i,h=>(Nat.mod_eq_of_lt h).symm
 | n+1,i,h=>by
  rw [CW,lcg];have e:SetTable.leap mask i 0=((i * 5+1) % (mask+1),0):=by unfold SetTable.leap;simp
  show (CW mask n (SetTable.leap mask i 0)).1=_;rw [e,Ir n _ (Nat.mod_lt _ (Nat.succ_pos _))];rw [Js,Js,Nat.add_mod,Nat.mul_mod,Nat.mod_mod,<- Nat.mul_mod,<- Nat.add_mod,Nat.mul_comm i 5]
theorem Go {mask k:Nat}(hm:mask+1=2 ^ k){i p j:Nat}(hi:i<mask+1)(hp:p<2 ^ 64)(hj:j<mask+1):∃ n,n<mask+15/\(CW mask n (i,p)).1=j:=by
 have h0:(CW mask 13 (i,p)).2=0:=by
  rw [J0];exact Nat.div_eq_of_lt (qqB hp (by decide))
 have h1:=GB (mask:=mask) 13 (i,p) hi;generalize hx:CW mask 13 (i,p)=x at h0 h1;obtain ⟨a,b⟩:=x;dsimp only at h0 h1;subst h0;obtain ⟨n,hn,e⟩:=JA k a j;refine ⟨13+n,by omega,?_⟩;rw [Il,hx,Ir n a h1,hm,e,<- hm];exact Nat.mod_eq_of_lt hj
theorem L6 (mask:Nat)(owner:Array (Option Nat)):∀ n fuel i p,n<fuel->(owner.getD (CW mask n (i,p)).1 (some 0)).isNone=true->∃ j,SetTable.layClean.free mask owner fuel i p=some j/\(owner.getD j (some 0)).isNone=true:=by
 intro n
 induction n with
 | zero =>
  intro fuel i p h e;obtain ⟨fuel,rfl⟩:∃ f,fuel=f+1:=⟨fuel - 1,by omega⟩;unfold SetTable.layClean.free
  cases hf:(List.range (SetTable.runEnd mask i+1 - i)).find? fun k=>(owner.getD (i+k) (some 0)).isNone with
  | some k=>exact ⟨i+k,rfl,by have:=List.find?_some hf;exact this⟩
  | none =>
   have h0:0∈List.range (SetTable.runEnd mask i+1 - i):=by
    rw [qqA];unfold SetTable.runEnd;split<;>omega
   have:=List.find?_eq_none.mp hf 0 h0;rw [Nat.add_zero] at this;exact absurd e this
 | succ n ih =>
  intro fuel i p h e;obtain ⟨fuel,rfl⟩:∃ f,fuel=f+1:=⟨fuel - 1,by omega⟩;unfold SetTable.layClean.free
  cases hf:(List.range (SetTable.runEnd mask i+1 - i)).find? fun k=>(owner.getD (i+k) (some 0)).isNone with
  | some k=>exact ⟨i+k,rfl,by have:=List.find?_some hf;exact this⟩
  | none =>
   dsimp only;rw [CW] at e;exact ih fuel _ _ (by omega) e
theorem Lj (h:Int):SetTable.bits h<2 ^ 64:=by
 unfold SetTable.bits;have h1:=qhB h (show (2 ^ 64:Int)≠0 by decide);have h2:=qiB h (show (0:Int)<2 ^ 64 by decide);omega
structure LaidTo (mask n:Nat)(ow:Array (Option Nat)):Prop where
 size:ow.size=mask+1
 perm:(ow.toList.filterMap id).Perm (List.range n)
theorem fm_set:∀ (l:List (Option Nat)) (j k:Nat) (h:j<l.length),l[j]=none->((l.set j (some k)).filterMap id).Perm (k::l.filterMap id):=by
 intro l
 induction l with
 | nil=>intro j k h;exact absurd h (Nat.not_lt_zero _)
 | cons x l ih =>
  intro j k h e
  cases j with
  | zero =>
   have e:x=none:=e;subst e;exact .rfl
  | succ j =>
   have q:=ih j k (by simpa using h) (by simpa using e);rw [List.set_cons_succ]
   cases x with
   | none=>exact q
   | some y =>
    show (y::(l.set j (some k)).filterMap id).Perm (k::y::l.filterMap id);exact (q.cons y).trans (List.Perm.swap _ _ _)
theorem fm_len:∀ l:List (Option Nat),(l.filterMap id).length<l.length->∃ j,∃ h:j<l.length,l[j]=none:=by
 intro l
 induction l with
 | nil=>intro h;exact absurd h (Nat.not_lt_zero _)
 | cons x l ih =>
  intro h
  cases x with
  | none=>exact ⟨0,Nat.succ_pos _,rfl⟩
  | some y =>
   obtain ⟨j,hj,e⟩:=ih (by
    have h:(y::l.filterMap id).length<(some y::l).length:=h;simp only [qfA] at h
    omega)
   exact ⟨j+1,by simpa using hj,e⟩
theorem lay_go {mask k:Nat}(hm:mask+1=2 ^ k):∀ (hs:List Int) (ow:Array (Option Nat)) (n:Nat),LaidTo mask n ow->n+hs.length<=mask ->
  ∃ ow',(hs.foldl (init:=some (ow,n)) fun acc h=>do
   let (owner,k) <- acc
   let j <- SetTable.layClean.free mask owner (SetTable.turns mask) (SetTable.bits h % (mask+1)) (SetTable.bits h)
   pure (owner.setIfInBounds j (some k),k+1))=some (ow',n+hs.length)/\LaidTo mask (n+hs.length) ow':=by
 intro hs
 induction hs with
 | nil=>intro ow n L _;exact ⟨ow,rfl,L⟩
 | cons h hs ih =>
  intro ow n L hn;rw [qfA] at hn;have hlen:(ow.toList.filterMap id).length=n:=by rw [L.perm.length_eq,qhA]
  obtain ⟨j0,hj0,e0⟩:=fm_len ow.toList (by rw [hlen,qnB,L.size];omega);rw [qnB] at hj0;have e0':ow.getD j0 (some 0)=none:=by simp only [Array.getD,hj0,dite_true];simpa using e0
  obtain ⟨m,hm1,hm2⟩:=Go hm (i:=SetTable.bits h % (mask+1)) (p:=SetTable.bits h) (j:=j0) (Nat.mod_lt _ (Nat.succ_pos _)) (Lj h) (by rw [<- L.size];exact hj0);obtain ⟨j,hf,hj⟩:=L6 mask ow m (SetTable.turns mask) (SetTable.bits h % (mask+1)) (SetTable.bits h) hm1 (by rw [hm2,e0'];rfl)
  have hjl:j<ow.size:=by
   rcases Nat.lt_or_ge j ow.size with q|q
   ·exact q
   ·have:ow.getD j (some 0)=some 0:=by simp [Array.getD,Nat.not_lt.mpr q]
    rw [this] at hj;cases hj
  have hjn:ow.toList[j]'(by simpa using hjl)=none:=by
   have:ow.getD j (some 0)=ow[j]:=by simp [Array.getD,hjl]
   rw [this,Option.isNone_iff_eq_none] at hj
   simpa using hj
  have L':LaidTo mask (n+1) (ow.setIfInBounds j (some n)):=by
   refine ⟨by rw [Array.size_setIfInBounds];exact L.size,?_⟩;rw [Array.toList_setIfInBounds];refine (fm_set _ j n (by simpa using hjl) hjn).trans ((L.perm.cons n).trans ?_);rw [List.range_succ];exact (List.perm_append_singleton n _).symm
  obtain ⟨ow',e1,e2⟩:=ih _ (n+1) L' (by omega);refine ⟨ow',?_,?_⟩
  ·rw [qsB];simp only [Option.bind_eq_bind,Option.bind_some,hf,Option.pure_def] at e1 ⊢;rw [e1,qfA]
   congr 2
   omega
  ·rw [qfA,show n+(hs.length+1)=n+1+hs.length by omega];exact e2
theorem lay_ok {mask k:Nat}(hm:mask+1=2 ^ k)(hs:Array Int)(hn:hs.size<=mask):∃ ow,SetTable.layClean mask hs=some ow/\LaidTo mask hs.size ow:=by
 have L0:LaidTo mask 0 (Array.replicate (mask+1) none):=by
  refine ⟨Array.size_replicate,?_⟩;rw [Array.toList_replicate]
  have:∀ n,(List.replicate n (none:Option Nat)).filterMap id=[]:=fun n=>by
   induction n with
   | zero=>rfl
   | succ n ih=>rw [List.replicate_succ,List.filterMap_cons_none rfl,ih]
  rw [this];exact .rfl
 obtain ⟨ow,e1,e2⟩:=lay_go hm hs.toList _ 0 L0 (by rw [qnB];omega);rw [Nat.zero_add,qnB] at e1 e2;refine ⟨ow,?_,e2⟩;unfold SetTable.layClean;rw [<- Array.foldl_toList];rw [e1]
 rfl
theorem laid_ok {mask k finger moves:Nat}{led plain:Bool}(hm:mask+1=2 ^ k)(hs:Array Int)(hn:hs.size<=mask) :
  ∃ t order,SetTable.laid mask finger moves led plain hs=some (t,order)/\order.toList.Perm (List.range hs.size)/\t.place.size=hs.size:=by
 obtain ⟨ow,e,L⟩:=lay_ok hm hs hn
 have hl:∀ (l:List (Option Nat)) (d:Nat) (f:Nat->Option Nat),(∀ i,i<l.length->f (d+i)=l.getD i none)->(((List.range' d l.length).filterMap fun j=>(f j).map (j,·)).map (·.2))=l.filterMap id:=by
  intro l
  induction l with
  | nil=>intro d f _;rfl
  | cons x l ih =>
   intro d f hf;rw [qfA,List.range'_succ];have h0:=hf 0 (Nat.succ_pos _);rw [Nat.add_zero] at h0;have h0:f d=x:=h0
   have ih':=ih (d+1) f fun i hi=>by
    have:=hf (i+1) (by rw [qfA];omega);rw [show d+1+i=d+(i+1) by omega,this]
    rfl
   cases x with
   | none=>rw [List.filterMap_cons_none (by rw [h0];rfl),ih'];rfl
   | some y=>rw [List.filterMap_cons_some (b:=(d,y)) (by rw [h0];rfl),quA,ih'];rfl
 have e2:(((List.range (mask+1)).filterMap fun j=>(ow.getD j none).map (j,·)).map (·.2))=ow.toList.filterMap id:=by
  have:=hl ow.toList 0 (fun j=>ow.getD j none) fun i hi=>by
   rw [Nat.zero_add];simp [Array.getD,List.getD];split<;>simp_all
  rw [qnB,L.size] at this;rw [<- this,List.range_eq_range']
 refine ⟨_,_,by unfold SetTable.laid;rw [e];rfl,?_,?_⟩
 ·show (((List.range (mask+1)).filterMap fun j=>(ow.getD j none).map (j,·)).map (·.2)).Perm _;rw [e2];exact L.perm
 ·show ((((List.range (mask+1)).filterMap fun j=>(ow.getD j none).map (j,·)).map (·.1)).toArray).size=_;rw [qkB,qdA];have:=congrArg List.length e2;rw [qdA,L.perm.length_eq,qhA] at this;exact this
theorem IZ:∀ fuel (size n:Nat),(∃ k,size=2 ^ k)->0<size->n<size * 2 ^ fuel->(∃ k,SetTable.sizeAbove.go n fuel size=2 ^ k)/\n<SetTable.sizeAbove.go n fuel size:=by
 intro fuel
 induction fuel with
 | zero=>intro size n h _ hn;exact ⟨h,by show n<size;simpa using hn⟩
 | succ fuel ih =>
  intro size n h hp hn;unfold SetTable.sizeAbove.go;split
  ·obtain ⟨k,rfl⟩:=h;exact ih _ _ ⟨k+1,by rw [Nat.pow_succ]⟩ (by omega) (by rw [Nat.pow_succ] at hn;rw [Nat.mul_assoc,Nat.mul_comm 2];exact hn)
  ·rename_i q;exact ⟨h,by omega⟩
theorem L1 {n:Nat}(h:n<2 ^ 60):(∃ k,SetTable.sizeAbove n=2 ^ k)/\n<SetTable.sizeAbove n :=
 IZ 64 8 n ⟨3,rfl⟩ (by decide) (qqB h (by decide))
theorem dedA_len {α:Type}[DecidableEq α](ks:List α):(Ic ks).length<=ks.length:=by
 have:∀ (ks acc:List α),(ks.foldl GX acc).length<=acc.length+ks.length:=by
  intro ks
  induction ks with
  | nil=>intro acc;exact qxA _
  | cons k ks ih =>
   intro acc;have h1:=ih (GX acc k)
   have h2:(GX acc k).length<=acc.length+1:=by
    unfold GX;split
    ·exact Nat.le_succ _
    ·rw [qeA];exact qxA _
   rw [qsB,qfA];omega
 have:=this ks [];rw [List.length_nil] at this;unfold Ic;omega
section
variable {K:FZ9}{σ:St}{G:Hp}{ta tb:TE}{w:World}
theorem MQ (a:List Int):a.map V.int=(a.map (Sum.inl:Int->Key)).map kV:=by rw [List.map_map];rfl
theorem KM {G2:Hp}:∀ zs:List Int,Paired (Rp.rel K G2) (zs.map V.int) zs
 | []=>.nil
 | z::zs=>.cons rfl (KM zs)
theorem Iv (ys:List Int):(Gi ys).length=ys.length:=(List.mergeSort_perm ys leZ).length_eq
end
structure MpS (α:Type) where
 l:List (Str × α)
end L2
namespace HT
open PySem PySem.Spec PyProof.Rows
end HT
namespace L2
open PySem PySem.Spec PyProof.Rows
def sortRO (ys:List Int):Option (List Int):=if ys.length<64 then some (Gi ys).reverse else none
def tSortR (K:FZ9)(ta:TA):TE:=fun σ H Q=>ta σ H fun us H1=>∃ (l:Addr) (ns:List Int),us=[.ref l]/\SqL K H1 l (ns.map V.int)/\ns.length<64/\∀ p,H1 p=none->Q (.ref p) (upd H1 p (.lst ((Gi ns).reverse.map V.int)))
theorem sortR_of {ns ns':List Int}(hp:ns'.Perm ns)(ho:Ordered true ns'):ns'=(Gi ns).reverse:=by
 have h1:ns'.reverse.Pairwise (· <= ·):=List.pairwise_reverse.mpr (by unfold Ordered at ho;simpa using ho);have h2:=sortZ_of (ss:=ns) (ss':=ns'.reverse) ((List.reverse_perm ns').trans hp) h1;rw [<- h2,List.reverse_reverse]
theorem pe_sortR {X:Cx}{K:FZ9}{a:Expr}{ta:TA}{p pos cp kp:Pos}(hK:X.K=K)(hg:Gl X "sorted")(hm:X.mg "sorted" = none)(ha:PA X [a] ta)
  (hs:starEach [a] X.env=[(false,eval a X.env)]:=by rfl) :
  PE X (.Call (.Name "sorted" p) [a] [⟨some "reverse",.Constant (.bool true) 0 cp,kp⟩] pos) (tSortR K ta):=by
 subst hK;intro pins s σ H R I h;refine wpAny_Call_Name_kw (Hr I hg hm J2 ?_);refine PyProof.Rows.callWith_kw (thn (ha pos pins s σ H _ I h) fun us s1 ⟨vs,H1,I1,r1,q1⟩=>?_) (by rw [hs];rfl) (by rw [hs];rfl);refine PyProof.Rows.kwAll_cons (thn (C1 (b:=true) pins s1 σ H1 (fun v H'=>v = .bl true/\H'=H1) I1 ⟨rfl,rfl⟩) fun u s2 ⟨x,H2,I2,r2,e1,e2⟩=>?_);subst e1 e2;cases r2;refine PyProof.Rows.kwAll_nil ?_;obtain ⟨l,ns,e,hq,hl,q⟩:=q1;subst e;obtain ⟨u1,rfl,ru⟩:=DX r1;cases ru;obtain ⟨its,r,pl,_⟩:=I2.list hq;have hlen:=r.length;rw [qdA] at hlen;refine sorted_ints_rev (b:=true) pl.isList (Ks r) (by omega) fun out ns' a1 a2 a3=>?_;have e:=sortR_of a2 a3;subst e;obtain ⟨c,hc⟩:=sortedAll_at s2.heap its out;refine ⟨.ref (s2.heap.objs.size+1),_,I2.laid (t':=s2.toks) (o:=.lst ((Gi ns).reverse.map V.int)) (fun b o e=>sortedAll_old e) (Nat.le_succ _) ⟨?_,out.toList,c,GY a1,by simpa using hc⟩,rfl,q _ (I2.hok.fresh (Nat.le_succ _))⟩;rw [qdA,List.length_reverse,Iv,qeB];omega
section
variable {K:FZ9}{σ:St}{G H:Hp}{ta tb te:TE}{rest:TS}{D:Ends}{i:Nat}{v:V}{p:Addr}{vs:List V}{β:Type}[Rp β]
theorem fv_sortR {la:Option (List Int)}(ea:EV K ta σ G la):FV K (tSortR K (Ab ta BZ)) σ G (la.bind fun ys=>sortRO ys):=by
 clear 7;obtain ⟨a,ha,hc⟩:=qaA.mp hc;obtain ⟨hl,rfl⟩:=Ao hc;clear 8 ea a ha;obtain ⟨l,xs,rfl,h,z,p⟩:=r2;have e:=EI p;subst e;refine ⟨l,a,rfl,.inl (x2.gh.rd h),hl,FN x2.gh ?_ (KM _) (FV.mono x2 k)⟩;rw [qdA,List.length_reverse,Iv,qeB];omega
end
def memE {α:Type}[DecidableEq α](a:α)(l:List α):Bool:=decide (a∈l)
section
variable {K:FZ9}{σ:St}{G:Hp}{α:Type}[Rp α][DecidableEq α]{ta tb:TE}{ma:Option α}{ml:Option (List α)}
theorem Ku (ea:EV K ta σ G ma)(eb:EV K tb σ G ml):EV K (tOp (rInE K α true) ta tb) σ G (ma.bind fun a=>ml.bind fun l=>some (!memE a l)):=M6 ea eb
end
theorem vals4' {x y z w:V}{us:List Value}(h:Vals [x,y,z,w] us):∃ a b c d,us=[a,b,c,d]/\RelV x a/\RelV y b/\RelV z c/\RelV w d:=by
 cases h with
 | cons r t =>
  obtain ⟨a,b,c,rfl,h1,h2,h3⟩:=vals3' t;exact ⟨_,_,_,_,rfl,r,h1,h2,h3⟩
def isT4 (K:FZ9){α β γ δ:Type}(R:Hp->V->α->Prop)(S:Hp->V->β->Prop)(T:Hp->V->γ->Prop)(U:Hp->V->δ->Prop):Hp->V->T4 α β γ δ->Prop:=fun H x p=>∃ t a b c d,x = .ref t/\SqT K H t [a,b,c,d]/\R H a p.a/\S H b p.b/\T H c p.c/\U H d p.d
theorem eqT4 {K:FZ9}{k:Nat}{α β γ δ:Type}[DecidableEq α][DecidableEq β][DecidableEq γ][DecidableEq δ]{R:Hp->V->α->Prop}{S:Hp->V->β->Prop}{T:Hp->V->γ->Prop}{U:Hp->V->δ->Prop}(E:EqTy K k R)(G:EqTy K k S)(F:EqTy K k T)(D:EqTy K k U):EqTy K (k+1) (isT4 K R S T U):=by
 have fn:∀ {X:Cx}{pins:List (Addr × Obj)}{σ:St}{H:Hp}{s:Shared}{x:V}{a b:T4 α β γ δ},X.K=K->Inv X pins σ H s->isT4 K R S T U H x a->isT4 K R S T U H x b->a=b:=by
  intro X pins σ H s x a b hK I ha hb;obtain ⟨l,x1,x2,x3,x4,rfl,h1,p1,p2,p3,p4⟩:=ha;obtain ⟨l',y1,y2,y3,y4,e,h2,q1,q2,q3,q4⟩:=hb;cases e;subst hK;have:=I.tuple_inj h1 h2;cases this;obtain ⟨a1,a2,a3,a4⟩:=a;obtain ⟨b1,b2,b3,b4⟩:=b;have e1:a1=b1:=E.fn rfl I p1 q1;have e2:a2=b2:=G.fn rfl I p2 q2;have e3:a3=b3:=F.fn rfl I p3 q3;have e4:a4=b4:=D.fn rfl I p4 q4;rw [e1,e2,e3,e4]
 have rc:∀ {X:Cx}{pins:List (Addr × Obj)}{σ:St}{H:Hp}{s:Shared}{x y:V}{u v:Value}{a b:T4 α β γ δ}(A:Around),X.K=K->Inv X pins σ H s->A.units+(k+1)<cLine->RelV x u->RelV y v->isT4 K R S T U H x a->isT4 K R S T U H y b ->
   SeqAt.RcAt A s u v (decide (a=b))/\SeqAt.RcNeAt A s u v (!decide (a=b)):=by
  intro X pins σ H s x y u v a b A hK I hu r1 r2 ha hb;obtain ⟨l,x1,x2,x3,x4,rfl,h1,p1,p2,p3,p4⟩:=ha;obtain ⟨l',y1,y2,y3,y4,rfl,h2,q1,q2,q3,q4⟩:=hb;cases r1;cases r2;subst hK;obtain ⟨us,rx,plx,_⟩:=I.tuple h1;obtain ⟨vs,ry,ply,_⟩:=I.tuple h2;obtain ⟨u1,u2,u3,u4,rfl,ru1,ru2,ru3,ru4⟩:=vals4' rx;obtain ⟨v1,v2,v3,v4,rfl,rv1,rv2,rv3,rv4⟩:=vals4' ry;have e1:=E.eq A.in1 rfl I (show A.units+1+k<cLine by omega) ru1 rv1 p1 q1;have e2:=G.eq A.in1 rfl I (show A.units+1+k<cLine by omega) ru2 rv2 p2 q2;have e3:=F.eq A.in1 rfl I (show A.units+1+k<cLine by omega) ru3 rv3 p3 q3;have e4:=D.eq A.in1 rfl I (show A.units+1+k<cLine by omega) ru4 rv4 p4 q4
  have it:∀ j (h1:j < [u1,u2,u3,u4].toArray.size) (h2:j < [v1,v2,v3,v4].toArray.size),SeqAt.EqAt A.in1 s [u1,u2,u3,u4].toArray[j] [v1,v2,v3,v4].toArray[j] ((fun j=>if j=0 then decide (a.a=b.a) else if j=1 then decide (a.b=b.b) else if j=2 then decide (a.c=b.c) else decide (a.d=b.d)) j):=by
   intro j h1 h2
   match j,h1 with
   | 0,_=>exact e1
   | 1,_=>exact e2
   | 2,_=>exact e3
   | 3,_=>exact e4
   | j+4,h=>exact absurd h (by simp)
  have ed:((List.range (min [u1,u2,u3,u4].toArray.size [v1,v2,v3,v4].toArray.size)).all (fun j=>if j=0 then decide (a.a=b.a) else if j=1 then decide (a.b=b.b) else if j=2 then decide (a.c=b.c) else decide (a.d=b.d)) && [u1,u2,u3,u4].toArray.size == [v1,v2,v3,v4].toArray.size)=decide (a=b):=by
   apply Bool.eq_iff_iff.mpr;rw [decide_eq_true_iff];constructor
   ·intro h;have h:(decide (a.a=b.a) && (decide (a.b=b.b) && (decide (a.c=b.c) && (decide (a.d=b.d) && true))) && true)=true:=h;simp only [Bool.and_true,quB,decide_eq_true_iff] at h;obtain ⟨a1,a2,a3,a4⟩:=a;obtain ⟨b1,b2,b3,b4⟩:=b;obtain ⟨h1,h2,h3,h4⟩:=h;dsimp only at h1 h2 h3 h4;rw [h1,h2,h3,h4]
   ·rintro rfl;show (decide (a.a=a.a) && (decide (a.b=a.b) && (decide (a.c=a.c) && (decide (a.d=a.d) && true))) && true)=true;simp
  rw [<- ed];exact ⟨SeqAt.RcAt.tuples plx ply (by omega) it,SeqAt.RcNeAt.tuples plx ply (by omega) it⟩
 refine ⟨fn,?_,rc⟩;intro X pins σ H s x y u v a b A hK I hu r1 r2 ha hb;have h:=(rc A hK I hu r1 r2 ha hb).1;obtain ⟨l,x1,x2,x3,x4,rfl,h1,p1,p2,p3,p4⟩:=id ha;obtain ⟨l',y1,y2,y3,y4,rfl,h2,q1,q2,q3,q4⟩:=id hb;cases r1;cases r2;by_cases e:l=l'
 ·subst e;have:a=b:=fn hK I ha hb;rw [decide_eq_true this];exact SeqAt.EqAt.same _
 ·exact SeqAt.EqAt.of_refs e h
instance reT4 {α β γ δ:Type}[Rp α][DecidableEq α][RpE α][Rp β][DecidableEq β][RpE β][Rp γ][DecidableEq γ][RpE γ][Rp δ][DecidableEq δ][RpE δ]:RpE (T4 α β γ δ) :=
 ⟨max (max (RpE.k α) (RpE.k β)) (max (RpE.k γ) (RpE.k δ))+1,fun K=>eqT4 ((RpE.ty (α:=α) K).up (qyA (Nat.le_max_left _ _) (Nat.le_max_left _ _))) ((RpE.ty (α:=β) K).up (qyA (Nat.le_max_right _ _) (Nat.le_max_left _ _))) ((RpE.ty (α:=γ) K).up (qyA (Nat.le_max_left _ _) (Nat.le_max_right _ _))) ((RpE.ty (α:=δ) K).up (qyA (Nat.le_max_right _ _) (Nat.le_max_right _ _)))⟩
structure Rk where
 l:List SI
def JU:D->Option (Tp D)
 | .tup l=>some ⟨l⟩
 | _=>none
section
variable {K:FZ9}{σ:St}{G:Hp}{te ta:TE}
theorem Io {md:Option D}(e:EV K te σ G md):EV K te σ G (md.bind fun d=>JU d):=by
 clear 7;obtain ⟨d,hd,hc⟩:=qaA.mp hc;refine e G1 s1 d hd H sH Q fun v G2 H2 x r=>?_
 cases d with
 | tup l =>
  cases hc
  cases r with
  | tup h z r=>exact k _ _ _ x ⟨_,_,rfl,h,z,DO r⟩
 | _=>cases hc
end
section
variable {κ:PyProof.Rows.KeyKind}
def ky (κ:PyProof.Rows.KeyKind)(p:Keyed):κ.α:=(κ.keyOf p.1).getD κ.dflt
variable {prog:Program}{w:World}{A:Around}{E:Value->Shared->Prop}{s:Shared}
end
section
variable {κ:PyProof.Rows.KeyKind}
def kl (κ:PyProof.Rows.KeyKind)(x y:Keyed):Prop:=κ.kle (ky κ x) (ky κ y)
end
def sg (st:SortSt)(g:Nat):SortSt:=SortSt.mk' (kindOf st) (arrOf st) (pendingOf st) g (failedOf st)
end L2
set_option maxHeartbeats 2000000
namespace L2
open PySem PySem.Spec PyProof.Rows
end L2
set_option maxHeartbeats 2000000
namespace L2
open PySem PySem.Spec PyProof.Rows
end L2
set_option maxHeartbeats 2000000
namespace L2
open PySem PySem.Spec PyProof.Rows
end L2
set_option maxHeartbeats 2000000
namespace L2
open PySem PySem.Spec PyProof.Rows
end L2
set_option maxHeartbeats 2000000
namespace L2
open PySem PySem.Spec PyProof.Rows
end L2
set_option maxHeartbeats 2000000
namespace L2
open PySem PySem.Spec PyProof.Rows
end L2
set_option maxHeartbeats 2000000
namespace L2
open PySem PySem.Spec PyProof.Rows
end L2
set_option maxHeartbeats 2000000
namespace L2
open PySem PySem.Spec PyProof.Rows
section
variable {κ:PyProof.Rows.KeyKind}{prog:Program}{w:World}{A:Around}{E:Value->Shared->Prop}{s:Shared}
abbrev mk (X:Array Keyed)(p:Array (Nat × Nat × Nat))(g:Nat):SortSt:=SortSt.mk' oneType' X p g none
end
end L2
set_option maxHeartbeats 2000000
namespace L2
open PySem PySem.Spec PyProof.Rows
end L2
set_option maxHeartbeats 2000000
namespace L2
open PySem PySem.Spec PyProof.Rows
structure MpR (α:Type) where
 l:List (Rk × α)
class RpC (γ:Type) [Rp γ] where
 P:FZ9->Hp->HO->γ->Prop
 mono:∀ {K:FZ9}{G G':Hp}{ho:HO}{a:γ},Same G G'->P K G ho a->P K G' ho a
 rel:∀ {K:FZ9}{G:Hp}{ho:HO}{a:γ}{q:Addr},P K G ho a->G q=some ho->Rp.rel K G (.ref q) a
def La (w:World):List V->Hp->VK->Prop:=fun vs H Q=>∃ (l:Addr) (ks:List Key),vs=[.ref l]/\H l=some (SetO w l ks)/\ks.length<4000/\Q (.int ks.length) H
theorem K7 {X:Cx}{w:World}(hw:X.w=w):CI X (.builtin "len") (La w):=by
 subst hw;intro pins s σ H vs us Q I r h;obtain ⟨l,ks,rfl,hl,hz,q⟩:=h;obtain ⟨u,rfl,ru⟩:=DX r;cases ru;obtain ⟨ks',⟨o,es,ep,t,g,S⟩,pm⟩:=setO_get I.hok hl;have e:es.size=ks.length:=S.size.trans pm.length_eq;refine call_len_set g S.exact' S.data S.fit (by omega) ⟨.int ks.length,H,I.tok _,⟨s.toks+1,by rw [e]⟩,q⟩
def Le (ys:List Int):Option Int:=if ys.length<4000 then some ((Ic ys).length:Int) else none
section
variable {K:FZ9}{σ:St}{G:Hp}{ta:TE}{w:World}
theorem M5 {la:Option (List Int)}(ea:EV K ta σ G la):EV K (tCB (La w) (Ab (tCB (rSetK w K) (Ab ta BZ)) BZ)) σ G (la.bind fun ys=>Le ys):=by
 clear 7;obtain ⟨a,ha,hc⟩:=qaA.mp hc;obtain ⟨h4,rfl⟩:=Ao hc;have hl:=dedA_len a;clear 8 ea a ha;obtain ⟨l,xs,rfl,h,z,p⟩:=r2;have e:=EI p;subst e;refine ⟨l,a.map Sum.inl,rfl,?_,by rw [qdA];exact h4,fun q hq=>?_⟩
 ·rw [<- MQ];exact .inl (x2.gh.rd h)
 ·rw [dedA_map inl_inj];refine ⟨q,(Ic a).map Sum.inl,rfl,AI,by rw [qdA];omega,?_⟩;have x3:Ext G2 H2 G2 (upd H2 q (SetO w q ((Ic a).map Sum.inl))):=.own x2.gh hq;rw [qdA];exact k _ _ _ (x2.trans x3) rfl
end
section
variable {K:FZ9}{σ:St}{G H G1 H1 G0 H0:Hp}{α β γ δ:Type}[Rp α][Rp β][Rp γ][Rp δ]{ta tb tc td te:TE}{rest:TS}{D:Ends}{i:Nat}{a:T4 α β (List γ) δ}{v:V}{p q:Addr}{vs:List V}
theorem LQ {la:Option (T4 α β γ δ)}(ea:EV K ta σ G la):EV K (tCB (JV K) (Ab ta BZ)) σ G (la.bind fun _=>some (4:Int)):=by
 clear 7;obtain ⟨a,ha,hc⟩:=qaA.mp hc;cases hc;clear 8 ea a ha;obtain ⟨t,x,y,z,u,rfl,h,_⟩:=r2;exact ⟨_,.inr (x2.gh.tup h),k _ _ _ x2 rfl⟩
end
def IC:D->Option Int
 | .int i=>some i
 | _=>none
section
variable {K:FZ9}{σ:St}{G H:Hp}{α β γ δ:Type}[Rp α][Rp β][Rp γ][Rp δ]{ta te:TE}
theorem MU {md:Option D}(e:EV K te σ G md):EV K te σ G (md.bind fun d=>IC d):=by
 clear 7;obtain ⟨d,hd,hc⟩:=qaA.mp hc;refine e G1 s1 d hd H sH Q fun v G2 H2 x r=>k v G2 H2 x ?_
 cases d with
 | int i =>
  have e:=qaB (show some i=some c from hc);subst e;cases (show RelD K G2 v (.int i) from r);exact rfl
 | _=>exact nomatch hc
end
structure MpRF (α:Type) where
 l:List (Rk × α)
structure DIn (K:FZ9)(mg:Str->Option Value)(x:Str)(st:Stmt):Prop where
 ex:∃ f fd,mg x=some (.ref f)/\Fun K x x st f fd
def BnO (x:Str)(st:Stmt)(ps:List Str):Prop:=∀ (kV doc pm:Value) (an:Option Addr) (cdv ct:Value) (us:List Value),us.length=ps.length->bindArgs (qmB x x (De st) (CN st) (AE st) .none kV doc pm an cdv ct) ⟨us,[]⟩=pure (ps.zip us)
abbrev Nn (K:FZ9)(x:Str):Prop:=PySem.W.nsIn K mainGlobals x=some none
theorem scm {N ps:List Str}{sc:Scope}(a:sc.kind = .function:=by rfl)(b:sc.isCoroutine=false:=by rfl)(c:sc.isGenerator=false:=by rfl)(d:N.Nodup:=by decide +kernel)(e:N.take ps.length=ps:=by rfl)(f:∀ x∈ps,sc.names.lookup x=some .local \/ sc.names.lookup x=some .cell:=by decide +kernel)(g:∀ y∈sc.names,y.2 ≠ .free:=by decide +kernel):FnScope N ps sc:=⟨a,b,c,d,e,f,g⟩
theorem din {K:FZ9}{h:Heap}{mg:Str->Option Value}{x:Str}{st:Stmt}{f:Addr}{oc:Value}{od an:Option Addr}{osl:Array (Option Value)}{kV doc pm cdv ct:Value}(X:K.In h)(G:h.Ns mainGlobals mg)(a:PySem.W.nsIn K mainGlobals x=some (some (.ref f)))
  (l:K.lookup f=some ⟨oc,od,.func (qmB x x (De st) (CN st) (AE st) .none kV doc pm an cdv ct),osl⟩) (c:PySem.W.codeIn K cdv x=true) (k:PySem.W.keepIn K (.ref f)=true):DIn K mg x st:=⟨f,_,PySem.W.mg_of X G a,fun_mk l c k⟩
section
variable {P:Program}{w:World}{K:FZ9}{mg:Str->Option Value}{base:Heap}{x:Str}{st:Stmt}{N ps:List Str}{k:Nat}{sp:Sp}{ρ:Type}[Rp ρ]
theorem DIn.ok (Z:DIn K mg x st)(S:FnScope N ps (AE st))(b:BnO x st ps)(len:∀ vs H Q E,sp vs H Q E->vs.length=ps.length)
  (hbody:∀ (f:Addr) (cdv:Value) (A:Around) (outer:List Env) (s:Shared) (H:Hp) (vs:List V) (Q:VK) (E:XK),Room k (A.deeper (envOfC x (AE st) s.heap.objs.size f cdv))->sp vs H Q E ->
   ∃ t,PSs (JK CX0 P w K mg base N x (AE st) f cdv A outer s H E).nox (CN st) t/\t { nx:=fun _ H'=>Q .non H',rt:=Q } (start N vs) H):DefOk P w K mg base x (k+1) ps sp:=by
 obtain ⟨f,fd,a,F⟩:=Z.ex;exact def_of F a (F.binds b) (F.ok S len fun cdv A outer s H vs Q E hr h=>hbody f cdv A outer s H vs Q E hr h)
theorem bn1 {p0:Str}(h:∀ (kV doc pm:Value) (an:Option Addr) (cdv ct:Value) (a0:Value),bindArgs (qmB x x (De st) (CN st) (AE st) .none kV doc pm an cdv ct) ⟨[a0],[]⟩=pure (List.zip [p0] [a0]):=by intros;rfl):BnO x st [p0]:=fun kV doc pm an cdv ct us hl=>match us,hl with | [a0],_=>h kV doc pm an cdv ct a0
theorem DIn.okM1 {α0:Type}[Rp α0]{p0:Str}{m:α0->Option ρ}(Z:DIn K mg x st)(S:FnScope N [p0] (AE st))
  (hbody:∀ (f:Addr) (cdv:Value) (A:Around) (outer:List Env) (s:Shared) (H:Hp) (Q:VK) (E:XK),Room k (A.deeper (envOfC x (AE st) s.heap.objs.size f cdv))->∀ G a0 res v0,Ext G H G H->Rp.rel K G v0 a0->m a0=some res->(∀ v G2 H2,Ext G H G2 H2->Rp.rel K G2 v res->Q v H2) ->
   ∃ t,PSs (JK CX0 P w K mg base N x (AE st) f cdv A outer s H E).nox (CN st) t/\t { nx:=fun _ H'=>Q .non H',rt:=Q } (start N [v0]) H)
  (b:BnO x st [p0]:=by exact bn1):DefOk P w K mg base x (k+1) [p0] (spM K fun x:α0 × Unit=>m x.1) :=
 Z.ok S b (fun vs H Q E h=>(JL h).trans rfl) fun f cdv A outer s H vs Q E hr h=>by
  obtain ⟨G,⟨a0,⟨⟩⟩,res,sg,⟨v0,_,rfl,r0,rfl⟩,hm,q⟩:=h;exact hbody f cdv A outer s H Q E hr G a0 res v0 (Ext.refl sg) r0 hm q
theorem bn2 {p0 p1:Str}(h:∀ (kV doc pm:Value) (an:Option Addr) (cdv ct:Value) (a0 a1:Value),bindArgs (qmB x x (De st) (CN st) (AE st) .none kV doc pm an cdv ct) ⟨[a0,a1],[]⟩=pure (List.zip [p0,p1] [a0,a1]):=by intros;rfl):BnO x st [p0,p1]:=fun kV doc pm an cdv ct us hl=>match us,hl with | [a0,a1],_=>h kV doc pm an cdv ct a0 a1
theorem DIn.okM2 {α0 α1:Type}[Rp α0][Rp α1]{p0 p1:Str}{m:α0->α1->Option ρ}(Z:DIn K mg x st)(S:FnScope N [p0,p1] (AE st))
  (hbody:∀ (f:Addr) (cdv:Value) (A:Around) (outer:List Env) (s:Shared) (H:Hp) (Q:VK) (E:XK),Room k (A.deeper (envOfC x (AE st) s.heap.objs.size f cdv))->∀ G a0 a1 res v0 v1,Ext G H G H->Rp.rel K G v0 a0->Rp.rel K G v1 a1->m a0 a1=some res->(∀ v G2 H2,Ext G H G2 H2->Rp.rel K G2 v res->Q v H2) ->
   ∃ t,PSs (JK CX0 P w K mg base N x (AE st) f cdv A outer s H E).nox (CN st) t/\t { nx:=fun _ H'=>Q .non H',rt:=Q } (start N [v0,v1]) H)
  (b:BnO x st [p0,p1]:=by exact bn2):DefOk P w K mg base x (k+1) [p0,p1] (spM K fun x:α0 × α1 × Unit=>m x.1 x.2.1) :=
 Z.ok S b (fun vs H Q E h=>(JL h).trans rfl) fun f cdv A outer s H vs Q E hr h=>by
  obtain ⟨G,⟨a0,a1,⟨⟩⟩,res,sg,⟨v0,_,rfl,r0,⟨v1,_,rfl,r1,rfl⟩⟩,hm,q⟩:=h;exact hbody f cdv A outer s H Q E hr G a0 a1 res v0 v1 (Ext.refl sg) r0 r1 hm q
end
section
variable {X:Cx}{K:FZ9}{N ps:List Str}{sc:Scope}{i:Nat}{x:Str}{e a b:Expr}{te ta tb:TE}{pos pos':Pos}{σ:St}{G:Hp}{α:Type}[Rp α]{v:V}{c:α}
theorem Ac (S:FnScope N ps sc)(he:PE X e te)(hN:X.N=N:=by rfl)(hi:X.N[i]? = some x:=by rfl)(hx:Loc X.env.scope x:=by first|exact Or.inl rfl|exact Or.inr rfl)(hs:swapsWith e (some (.Name x pos')) pos.line X.env=pure false:=by rfl)(hf:X.fn x=true\/X.env.scope.names.lookup x=some .local := by first|exact .inl rfl|exact .inr rfl|assumption) :
  PS X (.Assign [.Name x pos'] e pos) (LN te (Es i)):=ps_set (hN ▸ S.nd) hi hx he hs hf
theorem Bq (S:FnScope N ps sc)(hN:X.N=N:=by rfl)(hi:X.N[i]? = some x:=by rfl)(hx:Loc X.env.scope x:=by first|exact Or.inl rfl|exact Or.inr rfl)(hf:X.fn x=true\/X.env.scope.names.lookup x=some .local := by first|exact .inl rfl|exact .inr rfl|assumption):PG X (.Name x pos) (Es i):=pg_name (hN ▸ S.nd) hi hx hf
theorem AF (K:FZ9)(ha:PE X a ta)(hb:PE X b tb)(hs:Lw b:=by exact fun _ _=>rfl)(h:X.K=K:=by rfl):PE X (.Subscript a b pos) (tOp (rAt K) ta tb):=pe_ix (ix_anyK h) ha hb hs
theorem Ad (K:FZ9)(ha:PE X a ta)(hb:PE X b tb)(h:X.K=K:=by rfl):PE X (.BinOp a .Add b pos) (tOp (Ix K) ta tb):=An (op_plusK h) ha hb
theorem Aj (K:FZ9)(hm:X.mg "len" = none)(ha:PE X e te)(hg:Gl X "len" := by rfl)(h:X.K=K:=by rfl)(he:starEach [e] X.env=(false,eval e X.env)::starEach [] X.env:=by rfl):PE X (.Call (.Name "len" pos') [e] [] pos) (tCB (JV K) (Ab te BZ)):=AS (Me h) hg hm Kv (A2 ha A6 he) (by decide) (by decide) he rfl
theorem AL (K:FZ9)(ha:PE X a ta)(he:∀ whole,isTrue a X.env whole=(do let v <- whole;standAt a.pos;holding [v] (truthy v)):=by exact fun _=>rfl)(h:X.K=K:=by rfl):PT X a (fun σ H Q=>ta σ H fun x H'=>∃ k,TruV K x H' k/\Q k H'):=Ml h ha he
theorem BC (K:FZ9)(ha:PE X a ta)(hb:PE X e te)(h:X.K=K:=by rfl)(hbase:attributeBase a "append" X.env (eval a X.env)=eval a X.env:=by rfl)
  (hfew:((backTo pos (starEach [e] X.env)).all (fun x=>!x.1) && (backToKw pos (keywordEach [] X.env)).all (fun x=>x.1.isSome) && decide ([e].length+([]:List Keyword).length+(if ([]:List Keyword).isEmpty then 0 else 1)<30))=true:=by rfl)
  (hline:(pos'.endLine == pos.line)=true:=by rfl) (hs:starEach [e] X.env=(false,eval e X.env)::starEach [] X.env:=by rfl) (hplain:(backTo pos (starEach [] X.env)).any (·.1)=false:=by rfl) :
  PE X (.Call (.Attribute a "append" pos') [e] [] pos) (tBM K "list" Dh ta (Ab te BZ)):=Dq h PySem.F.plainAttrs_list PySem.F.slot_list_append PySem.F.type_list_append Iw ha (A2 hb A6 hs) hbase hfew hline hs hplain
theorem KF (S:FnScope N ps sc):N.Nodup:=S.nd
theorem A8 (r:Rp.rel K G v c)(h:σ[i]? = some (some v):=by rfl):EV K (GJ i) σ G (some c):=ev_var h r
end
def FJ (a b:Int):Int:=reduceHash (Builtin.Tuple.tupleHashOf [hashInt a,hashInt b])
def Ih (b:SetTable × Array Int)(h:Int):Option (SetTable × Array Int) :=
 if b.2.size<1000/\b.1.gaveWay=false then
  match b.1.probe (fun i=>(b.2[i]?).getD 0) h (b.1.probeStart h) with
  | some (.empty j none) =>
   let t1:=(b.1.put j).1
   let h1:=SetTable.insertAt b.2 (b.1.put j).2 h
   if t1.fits h1.size=true/\h1.size=b.2.size+1 then
    if t1.tooFull=true then
     match t1.relaid h1 (SetTable.grown (b.2.size+1)) with
     | some (t2,od) =>
      let h2:=od.filterMap (h1[·]?)
      if h2.size=h1.size/\t2.fits h2.size=true/\SetTable.sizeAbove (SetTable.grown (b.2.size+1))<=100000 then some (t2,h2) else none
     | none=>none
    else some (t1,h1)
   else none
  | _=>none
 else none
def SetQ (h:Heap)(a:Addr)(b:SetTable × Array Int):Prop :=
 ∃ o es ep,h.get? a=some o/\o.ExactSet/\o.data = .set es ep b.1/\es.map (·.1)=b.2/\b.1.fits es.size=true
theorem SetQ.at {h h':Heap}{a:Addr}{b:SetTable × Array Int}(x:SetQ h a b)(k:∀ o,h.get? a=some o->h'.get? a=some o):SetQ h' a b:=by
 obtain ⟨o,es,ep,g,S⟩:=x;exact ⟨o,es,ep,k _ g,S⟩
theorem SetQ.size {h:Heap}{a:Addr}{b:SetTable × Array Int}(x:SetQ h a b):∃ o es ep,h.get? a=some o/\o.ExactSet/\o.data = .set es ep b.1/\b.1.fits es.size=true/\es.size=b.2.size:=by
 obtain ⟨o,es,ep,g,e,d,m,f⟩:=x;exact ⟨o,es,ep,g,e,d,f,by rw [<- m,Array.size_map]⟩
theorem JT {α β:Type}(f:α->β)(xs:Array α)(p:Nat)(x:α):(SetTable.insertAt xs p x).map f=SetTable.insertAt (xs.map f) p (f x):=by
 unfold SetTable.insertAt;simp [Array.map_append,Array.map_push,Array.map_extract]
theorem FH {α β:Type}(f:α->β)(es:Array α)(od:Array Nat):(od.filterMap (es[·]?)).map f=od.filterMap ((es.map f)[·]?):=by
 rw [Array.map_filterMap]
 congr 1
 funext i
 simp
section
variable {prog:Program}{w:World}{A:Around}{E:Value->Shared->Prop}{s:Shared}
def IsP (h:Heap)(a:Addr)(x y:Int):Prop:=∃ o n t u,h.get? a=some o/\o.cls = .type "tuple" /\ o.data = .seq #[.int x t,.int y u] n
theorem IsP.key {h:Heap}{a:Addr}{x y:Int}(k:IsP h a x y):IsTupleKey (CK prog w) h [.inl x,.inl y] a:=by
 obtain ⟨o,n,t,u,g,c,d⟩:=k;exact ⟨o,_,n,g,c,d,.cons (GU x t) (.cons (GU y u) .nil)⟩
theorem hbv {a:Addr}{x y:Int}{Q:Bool->Shared->Prop}(k:IsP s.heap a x y)(h:Q true s):wpAny (model prog w) A (hashByValue 8 (.ref a)) Q E s:=by
 have hT:=(k.key (prog:=prog) (w:=w)).typeIs;obtain ⟨o,n,t,u,g,c,d⟩:=k;unfold hashByValue;refine qbA (wpAny_specialOf hT F.slot_tuple_hash.lookup ?_);dsimp only;refine qbA (wpAny_seqItems g d ?_);refine qbA ?_;rw [<- Array.forIn_toList];show wpAny _ _ (forIn [Value.int x t,Value.int y u] _ _) _ _ _;simp only [List.forIn_cons,List.forIn_nil,hashByValue,pure_bind,Bool.not_true,Bool.false_eq_true,if_false];exact qcA (qcA h)
theorem addQ {a c:Addr}{x y:Int}{b b':SetTable × Array Int}{hh:Int}{Q:Bool->Shared->Prop}(k:IsP s.heap c x y)(S:SetQ s.heap a b)(e:Ih b hh=some b')
  (h:∀ h',Heap.SameBut a s.heap h'->SetQ h' a b'->∀ bb,Q bb { s with heap:=h' }):wpAny (model prog w) A (setAddHashed a (.ref c) hh) Q E s:=by
 obtain ⟨t,hs⟩:=b;obtain ⟨o,es,ep,g,ex,d,m,f⟩:=S;dsimp only at d m f;subst m;unfold Ih at e;dsimp only at e;split at e
 case isFalse=>cases e
 rename_i hc;obtain ⟨hz,hg⟩:=hc;rw [Array.size_map] at hz;split at e
 case h_2=>cases e
 rename_i j hp
 have hp':t.probe (fun i=>((es[i]?).map (·.1)).getD 0) hh (t.probeStart hh)=some (.empty j none):=by
  rw [<- hp]
  congr 1
  funext i
  rw [Array.getElem?_map]
 unfold setAddHashed setAddHashedIn;refine wpAny_holding (qbA (wpAny_setState_of g d f ?_));dsimp only;rw [show byScan (.ref c) es=false from rfl];simp only [Bool.false_eq_true,if_false];unfold setSearch setSearchFrom;refine qbA (qbA (wpAny_setState_of g d f ?_));dsimp only;rw [hg];simp only [Bool.false_eq_true,if_false];generalize hr:SetTable.probe t _ _ _=r;have er:r=some (.empty j none):=hr.symm.trans hp';subst er;dsimp only;refine qcA ?_;dsimp only;refine qbA (wpAny_setState_of g d f ?_);dsimp only;rw [<- JT (·.1) es (t.put j).2 (hh,Value.ref c)] at e;generalize hes:SetTable.insertAt es (t.put j).2 (hh,Value.ref c)=es1 at e ⊢;split at e
 case isFalse=>cases e
 rename_i hf;obtain ⟨hf1,hf2⟩:=hf;rw [Array.size_map] at hf1 hf2;rw [Array.size_map] at hf2;have hpl:(t.put j).1.plain=t.plain:=rfl;have few:es1.size<=sizeLine:=by rw [qeB];omega
 have go:wpAny (model prog w) A (do
   storeSet a es1 (t.put j).1
   if (!false && (t.put j).1.tooFull)=true then do
     setRelay a (SetTable.grown (es.size+1))
     pure true
    else pure true) Q E s:=by
  refine qbA (wpAny_storeSet_of g d ?_ few);have g1:=F0 (es':=es1) (t':=(t.put j).1) g d;have b1:=Heap.SameBut.update s.heap a (Obj.putSet es1 (t.put j).1);split at e
  ·rename_i tf;rw [if_pos (by rw [tf];rfl)];rw [Array.size_map] at e;split at e
   case h_2=>cases e
   rename_i t2 od hrl;split at e
   case isFalse=>cases e
   rename_i h3;cases e;rw [<- FH,Array.size_map,Array.size_map] at h3;obtain ⟨z1,z2,z3⟩:=h3;unfold setRelay;refine qbA (qbA (wpAny_setState_of g1 rfl hf1 ?_));dsimp only;rw [if_neg (Nat.not_lt.mpr (qyA z3 (by rw [qeB];decide)))];rw [hrl];refine qbA ?_;show wpAny _ _ (if ((od.filterMap (es1[·]?)).size != es1.size)=true then unsupported "internal:set-table-lost-an-element" >>= fun _=>pure (od.filterMap (es1[·]?),t2) else pure (od.filterMap (es1[·]?),t2)) _ _ _;rw [if_neg (by rw [z1];simp)];refine qcA ?_;dsimp only;refine wpAny_storeSet_of g1 rfl ?_ (by rw [z1];exact few);have g2:=F0 (s:={ s with heap:=s.heap.update a (Obj.putSet es1 (t.put j).1) }) (es':=od.filterMap (es1[·]?)) (t':=t2) g1 rfl;exact qcA (h _ (b1.trans (Heap.SameBut.update _ a _)) ⟨_,_,_,g2,ex,rfl,FH _ _ _,z2⟩ true)
  ·rename_i tf;rw [if_neg (by rw [Bool.not_eq_true] at tf;rw [tf];exact Bool.noConfusion)];cases e;exact qcA (h _ b1 ⟨_,_,_,g1,ex,rfl,rfl,hf1⟩ true)
 split
 ·refine qbA (hbv k ?_);simp only [if_true];exact go
 ·refine qbA (qcA ?_);simp only [if_true];exact go
end
def Hs (b:SetTable × Array Int):List (Int × Int)->Option (SetTable × Array Int)
 | []=>some b
 | p::ps=>(Ih b (FJ p.1 p.2)).bind fun c=>Hs c ps
def tb0 (led:Bool):SetTable × Array Int:=(.fresh 0 0 led,#[])
theorem IsP.at {h h':Heap}{a:Addr}{x y:Int}(k:IsP h a x y)(q:∀ o,h.get? a=some o->h'.get? a=some o):IsP h' a x y:=by
 obtain ⟨o,n,t,u,g,c,d⟩:=k;exact ⟨o,n,t,u,q _ g,c,d⟩
def Prs (P:Nat->Value->Prop)(ps:List (Int × Int))(no:List Addr)(h:Heap):Prop:=∀ i v,P i v->∃ c p,v = .ref c/\ps[i]? = some p/\c ∉ no/\IsP h c p.1 p.2
theorem Prs.at {P:Nat->Value->Prop}{ps:List (Int × Int)}{no:List Addr}{h h':Heap}(k:Prs P ps no h)(q:∀ a o,a ∉ no->h.get? a=some o->h'.get? a=some o):Prs P ps no h':=fun i v e=>by
 obtain ⟨c,p,e1,e2,e3,e4⟩:=k i v e;exact ⟨c,p,e1,e2,e3,e4.at fun o=>q c o e3⟩
theorem freshQ {w:World}{h:Heap}{a:Addr}(g:h.get? a=some (Ar w)):SetQ h a (tb0 (!byT w)):=⟨_,#[],0,g,⟨rfl,rfl,rfl⟩,rfl,Array.map_empty,rfl⟩
section
variable {prog:Program}{w:World}{A:Around}{R:Result->Shared->Prop}{I:Addr}{fp wr:List Addr}{G:Array GenState->Array GenState->Prop}{n:Nat}{P:Nat->Value->Prop}{St:Nat->Shared->Prop}
theorem MM (W:WalksS prog w A.in1 I fp wr G n P St)(S:Addr)(nS:S ∉ fp)(ps:List (Int × Int))(hn:ps.length=n)(hu:A.units+1<cLine){b':SetTable × Array Int} :
  ∀ (k i:Nat) (s:Shared) (b:SetTable × Array Int),n - i=k->i<=n->St i s->SetQ s.heap S b->Hs b (ps.drop i)=some b'->Prs P ps (S::wr) s.heap ->
   (∀ s',Moved (S::wr) G s s'->SetQ s'.heap S b'->R (.ok (.ret .none)) s') ->
   codeAny (model prog w) A (.builtin "set.update.loop" ⟨[.ref S,.ref I],[]⟩) R s:=by
 have nW:S ∉ wr:=fun h=>nS (W.sub _ h);have up:∀ b∈wr,b∈S::wr:=fun b hb=>qpA _ hb;intro k
 induction k with
 | zero =>
  intro i s b e1 e2 st hS hb hv hR;have ei:i=n:=by omega
  subst ei;refine codeAny_builtin PyProof.Rows.F.entry_set_update_loop ?_;rw [Around.under_plainId PyProof.Rows.F.plain_set_update_loop _];show wpAny _ A.in1 (pyNext (.ref I) >>= _) _ _ s;refine qbA (W.done s _ _ st fun s' hm=>?_);show wpAny _ A.in1 (ret Value.none) _ _ s';refine qcA (hR s' (hm.mono up) ?_);rw [List.drop_of_length_le (Nat.le_of_eq hn)] at hb;cases hb;exact hS.at fun o e=>hm.heap S _ nW e
 | succ k ih =>
  intro i s b e1 e2 st hS hb hv hR;have hlt:i<n:=by omega
  refine codeAny_builtin PyProof.Rows.F.entry_set_update_loop ?_;rw [Around.under_plainId PyProof.Rows.F.plain_set_update_loop _];show wpAny _ A.in1 (pyNext (.ref I) >>= _) _ _ s;refine qbA (W.item i s _ _ hlt st fun v s' hP st' hm=>?_);have hv':Prs P ps (S::wr) s'.heap:=hv.at fun a o na e=>hm.heap a o (fun q=>na (up _ q)) e;obtain ⟨c,p,rfl,hp,nc,hi⟩:=hv' i v hP;have hS':SetQ s'.heap S b:=hS.at fun o e=>hm.heap S _ nW e;rw [List.drop_eq_getElem_cons (by omega:i<ps.length)] at hb;have ep:ps[i]=p:=by rw [qtA (by omega)] at hp;exact qaB hp
  rw [ep] at hb;obtain ⟨b1,hb1,hb2⟩:=qaA.mp hb;show wpAny _ A.in1 (holding [Value.ref c] (setAdd S (.ref c)) >>= _) _ _ s';refine qbA (wpAny_holding ?_);unfold setAdd;refine wpAny_holding (qbA ((tupleKind (CK prog w)).pyHash (k:=[.inl p.1,.inl p.2]) (tupleKind_room_in1 hu) hi.key ?_));refine addQ (s:={ s' with toks:=_ }) (x:=p.1) (y:=p.2) (hh:=FJ p.1 p.2) hi hS' hb1 fun h' hsb hS2 bb=>?_;have lift:∀ b o,b ∉ S::wr->s'.heap.get? b=some o->h'.get? b=some o:=fun b o nb e=>(hsb.2 b (fun h:b=S=>nb (by rw [h];exact qoA))).trans e;refine qcA ⟨plainId_quiet PyProof.Rows.F.plain_set_update_loop _,ih (i+1) _ b1 (by omega) hlt (W.frame _ s' _ _ st' (Nat.le_add_right _ _) fun b hb o e=>?_) hS2 hb2 (hv'.at lift) fun s'' hm'' hS''=>?_⟩
  ·exact (hsb.2 b (fun h:b=S=>nS (by rw [<- h];exact hb))).trans e
  ·refine hR s'' (Moved.trans W.gtrans ((hm.mono up).then_heap (Nat.le_add_right _ _) fun b o hb e=>lift b o hb e) hm'') hS''
end
section
variable {prog:Program}{w:World}{A:Around}{E:Value->Shared->Prop}{s:Shared}
theorem Mj {x:Value}{T:String}{n:Nat}{P:Nat->Value->Prop}{ps:List (Int × Int)}{b':SetTable × Array Int}{Q:Value->Shared->Prop}(hh:A.handled=none)(hx:Src prog w x s.heap n P)
  (tx:∀ s₁:Shared,(∀ b o,s.heap.get? b=some o->s₁.heap.get? b=some o)->s₁.TypeIs x T) (n1:isSubtype (.type T) (.type "set")=pure false) (n2:isSubtype (.type T) (.type "frozenset")=pure false) (n3:(Value.type T == Value.type "dict")=false)
  (hn:ps.length=n) (hv:Prs P ps [] s.heap) (hb:Hs (tb0 (!byT w)) ps=some b') (hu:A.units+60<cLine)
  (h:∀ (h':Heap) (tk:Nat),SetQ h' s.heap.objs.size b'->(∀ b o,s.heap.get? b=some o->h'.get? b=some o)->Q (.ref s.heap.objs.size) { s with heap:=h',toks:=tk }) :
  wpAny (model prog w) A (call (.type "set") [x]) Q E s:=by
 obtain ⟨c,tl,hmro⟩:=F.called_set.mro;have hmade:=F.called_set.made;have hsub:=F.called_set.sub;refine wpAny_call (codeAny_of_tree ?_);show wpAny _ _ (callAny (.type "set") _) _ _ _;refine qcA ⟨Code.quiet_builtin _ (by decide +kernel),codeAny_builtin F.entry_type_call ?_⟩;rw [Around.under_plain (weight_type_call_type "set" [x] []) rfl];have h1:=F.called_set.notType;have h2:=F.called_set.canCreate;have hct:=PySem.F.typeCall_set_1 x
 repeat (any_goals (first|assumption|wp_step))
 refine codeAny_mono (Fm x (E:=E) (Q₁:=fun obj s₁=>obj = .ref s.heap.objs.size/\s₁ = { s with heap:=s.heap.push (Ar w) }) ⟨rfl,rfl⟩) fun r s₁ hr=>?_
 cases r with
 | error e=>exact hr
 | ok fl=>cases fl with
  | ret obj =>
   obtain ⟨rfl,rfl⟩:=hr;have gS:(s.heap.push (Ar w)).get? s.heap.objs.size=some (Ar w):=qdB _ rfl;have hT:Shared.TypeIs { s with heap:=s.heap.push (Ar w) } (.ref s.heap.objs.size) "set" := ⟨_,gS,rfl⟩;have hli:=F.called_set.init.lookup;have hbi:=F.called_set.init.bind (.ref s.heap.objs.size)
   repeat (any_goals (first|assumption|wp_step))
   refine codeAny_mono (codeAny_call_builtin (R:=wants (fun r s₂=>r = .none/\∃ h' tk,s₂ = { s with heap:=h',toks:=tk }/\SetQ h' s.heap.objs.size b'/\(∀ b o,s.heap.get? b=some o->h'.get? b=some o)) E) F.called_set.init.plain F.entry_set_init (check_set_init_1 hT ?_)) fun r₂ s₂ hr₂=>?_
   ·obtain ⟨hp,g,d,tk0,os⟩:=s;dsimp only at *;have kp:∀ b o,hp.get? b=some o->(hp.push (Ar w)).get? b=some o:=fun b o e=>qcB _ e;have hTx:Shared.TypeIs { heap:=hp.push (Ar w),gens:=g,drawn:=d,toks:=tk0,os:=os } x T:=tx _ kp;unfold Builtin.«set.__init__» noKeywords Builtin.Frozenset.updateFrom;generalize hPI:pyIter=PI;unfold Ar at *
    wp_walk
    subst hPI;obtain ⟨oI,fp,St,hf,hfp,st0,hit,hW⟩:=hx { heap:=hp.push (Ar w),gens:=g,drawn:=d,toks:=tk0,os:=os } kp;refine hit _ _ _ (by simp [hh]) (qbA (wpAny_runValue ?_));have eS:(hp.push (Ar w)).objs.size=hp.objs.size+1:=size_push' _ _
    have nS:hp.objs.size ∉ fp:=fun hm=>by
     rcases hfp _ hm with e|e
     ·rw [eS] at e;exact absurd e (qoB (Nat.lt_succ_self _))
     ·exact qzA _ e
    refine MM (hW _ (by simp [hh])).toS hp.objs.size nS ps hn (by simp;omega) n 0 _ _ rfl (qtB _) st0 (freshQ (w:=w) (qcB _ gS)) hb ?_ fun s' hm hS'=>?_
    ·intro i v e;obtain ⟨c,p,e1,e2,_,e4⟩:=hv i v e;have lc:c<hp.objs.size:=by obtain ⟨_,_,_,_,g,_⟩:=e4;exact qbB g
     refine ⟨c,p,e1,e2,fun hm=>?_,e4.at fun o q=>qcB _ (kp _ _ q)⟩;rcases qkA.mp hm with q|q
     ·exact absurd q (qoB lc)
     ·have q:=qnA.mp q;rw [eS] at q;exact absurd q (qoB (Nat.lt_succ_of_lt lc))
    ·obtain ⟨h',g',d',tk',os'⟩:=s';obtain rfl:g'=g:=hm.gens;obtain rfl:d'=d:=hm.drawn;obtain rfl:os'=os:=hm.os;refine qcA ?_;show wpAny _ _ (ret Value.none) _ _ _;refine qcA ⟨rfl,h',tk',rfl,hS',fun b o e=>?_⟩;have lb:b<hp.objs.size:=qbB e;refine hm.heap b o (fun hmem=>?_) (qcB _ (kp b o e));rcases qkA.mp hmem with q|q
     ·exact absurd q (qoB lb)
     ·have q:=qnA.mp q;rw [eS] at q;exact absurd q (qoB (Nat.lt_succ_of_lt lb))
   ·cases r₂ with
    | error e=>exact hr₂
    | ok fl₂=>cases fl₂ with
     | ret r =>
      obtain ⟨rfl,h',tk,rfl,hS',hk'⟩:=hr₂
      repeat (any_goals (first|assumption|wp_step))
      exact h _ _ hS' hk'
     | _=>exact hr₂.elim
  | _=>exact hr.elim
end
def K9 (p:Addr)(b:SetTable × Array Int):HO:=.ext fun h=>SetQ h p b
theorem setQO_ok {P:Program}{w:World}{H:Hp}{h:Heap}{p:Addr}{b:SetTable × Array Int}(x:SetQ h p b):ObjOk P w H h p (K9 p b):=by
 refine ⟨x,?_,fun h1 h2 a b=>a.at b⟩;obtain ⟨o,_,_,g,_⟩:=x;exact ⟨o,g⟩
theorem MB {P:Program}{w:World}{H:Hp}{h:Heap}{p:Addr}{b:SetTable × Array Int}(x:HOk P w H h)(e:H p=some (K9 p b)):SetQ h p b:=(x p _ e).1
def PrV (K:FZ9)(H:Hp)(v:V)(p:Int × Int):Prop:=∃ t,v = .ref t/\SqT K H t [.int p.1,.int p.2]
def rSetQ (w:World)(K:FZ9):List V->Hp->VK->Prop:=fun vs H Q=>∃ (l:Addr) (xs:List V) (ps:List (Int × Int)) (b:SetTable × Array Int),vs=[.ref l]/\SqL K H l xs/\Paired (PrV K H) xs ps/\Hs (tb0 (!byT w)) ps=some b/\∀ p,H p=none->Q (.ref p) (upd H p (K9 p b))
theorem prs_of {X:Cx}{pins:List (Addr × Obj)}{s:Shared}{σ:St}{H:Hp}(I:Inv X pins σ H s):∀ {xs:List V}{ps:List (Int × Int)}{us:List Value},Paired (PrV X.K H) xs ps->Vals xs us->Prs (fun i v=>us[i]? = some v) ps [] s.heap
 | _,_,_,.nil,.nil=>fun i v e=>by cases e
 | _,_,_,.cons h t,.cons r rs=>fun i v e=>by
  cases i with
  | zero =>
   cases e;obtain ⟨a,rfl,q⟩:=h;cases r;obtain ⟨its,rv,it,_⟩:=I.tuple q;obtain ⟨o,g,c,n,d⟩:=it
   cases rv with
   | cons r1 rv=>cases rv with
    | cons r2 rv =>
     cases rv;obtain ⟨t1,rfl⟩:=r1;obtain ⟨t2,rfl⟩:=r2;exact ⟨a,_,rfl,rfl,by simp,o,n,t1,t2,g,c,d⟩
  | succ i=>exact prs_of I t rs i v e
theorem LH {X:Cx}{w:World}{K:FZ9}(hu:X.A.units+60<cLine)(hc:X.calm=true)(hw:X.w=w)(hK:X.K=K):CI X (.type "set") (rSetQ w K):=by
 subst hK;subst hw;intro pins s σ H vs us Q I r h;obtain ⟨l,xs,ps,b,rfl,hl,hp,hb,q⟩:=h;obtain ⟨u,rfl,ru⟩:=DX r;cases ru;obtain ⟨its,rv,pl,_⟩:=I.list hl;have il:=pl.isList;refine Mj (ps:=ps) (b':=b) (T := "list") (I.ok.hd hc) (K4 il) (fun s1 k=>(il.at fun o e=>k _ _ e).typeIs) PySem.F.sub_list_set PySem.F.sub_list_frozenset (by decide) ?_ (fun i v e=>prs_of I hp rv i v (by rw [List.getElem?_toArray] at e;exact e)) hb hu fun h' tk hS hk=>?_
 ·rw [qkB,<- rv.length,hp.length]
 ·exact ⟨.ref s.heap.objs.size,_,I.laid' (s':={ s with heap:=h',toks:=tk }) (fun b o e=>hk b o e) (qxA _) (setQO_ok hS) rfl rfl,rfl,q _ (I.hok.fresh (qxA _))⟩
def rLenQ:List V->Hp->VK->Prop:=fun vs H Q=>∃ (l:Addr) (b:SetTable × Array Int),vs=[.ref l]/\H l=some (K9 l b)/\b.2.size<4000/\Q (.int b.2.size) H
theorem Mi {X:Cx}:CI X (.builtin "len") rLenQ:=by
 intro pins s σ H vs us Q I r h;obtain ⟨l,b,rfl,hl,hz,q⟩:=h;obtain ⟨u,rfl,ru⟩:=DX r;cases ru;obtain ⟨o,es,ep,g,ex,d,f,e⟩:=(MB I.hok hl).size;refine call_len_set g ex d f (by omega) ⟨.int b.2.size,H,I.tok _,⟨s.toks+1,by rw [e]⟩,q⟩
def LE (led:Bool)(ps:List (Int × Int)):Bool:=match Hs (tb0 led) ps with
 | some b=>b.2.size == ps.length
 | none=>false
def GD (ps:List (Int × Int)):Option Int:=if (LE true ps && LE false ps && decide (ps.length<4000))=true then some (ps.length:Int) else none
theorem ME {led:Bool}{ps:List (Int × Int)}(h:LE led ps=true):∃ b,Hs (tb0 led) ps=some b/\b.2.size=ps.length:=by
 unfold LE at h;split at h
 ·rename_i b e;exact ⟨b,e,by simpa using h⟩
 ·cases h
theorem hu60 {A:Around}{k:Nat}(hr:Room k A):A.units+60<cLine:=by have:=hr.units;omega
section
variable {K:FZ9}{σ:St}{G:Hp}{ta:TE}{w:World}
theorem prV_of {H:Hp}:∀ {xs:List V}{ps:List (Int × Int)},Paired (Rp.rel K H) xs ps->Paired (PrV K H) xs ps
 | _,_,.nil=>.nil
 | _,_,.cons ⟨t,a,b,e,h,r1,r2⟩ p=>.cons ⟨t,e,by cases r1;cases r2;exact h⟩ (prV_of p)
theorem Kq {la:Option (List (Int × Int))}(ea:EV K ta σ G la):EV K (tCB rLenQ (Ab (tCB (rSetQ w K) (Ab ta BZ)) BZ)) σ G (la.bind fun ys=>GD ys):=by
 clear 7;obtain ⟨a,ha,hc⟩:=qaA.mp hc;obtain ⟨h4,rfl⟩:=Ao hc;simp only [quB,decide_eq_true_eq] at h4;have hb:LE (!byT w) a=true:=by cases byT w<;>simp [h4.1.1,h4.1.2]
 obtain ⟨b,e1,e2⟩:=ME hb;clear 8 ea a ha;obtain ⟨l,xs,rfl,h,z,p⟩:=r2;refine ⟨l,xs,a,b,rfl,.inl (x2.gh.rd h),?_,e1,fun q hq=>?_⟩
 ·exact prV_of (Paired.imp' (fun _ _ r=>Rp.mono x2.gh r) p)
 ·refine ⟨q,b,rfl,AI,by rw [e2];exact h4.2,?_⟩;have x3:Ext G2 H2 G2 (upd H2 q (K9 q b)):=.own x2.gh hq;rw [e2];exact k _ _ _ (x2.trans x3) rfl
end
def L9:D->Option SI
 | .str x=>some (.s x)
 | .int i=>some (.i i)
 | _=>none
section
variable {K:FZ9}{σ:St}{G H:Hp}{α β γ δ:Type}[Rp α][Rp β][Rp γ][Rp δ]{ta te:TE}
theorem HN {md:Option D}(e:EV K te σ G md):EV K te σ G (md.bind fun d=>L9 d):=by
 clear 7;obtain ⟨d,hd,hc⟩:=qaA.mp hc;refine e G1 s1 d hd H sH Q fun v G2 H2 x r=>k v G2 H2 x ?_
 cases d with
 | int i =>
  have e:=qaB (show some (SI.i i)=some c from hc);subst e;cases (show RelD K G2 v (.int i) from r);exact rfl
 | str y =>
  have e:=qaB (show some (SI.s y)=some c from hc);subst e
  cases (show RelD K G2 v (.str y) from r) with
  | str _ z=>exact ⟨rfl,z⟩
 | _=>exact nomatch hc
end
def New1 (B G:Hp)(v:V)(n:Nat):Prop:=∃ l xs,v = .ref l/\B l=none/\G l=some (.lst xs)/\xs.length=n
theorem New1.mono {B G G':Hp}{v:V}{k:Nat}(s:Same G G')(n:New1 B G v k):New1 B G' v k:=by
 obtain ⟨l,xs,e,b,g,z⟩:=n;exact ⟨l,xs,e,b,s _ _ g,z⟩
theorem New1.base {B B' G:Hp}{v:V}{k:Nat}(s:Same B' B)(n:New1 B G v k):New1 B' G v k:=by
 obtain ⟨l,xs,e,b,g,z⟩:=n;exact ⟨l,xs,e,s.free b,g,z⟩
def NewT (K:FZ9)(B G:Hp)(v:V)(vs:List (V × Nat)):Prop:=∃ t,v = .ref t/\SqT K G t (vs.map (·.1))/\∀ u∈vs,New1 B G u.1 u.2
theorem NewT.mono {K:FZ9}{B G G':Hp}{v:V}{vs:List (V × Nat)}(s:Same G G')(n:NewT K B G v vs):NewT K B G' v vs:=by
 obtain ⟨t,e,h,q⟩:=n;exact ⟨t,e,s.tup h,fun u m=>(q u m).mono s⟩
theorem NewT.base {K:FZ9}{B B' G:Hp}{v:V}{vs:List (V × Nat)}(s:Same B' B)(n:NewT K B G v vs):NewT K B' G v vs:=by
 obtain ⟨t,e,h,q⟩:=n;exact ⟨t,e,h,fun u m=>(q u m).base s⟩
def n4 {α β γ δ:Type}(a:T4 (List α) (List β) (List γ) (List δ))(x y z u:V):List (V × Nat):=[(x,a.a.length),(y,a.b.length),(z,a.c.length),(u,a.d.length)]
section
variable {K:FZ9}{σ:St}{B G H G1 H1 G0 H0:Hp}{α β γ δ:Type}[Rp α][Rp β][Rp γ][Rp δ]{ta tb tc td te:TE}{t u rest:TS}{D:Ends}{i:Nat}{v:V}
def EV4 (K:FZ9){α β γ δ:Type}[Rp α][Rp β][Rp γ][Rp δ](te:TE)(σ:St)(G:Hp)(B:Hp)(m:Option (T4 (List α) (List β) (List γ) (List δ))):Prop :=
 ∀ G1,Same G G1->∀ a,m=some a->∀ H,Same G1 H->Same B H->∀ Q:VK,(∀ v x y z u G2 H2,Ext G1 H G2 H2->Rp.rel K G2 v a->NewT K B G2 v (n4 a x y z u)->Q v H2)->te σ H Q
theorem EV4.ev {m:Option (T4 (List α) (List β) (List γ) (List δ))}(e:EV4 K te σ G (fun _=>none) m):EV K te σ G m:=by
 intro G1 s1 a ha H sH Q k;exact e G1 s1 a ha H sH (fun _ _ h=>nomatch h) Q fun v _ _ _ _ G2 H2 x r _=>k v G2 H2 x r
def spM4 (K:FZ9){A:Type}[RpA A]{α β γ δ:Type}[Rp α][Rp β][Rp γ][Rp δ](m:A->Option (T4 (List α) (List β) (List γ) (List δ))):Sp:=fun vs H Q _ =>
 ∃ G a r,Same G H/\RpA.rel K G vs a/\m a=some r/\∀ v x y z u G2 H2,Ext G H G2 H2->Rp.rel K G2 v r->NewT K H G2 v (n4 r x y z u)->Q v H2
theorem spM4_len {A:Type}[RpA A]{m:A->Option (T4 (List α) (List β) (List γ) (List δ))}{vs:List V}{H:Hp}{Q:VK}{E:XK}(h:spM4 K m vs H Q E):vs.length=RpA.n A:=by
 obtain ⟨G,a,r,_,h,_⟩:=h;exact RpA.len h
theorem Kc {A0:Type}[Rp A0]{t0:TE}{m0:Option A0}{m:A0 × Unit->Option (T4 (List α) (List β) (List γ) (List δ))}(e0:EV K t0 σ G m0):EV4 K (J6 (spM4 K m) [] E0 (Ab t0 BZ)) σ G B (m0.bind fun a0=>m (a0,())):=by
 intro G1 s1 c hc H sH sB Q k;obtain ⟨a0,ha0,hc⟩:=qaA.mp hc;refine e0 G1 s1 a0 ha0 H sH _ fun v0 G2 H2 x0 r0=>?_;exact ⟨G2,_,c,x0.gh,⟨v0,_,rfl,r0,rfl⟩,hc,fun v x y z u G9 H9 x9 r n=>k v x y z u G9 H9 (x0.trans x9) r (n.base (sB.trans x0.hh))⟩
theorem sv_set4 {m:Option (T4 (List α) (List β) (List γ) (List δ))}{a:T4 (List α) (List β) (List γ) (List δ)}(e:EV4 K te σ G H m)(hm:m=some a)(s:Same G H)(k:∀ v x y z u G2 H2,Ext G H G2 H2->Rp.rel K G2 v a->NewT K H G2 v (n4 a x y z u)->rest D (σ.set i (some v)) H2):Ds (LN te (Es i)) rest D σ H:=e G (.refl G) a hm H s (.refl H) _ k
structure Spl (K:FZ9)(B H:Hp)(n:Nat)(v:V)(vs:List V):Prop where
 t:∃ t,v = .ref t/\SqT K H t vs
 l:∀ u∈vs,∃ l xs,u = .ref l/\B l=none/\H l=some (.lst xs)/\xs.length+n<=sizeLine
theorem Spl.same {H':Hp}{n:Nat}{vs:List V}(S:Spl K B H n v vs)(s:Same H H'):Spl K B H' n v vs:=by
 obtain ⟨⟨t,e,h⟩,l⟩:=S;refine ⟨⟨t,e,s.tup h⟩,fun u m=>?_⟩;obtain ⟨l,xs,e,b,g,z⟩:=l u m;exact ⟨l,xs,e,b,s _ _ g,z⟩
theorem Spl.upd {n:Nat}{vs:List V}{l:Addr}{xs ys:List V}(S:Spl K B H (n+1) v vs)(g:H l=some (.lst xs))(z:ys.length+n<=sizeLine):Spl K B (upd H l (.lst ys)) n v vs:=by
 obtain ⟨⟨t,e,h⟩,q⟩:=S;refine ⟨⟨t,e,?_⟩,fun u m=>?_⟩
 ·rcases h with (h | ⟨o,h⟩)|h
  ·refine .inl (.inl ?_);rw [AU (fun z=>by rw [z,g] at h;cases h)];exact h
  ·refine .inl (.inr ⟨o,?_⟩);rw [AU (fun z=>by rw [z,g] at h;cases h)];exact h
  ·exact .inr h
 ·obtain ⟨l',xs',e,b,g',z'⟩:=q u m;by_cases hl:l'=l
  ·subst hl;exact ⟨l',ys,e,b,AI,z⟩
  ·exact ⟨l',xs',e,b,by rw [AU hl];exact g',by omega⟩
theorem spl_of {n:Nat}{vs:List (V × Nat)}(N:NewT K B G v vs)(s:Same G H)(hz:∀ u∈vs,u.2+n<=sizeLine):Spl K B H n v (vs.map (·.1)):=by
 obtain ⟨t,e,h,q⟩:=N;refine ⟨⟨t,e,s.tup h⟩,fun u m=>?_⟩;obtain ⟨p,hp,rfl⟩:=qmA.mp m;obtain ⟨l,xs,e,b,g,z⟩:=q p hp;exact ⟨l,xs,e,b,s _ _ g,by rw [z];exact hz p hp⟩
theorem GK {j:Int}{n:Nat}{vs ws:List V}{w x:V}(hσ:σ[i]? = some (some v))(S:Spl K B H (n+1) v vs)(S':Spl K B H (n+1) w ws)(hj:atI vs j=some x)(hB:Same B H)
  (ha:∀ Q:VK,(∀ u H2,Same H H2->Q u H2)->te σ H Q)
  (k:∀ H2,Spl K B H2 n v vs->Spl K B H2 n w ws->Same B H2->rest D σ H2):Ds (Eb (tBM K "list" Dh (tOp (rAt K) (GJ i) (tC (.int j))) (Ab te BZ))) rest D σ H:=by
 obtain ⟨⟨t,rfl,h⟩,q⟩:=id S
 have hx:x∈vs:=by
  obtain ⟨_,_,e,_⟩:=GE hj;exact qrA e
 obtain ⟨l,xs,rfl,b,g,z⟩:=q x hx;refine ⟨_,hσ,.inr ⟨vs,_,h,hj,.inl ⟨rfl,_,SqL.of g⟩,ha _ fun u H2 s=>?_⟩⟩;have g2:=s _ _ g;refine ⟨l,xs,u,rfl,rfl,g2,by omega,?_⟩;have z2:(xs++[u]).length+n<=sizeLine:=by rw [qeA,qgA];omega
 exact k _ ((S.same s).upd g2 z2) ((S'.same s).upd g2 z2) ((hB.trans s).put b)
theorem sp_clear {j:Int}{n:Nat}{vs ws:List V}{w x:V}(hσ:σ[i]? = some (some v))(S:Spl K B H (n+1) v vs)(S':Spl K B H (n+1) w ws)(hj:atI vs j=some x)(hB:Same B H)
  (k:∀ H2,Spl K B H2 n v vs->Spl K B H2 n w ws->Same B H2->rest D σ H2):Ds (Eb (tBM0 K "list" rClear (tOp (rAt K) (GJ i) (tC (.int j))))) rest D σ H:=by
 obtain ⟨⟨t,rfl,h⟩,q⟩:=id S
 have hx:x∈vs:=by
  obtain ⟨_,_,e,_⟩:=GE hj;exact qrA e
 obtain ⟨l,xs,rfl,b,g,z⟩:=q x hx;refine ⟨_,hσ,.inr ⟨vs,_,h,hj,.inl ⟨rfl,_,SqL.of g⟩,l,xs,rfl,rfl,g,?_⟩⟩;have z2:([]:List V).length+n<=sizeLine:=by show 0+n<=_;omega
 exact k _ (S.upd g z2) (S'.upd g z2) (hB.put b)
theorem Ext.spoil {G0 H0 G1 H1 H2:Hp}(x:Ext G0 H0 G1 H1)(s:Same H1 H2):Ext G0 H0 G1 H2:=⟨x.gg,x.gh.trans s,x.hh.trans s,x.no⟩
end
theorem FU {α:Type}[DecidableEq α]:∀ {l m:List α},l.Nodup->(∀ x∈l,x∈m)->l.length<=m.length
 | [],_,_,_=>qtB _
 | a::l,m,nd,h=>by
  have ⟨h1,h2⟩:=List.nodup_cons.mp nd
  have:=FU (l:=l) (m:=m.erase a) h2 fun x hx=>by
   have ne:x≠a:=fun e=>h1 (e ▸ hx);exact (List.mem_erase_of_ne ne).mpr (h x (qpA _ hx))
  have hm:a∈m:=h a (qoA ..);rw [List.length_erase_of_mem hm] at this;have:=List.length_pos_of_mem hm;rw [qfA];omega
theorem MT {t:SetTable}(hd:t.dummies = #[]){j:Nat}(h:j ∉ t.place.toList):t.slot j = .empty:=by
 unfold SetTable.slot;dsimp only;rw [if_neg (fun q=>?_),hd,E2]
 ·rfl
 ·have q:=eq_of_beq q;exact h (qrA (by rw [<- Array.getElem?_toList] at q;exact q))
theorem Hy {t:SetTable}(hd:t.dummies = #[])(j:Nat):t.slot j = .empty\/∃ i,t.slot j = .live i/\i<t.place.size:=by
 unfold SetTable.slot;dsimp only;split
 ·rename_i q;have q:=eq_of_beq q;exact .inr ⟨_,rfl,(Array.getElem?_eq_some_iff.mp q).1⟩
 ·rw [hd,E2];exact .inl rfl
def hdP (mask:Nat)(q:Nat × Nat):SetTable.Probe:={ j:=q.1,more:=SetTable.runEnd mask q.1 - q.1,i:=q.1,perturb:=q.2,dummy:=none }
theorem run_le (mask i:Nat):SetTable.runEnd mask i - i<=9:=by
 unfold SetTable.runEnd;split<;>omega
section
variable {t:SetTable}{f:Nat->Int}{h:Int}
theorem go_run (hd:t.dummies = #[])(hf:∀ i,i<t.place.size->f i≠h):∀ (m fuel:Nat) (p:SetTable.Probe),p.more=m->p.dummy=none ->
  (∃ j,SetTable.probe.go t f h (fuel+m+1) p=some (.empty j none))\/SetTable.probe.go t f h (fuel+m+1) p=SetTable.probe.go t f h fuel (hdP t.mask (SetTable.leap t.mask p.i p.perturb)):=by
 intro m
 induction m with
 | zero =>
  intro fuel p e1 e2;rcases Hy hd p.j with s | ⟨i,s,hi⟩
  ·refine .inl ⟨p.j,?_⟩;rw [SetTable.probe.go,s,e2]
  ·refine .inr ?_;rw [SetTable.probe.go,s];dsimp only;rw [if_neg (by simpa using hf i hi)];unfold SetTable.advance;rw [if_neg (by omega)];rw [e2]
   rfl
 | succ m ih =>
  intro fuel p e1 e2;rcases Hy hd p.j with s | ⟨i,s,hi⟩
  ·refine .inl ⟨p.j,?_⟩;rw [SetTable.probe.go,s,e2]
  ·have e:SetTable.probe.go t f h (fuel+(m+1)+1) p=SetTable.probe.go t f h (fuel+m+1) { p with j:=p.j+1,more:=p.more - 1 }:=by
    rw [SetTable.probe.go,s];dsimp only;rw [if_neg (by simpa using hf i hi)];unfold SetTable.advance;rw [if_pos (by omega)]
    rfl
   rw [e];exact ih fuel { p with j:=p.j+1,more:=p.more - 1 } (by show p.more - 1=m;omega) e2
theorem go_leaps (hd:t.dummies = #[])(hf:∀ i,i<t.place.size->f i≠h):∀ (n fuel:Nat) (q:Nat × Nat),10 * n<fuel->t.slot (CW t.mask n q).1 = .empty->∃ j,SetTable.probe.go t f h fuel (hdP t.mask q)=some (.empty j none):=by
 intro n
 induction n with
 | zero =>
  intro fuel q hl hs;obtain ⟨fuel,rfl⟩:∃ g,fuel=g+1:=⟨fuel - 1,by omega⟩;have hs:t.slot (hdP t.mask q).j = .empty:=hs;refine ⟨q.1,?_⟩;rw [SetTable.probe.go,hs]
  rfl
 | succ n ih =>
  intro fuel q hl hs;have hr:=run_le t.mask q.1;obtain ⟨g,rfl⟩:∃ g,fuel=g+(SetTable.runEnd t.mask q.1 - q.1)+1:=⟨fuel - (SetTable.runEnd t.mask q.1 - q.1) - 1,by omega⟩;rcases go_run hd hf (SetTable.runEnd t.mask q.1 - q.1) g (hdP t.mask q) rfl rfl with e|e
  ·exact e
  ·rw [e];exact ih g _ (by omega) hs
theorem probe_ok (hd:t.dummies = #[])(hf:∀ i,i<t.place.size->f i≠h){k:Nat}(hm:t.mask+1=2 ^ k)(hz:t.place.size<=t.mask):∃ j,t.probe f h (t.probeStart h)=some (.empty j none):=by
 obtain ⟨j,hj,nj⟩:∃ j,j<t.mask+1/\j ∉ t.place.toList:=by
  apply Classical.byContradiction;intro q;have sub:List.range (t.mask+1) ⊆ t.place.toList:=fun x hx=>Classical.byContradiction fun nx=>q ⟨x,qqA.mp hx,nx⟩;have:=FU (List.nodup_range (n:=t.mask+1)) sub;rw [qhA,qnB] at this;omega
 obtain ⟨n,hn,e⟩:=Go hm (i:=SetTable.bits h % (t.mask+1)) (p:=SetTable.bits h) (j:=j) (Nat.mod_lt _ (Nat.succ_pos _)) (Lj h) hj;exact go_leaps hd hf n (10 * SetTable.turns t.mask) (SetTable.bits h % (t.mask+1),SetTable.bits h) (by unfold SetTable.turns;omega) (by rw [e];exact MT hd nj)
structure TbI (b:SetTable × Array Int):Prop where
 rt:b.1.dummies = #[]
 pw:∃ k,b.1.mask+1=2 ^ k/\1<=k
 sz:b.1.place.size=b.2.size
 few:b.2.size * 5<b.1.mask * 3
theorem Kh {α:Type}(xs:Array α){p:Nat}(x:α)(hp:p<=xs.size):(SetTable.insertAt xs p x).size=xs.size+1:=by
 unfold SetTable.insertAt;rw [Array.size_append,Array.size_push,Array.size_extract,Array.size_extract];omega
theorem Lv {α:Type}{xs:Array α}{p:Nat}{x y:α}(h:y∈(SetTable.insertAt xs p x).toList):y=x\/y∈xs.toList:=by
 unfold SetTable.insertAt at h;rw [Array.toList_append,Array.toList_push,qvA] at h;rcases qjA.mp h with h|h
 ·rw [Array.toList_extract] at h;exact .inr (List.mem_of_mem_drop (List.mem_of_mem_take h))
 ·rcases qkA.mp h with h|h
  ·exact .inl h
  ·rw [Array.toList_extract] at h;exact .inr (List.mem_of_mem_drop (List.mem_of_mem_take h))
theorem below_le (xs:Array Nat)(j:Nat):SetTable.below xs j<=xs.size:=by
 unfold SetTable.below
 have:∀ fuel lo hi,lo<=hi->hi<=xs.size->SetTable.below.go xs j fuel lo hi<=xs.size:=by
  intro fuel
  induction fuel with
  | zero=>intro lo hi h1 h2;unfold SetTable.below.go;omega
  | succ fuel ih =>
   intro lo hi h1 h2;unfold SetTable.below.go;split
   ·dsimp only;split
    ·exact ih _ _ (by omega) h2
    ·exact ih _ _ (by omega) (by omega)
   ·omega
 exact this _ _ _ (qtB _) (qxA _)
theorem above_le {n:Nat}:SetTable.sizeAbove n<=2 * n+8:=by
 have:∀ fuel size,size<=2 * n+8->SetTable.sizeAbove.go n fuel size<=2 * n+8:=by
  intro fuel
  induction fuel with
  | zero=>intro size h;exact h
  | succ fuel ih =>
   intro size h;unfold SetTable.sizeAbove.go;split
   ·exact ih _ (by omega)
   ·exact h
 exact this 64 8 (by omega)
theorem tbAdd_ok {b:SetTable × Array Int}{h:Int}(T:TbI b)(hn:h ∉ b.2.toList)(hz:b.2.size<1000):∃ c,Ih b h=some c/\TbI c/\c.2.size=b.2.size+1/\∀ y∈c.2.toList,y=h\/y∈b.2.toList:=by
 obtain ⟨t,hs⟩:=b;obtain ⟨rt,⟨k,hm,hk⟩,sz,few⟩:=T;dsimp only at *
 have hg:t.gaveWay=false:=by
  obtain ⟨k,rfl⟩:∃ q,k=q+1:=⟨k - 1,by omega⟩;rw [Nat.pow_succ] at hm;unfold SetTable.gaveWay;have:t.mask % 2=1:=by omega
  rw [this]
  rfl
 obtain ⟨j,hj⟩:=probe_ok (t:=t) (f:=fun i=>(hs[i]?).getD 0) (h:=h) rt (fun i hi e=>hn (by
  rw [sz] at hi;rw [Array.getElem?_eq_getElem hi] at e;have e:hs[i]=h:=e;rw [<- e]
  exact Array.getElem_mem_toList hi)) hm (by omega)
 have hp:(t.put j).2<=t.place.size:=below_le _ _;have z1:(SetTable.insertAt hs (t.put j).2 h).size=hs.size+1:=Kh hs h (by rw [<- sz];exact hp);have z2:(t.put j).1.place.size=t.place.size+1:=Kh t.place j hp
 have dm:(t.put j).1.dummies = #[]:=by
  show (if SetTable.has t.dummies j then _ else t.dummies)=_;rw [rt,E2]
  rfl
 have hmk:(t.put j).1.mask=t.mask:=rfl
 have hfit:(t.put j).1.fits (SetTable.insertAt hs (t.put j).2 h).size=true:=by
  unfold SetTable.fits SetTable.fill;rw [dm,z1,z2,sz,hmk];simp;omega
 unfold Ih;dsimp only;rw [if_pos ⟨hz,hg⟩,hj];dsimp only;rw [if_pos ⟨hfit,z1⟩];by_cases tf:(t.put j).1.tooFull=true
 ·rw [if_pos tf]
  have gr:SetTable.grown (hs.size+1)=4 * (hs.size+1):=by
   unfold SetTable.grown;rw [if_neg (by omega),Nat.mul_comm]
  obtain ⟨⟨k2,hk2⟩,lt2⟩:=L1 (n:=SetTable.grown (hs.size+1)) (qqB (m:=100000) (by rw [gr];omega) (by decide));have ab:=above_le (n:=SetTable.grown (hs.size+1));have hk1:SetTable.sizeAbove (SetTable.grown (hs.size+1)) - 1+1=2 ^ k2:=by omega
  obtain ⟨t2,od,e1,e2,e3⟩:=laid_ok (mask:=SetTable.sizeAbove (SetTable.grown (hs.size+1)) - 1) (finger:=(t.put j).1.finger) (moves:=(t.put j).1.movedTo (SetTable.sizeAbove (SetTable.grown (hs.size+1)) - 1)) (led:=(t.put j).1.led) (plain:=(t.put j).1.plain) hk1 (SetTable.insertAt hs (t.put j).2 h) (by rw [z1];omega);have e1':(t.put j).1.relaid (SetTable.insertAt hs (t.put j).2 h) (SetTable.grown (hs.size+1))=some (t2,od):=e1;obtain ⟨q1,q2,q3,q4⟩:=Ly e1;rw [e1'];dsimp only;generalize hH:SetTable.insertAt hs (t.put j).2 h=H1 at *
  have r1:(od.filterMap (H1[·]?)).toList.Perm H1.toList:=by
   rw [Array.toList_filterMap];exact (e2.filterMap _).trans (by rw [filterMap_getElem?_range])
  have r2:(od.filterMap (H1[·]?)).size=H1.size:=by rw [<- qnB,r1.length_eq,qnB]
  have k2p:1<=k2:=by
   rcases Nat.eq_zero_or_pos k2 with z|z
   ·rw [z] at hk2;omega
   ·exact z
  have f2:t2.fits (od.filterMap (H1[·]?)).size=true:=by
   unfold SetTable.fits SetTable.fill;rw [q1.dum,e3,r2,q4];simp;omega
  rw [if_pos ⟨r2,f2,by omega⟩];refine ⟨_,rfl,⟨q1.dum,⟨k2,by rw [q4];exact hk1,k2p⟩,by rw [e3];exact r2.symm,?_⟩,by show (od.filterMap (H1[·]?)).size=_;rw [r2];exact z1,fun y hy=>?_⟩
  ·show (od.filterMap (H1[·]?)).size * 5<t2.mask * 3;rw [r2,z1,q4];omega
  ·have:=r1.mem_iff.mp hy;rw [<- hH] at this;exact Lv this
 ·rw [if_neg tf];refine ⟨_,rfl,⟨dm,⟨k,hm,hk⟩,by show (t.put j).1.place.size=_;rw [z2,z1,sz],?_⟩,z1,fun y hy=>Lv hy⟩
  have tf:¬ (t.mask * 3<=((t.put j).1.place.size+(t.put j).1.dummies.size) * 5):=by
   intro q;apply tf;unfold SetTable.tooFull SetTable.fill;exact decide_eq_true q
  rw [dm,z2] at tf;show (SetTable.insertAt hs (t.put j).2 h).size * 5<t.mask * 3;rw [z1];have:(#[]:Array Nat).size=0:=rfl;omega
def Sm (p:Int × Int):Prop:=0<=p.1/\p.1<8/\0<=p.2/\p.2<8
theorem M2:((List.range 8).all fun a=>(List.range 8).all fun b=>(List.range 8).all fun c=>(List.range 8).all fun d=>!(FJ ((a:Nat):Int) ((b:Nat):Int) == FJ ((c:Nat):Int) ((d:Nat):Int)) || (a == c && b == d))=true:=by decide +kernel
theorem MP (a:Nat)(ha:a<8)(b:Nat)(hb:b<8)(c:Nat)(hc:c<8)(d:Nat)(hd:d<8)(e:FJ (a:Int) (b:Int)=FJ (c:Int) (d:Int)):a=c/\b=d:=by
 have h:=List.all_eq_true.mp (List.all_eq_true.mp (List.all_eq_true.mp (List.all_eq_true.mp M2 a (qqA.mpr ha)) b (qqA.mpr hb)) c (qqA.mpr hc)) d (qqA.mpr hd);rw [e,beq_self_eq_true] at h
 simpa using h
theorem Mf {p q:Int × Int}(hp:Sm p)(hq:Sm q)(e:FJ p.1 p.2=FJ q.1 q.2):p=q:=by
 obtain ⟨a,b⟩:=p;obtain ⟨c,d⟩:=q;obtain ⟨a0,a1,b0,b1⟩:=hp;obtain ⟨c0,c1,d0,d1⟩:=hq;dsimp only at *;obtain ⟨a,rfl⟩:=qgB a0;obtain ⟨b,rfl⟩:=qgB b0;obtain ⟨c,rfl⟩:=qgB c0;obtain ⟨d,rfl⟩:=qgB d0;obtain ⟨rfl,rfl⟩:=MP a (by omega) b (by omega) c (by omega) d (by omega) e
 rfl
theorem Ki:∀ (ps:List (Int × Int)) (b:SetTable × Array Int),TbI b->(∀ p∈ps,Sm p)->ps.Nodup->(∀ p∈ps,FJ p.1 p.2 ∉ b.2.toList)->b.2.size+ps.length<=1000->∃ c,Hs b ps=some c/\c.2.size=b.2.size+ps.length
 | [],b,_,_,_,_,_=>⟨b,rfl,rfl⟩
 | p::ps,b,T,hs,nd,hn,hz=>by
  rw [qfA] at hz;obtain ⟨c,e,Tc,zc,mc⟩:=tbAdd_ok T (hn p qoA) (by omega);have nd:=List.nodup_cons.mp nd
  obtain ⟨d,e2,z2⟩:=Ki ps c Tc (fun q hq=>hs q (qpA _ hq)) nd.2 (fun q hq hm=>by
   rcases mc _ hm with h|h
   ·have:=Mf (hs q (qpA _ hq)) (hs p qoA) h;rw [this] at hq;exact nd.1 hq
   ·exact hn q (qpA _ hq) h) (by omega)
  refine ⟨d,?_,by rw [z2,zc,qfA];omega⟩;show (Ih b (FJ p.1 p.2)).bind _=_;rw [e];exact e2
theorem KG {ps:List (Int × Int)}(hs:∀ p∈ps,Sm p)(nd:ps.Nodup)(hz:ps.length<=1000):GD ps=some (ps.length:Int):=by
 have key:∀ led,LE led ps=true:=fun led=>by
  obtain ⟨c,e,z⟩:=Ki ps (tb0 led) ⟨rfl,⟨3,rfl,by decide⟩,rfl,by show 0 * 5<7 * 3;decide⟩ hs nd (fun p _ h=>by cases h) (by show 0+_<=_;omega);unfold LE;rw [e];show (c.2.size == ps.length)=true;rw [z,show (tb0 led).2.size=0 from rfl,Nat.zero_add];exact beq_self_eq_true _
 unfold GD;rw [if_pos];rw [key,key,decide_eq_true (by omega)]
 rfl
end
open Builtin Builtin.Str
section
variable {prog:Program}{w:World}{A:Around}{E:Value->Shared->Prop}{s:Shared}{x y:Str}{t u:Tok}{Q:Value->Shared->Prop}
theorem MS (hy:(y.length == 0)=false)
  (hq:∀ (l:List (Str × Tok)) (tk:Nat),l.map (·.1)=Txt.split x y->Q (.ref s.heap.objs.size) { s with toks:=tk,heap:=s.heap.push { cls:=.type "list",data:=.seq (strValues l).toArray } })
  (hsz:x.length<=sizeLine) (hsz2:(partsBetween x (occurrences x y 0 x.length (x.length+1)) y.length).length<=sizeLine) :
  wpAny (model prog w) A (call (.builtin "str.split") [.str x t,.str y u]) Q E s:=by
 cases h1:(decide (x.length<y.length) || decide (strKind x<strKind y))
 ·cases hf:(occurrences x y 0 x.length (x.length+1)).isEmpty
  ·refine call_meets PySem.F.slot_str_split (typeIs_str _ _ _) PySem.F.entry_str_split (PySem.F.args_str_split_2 _ _) (meets_str_split_sep x y t u h1 hy hf hsz hsz2) ?_;show wants Q E _ { s with toks:=_,heap:=s.heap.push { cls:=.type "list",data:=.seq (strsFrom s.toks (partsBetween x (occurrences x y 0 x.length (x.length+1)) y.length)).toArray } };rw [strsFrom_eq];exact hq (numbered s.toks _) _ ((numbered_texts _ _).trans ((if_neg (ne_true_of_eq_false h1)).trans (if_neg (ne_true_of_eq_false hf))).symm)
  ·exact call_meets PySem.F.slot_str_split (typeIs_str _ _ _) PySem.F.entry_str_split (PySem.F.args_str_split_2 _ _) (meets_str_split_not_found x y t u h1 hy hf)
    (hq [(x,t)] s.toks ((if_neg (ne_true_of_eq_false h1)).trans (if_pos hf)).symm)
 ·exact call_meets PySem.F.slot_str_split (typeIs_str _ _ _) PySem.F.entry_str_split (PySem.F.args_str_split_2 _ _) (meets_str_split_cannot_occur x y t u h1)
   (hq [(x,t)] s.toks (if_pos h1).symm)
end
def Hi (x y:Str):Option (List Str) :=
 if y.length≠0/\x.length<=sizeLine/\(partsBetween x (occurrences x y 0 x.length (x.length+1)) y.length).length<=sizeLine/\(Txt.split x y).length<=sizeLine/\((Txt.split x y).all fun z=>decide (z.length<=sizeLine))=true then some (Txt.split x y) else none
def rSplit:V->List V->Hp->VK->Prop:=fun v vs H Q=>∃ x y zs,v = .str x/\vs=[.str y]/\Hi x y=some zs/\∀ p,H p=none->Q (.ref p) (upd H p (.lst (zs.map V.str)))
theorem Iz:∀ {l:List (Str × Tok)},Vals ((l.map (·.1)).map V.str) (strValues l)
 | []=>.nil
 | p::l=>.cons ⟨p.2,rfl⟩ Iz
theorem KT {X:Cx}:MtR X "str.split" rSplit:=by
 intro pins s σ H v vs v' us Q I rx rv h;obtain ⟨x,y,zs,rfl,rfl,hz,q⟩:=h;obtain ⟨t,rfl⟩:=rx;obtain ⟨u,rfl,ru⟩:=DX rv;obtain ⟨t2,rfl⟩:=ru;obtain ⟨⟨h1,h2,h3,h4,h5⟩,rfl⟩:=Ao hz;refine MS (by simpa using h1) (fun l tk e=>?_) h2 h3;refine ⟨.ref s.heap.objs.size,_,I.laid (a:=s.heap.objs.size) (t':=tk) (o:=.lst ((Txt.split x y).map V.str)) (fun b ob q=>qcB _ q) (qxA _) ?_,rfl,q _ (I.hok.fresh (qxA _))⟩;refine ⟨by rw [qdA];exact h4,strValues l,0,?_,qdB _ rfl⟩;rw [<- e];exact Iz
section
variable {K:FZ9}{σ:St}{G:Hp}{ta tb:TE}
theorem Jv {ma mb:Option Str}(ea:EV K ta σ G ma)(eb:EV K tb σ G mb):FV K (tBM K "str" rSplit ta (Ab tb BZ)) σ G (ma.bind fun a=>mb.bind fun b=>Hi a b):=by
 clear 7;obtain ⟨a,ha,hc⟩:=qaA.mp hc;obtain ⟨b,hb,hc⟩:=qaA.mp hc;obtain ⟨⟨h1,h2,h3,h4,h5⟩,e⟩:=Ao (show Hi a b=some c from hc);clear 8 ea a ha;obtain ⟨rfl,z2⟩:=r2;refine ⟨rfl,eb G2 (s1.trans x2.gg) b hb H2 x2.gh _ fun u G3 H3 x3 r3=>?_⟩;obtain ⟨rfl,z3⟩:=r3;refine ⟨a,b,c,rfl,rfl,hc,?_⟩;refine FN (x2.trans x3).gh ?_ ?_ (FV.mono (x2.trans x3) k)
 ·rw [qdA,<- e];exact h4
 ·have:∀ l:List Str,(∀ z∈l,z.length<=sizeLine)->Paired (Rp.rel K G3) (l.map V.str) l:=by
   intro l
   induction l with
   | nil=>intro _;exact .nil
   | cons z l ih=>intro h;exact .cons ⟨rfl,h z qoA⟩ (ih fun w hw=>h w (qpA _ hw))
  refine this c fun z hz=>?_;rw [<- e] at hz;exact of_decide_eq_true (List.all_eq_true.mp h5 z hz)
end
def DE (i:Int):Option Str:=if -1000000<i/\i<1000000 then some (Str.ofString (toString i)) else none
def rStrI:List V->Hp->VK->Prop:=fun vs H Q=>∃ i z,vs=[.int i]/\DE i=some z/\Q (.str z) H
theorem DJ {X:Cx}:CI X (.type "str") rStrI:=by
 intro pins s σ H vs us Q I r h;obtain ⟨i,z,rfl,hz,q⟩:=h;obtain ⟨u,rfl,ru⟩:=DX r;obtain ⟨t,rfl⟩:=ru;obtain ⟨⟨h1,h2⟩,rfl⟩:=Ao hz;refine str_of_int_fit (N:=1000000) (by split<;>omega) (by decide) fun _=>⟨.str _,H,I.tok _,⟨_,rfl⟩,q⟩
section
variable {K:FZ9}{σ:St}{G:Hp}{ta:TE}
theorem F5 {ma:Option Int}(ea:EV K ta σ G ma):EV K (tCB rStrI (Ab ta BZ)) σ G (ma.bind fun a=>DE a):=by
 clear 7;obtain ⟨a,ha,hc⟩:=qaA.mp hc;obtain ⟨⟨h1,h2⟩,e⟩:=Ao (show DE a=some c from hc);clear 8 ea a ha;cases r2;refine ⟨a,c,rfl,hc,k _ _ _ x2 ⟨rfl,?_⟩⟩;have:=len_str_of_int a;rw [<- e];have hs:sizeLine=16777216:=qeB;omega
end
theorem pe_globS {X:Cx}{x z:Str}{pos:Pos}(hg:Gl X x)(h:∃ t,X.mg x=some (.str z t))(hd:(x == ("__debug__" : Str))=false:=by decide):PE X (.Name x pos) (tC (.str z)):=by
 obtain ⟨t,h⟩:=h;exact Lh (u:=.str z t) hg h ⟨t,rfl⟩ hd
end L2
namespace PySem
open Sem (wp)
theorem BR {α:Type}{M:Model}{A:Around}{E:Value->Shared->Prop}{s:Shared}{t u:Sem α}{Q:α->Shared->Prop}(h:t=u)(q:wpAny M A u Q E s):wpAny M A t Q E s:=h ▸ q
theorem Je:typeLookup (.type "str") "__int__" = pure none:=by rw [typeLookup_type,builtinLookup_eq_fast];kernel_rfl
theorem HR:typeLookup (.type "str") "__index__" = pure none:=by rw [typeLookup_type,builtinLookup_eq_fast];kernel_rfl
theorem Hh:typeLookup (.type "str") "__trunc__" = pure none:=by rw [typeLookup_type,builtinLookup_eq_fast];kernel_rfl
theorem HW (k:Nat)(hk:k<24)(t:Tok):Meets (Builtin.«int.__new__» ⟨[.type "int",.str (Str.ofString (toString k)) t],[]⟩) (Made.int (k:Int)).spec :=
 Meets.of_wp fun prog w A R s hs=>by
  obtain ⟨hp,g,d,tk,os⟩:=s;have f1:=F.conv_sub_int;have f2:=F.madeHere_int;generalize hx:Str.ofString (toString k)=x;have hT:(⟨hp,g,d,tk,os⟩:Shared).TypeIs (.str x t) "str" := rfl;have l1:=Je;have l2:=HR;have l3:=Hh
  repeat (any_goals (first|assumption|wp_step))
  subst hx
  match k,hk with
  | 0,_=>refine BR (u:=mkInt 0 >>= fun v=>pure v) (by kernel_rfl) (qbA (wpAny_mkInt (qcA (qcA ⟨_,rfl,hs⟩))))
  | 1,_=>refine BR (u:=mkInt 1 >>= fun v=>pure v) (by kernel_rfl) (qbA (wpAny_mkInt (qcA (qcA ⟨_,rfl,hs⟩))))
  | 2,_=>refine BR (u:=mkInt 2 >>= fun v=>pure v) (by kernel_rfl) (qbA (wpAny_mkInt (qcA (qcA ⟨_,rfl,hs⟩))))
  | 3,_=>refine BR (u:=mkInt 3 >>= fun v=>pure v) (by kernel_rfl) (qbA (wpAny_mkInt (qcA (qcA ⟨_,rfl,hs⟩))))
  | 4,_=>refine BR (u:=mkInt 4 >>= fun v=>pure v) (by kernel_rfl) (qbA (wpAny_mkInt (qcA (qcA ⟨_,rfl,hs⟩))))
  | 5,_=>refine BR (u:=mkInt 5 >>= fun v=>pure v) (by kernel_rfl) (qbA (wpAny_mkInt (qcA (qcA ⟨_,rfl,hs⟩))))
  | 6,_=>refine BR (u:=mkInt 6 >>= fun v=>pure v) (by kernel_rfl) (qbA (wpAny_mkInt (qcA (qcA ⟨_,rfl,hs⟩))))
  | 7,_=>refine BR (u:=mkInt 7 >>= fun v=>pure v) (by kernel_rfl) (qbA (wpAny_mkInt (qcA (qcA ⟨_,rfl,hs⟩))))
  | 8,_=>refine BR (u:=mkInt 8 >>= fun v=>pure v) (by kernel_rfl) (qbA (wpAny_mkInt (qcA (qcA ⟨_,rfl,hs⟩))))
  | 9,_=>refine BR (u:=mkInt 9 >>= fun v=>pure v) (by kernel_rfl) (qbA (wpAny_mkInt (qcA (qcA ⟨_,rfl,hs⟩))))
  | 10,_=>refine BR (u:=mkInt 10 >>= fun v=>pure v) (by kernel_rfl) (qbA (wpAny_mkInt (qcA (qcA ⟨_,rfl,hs⟩))))
  | 11,_=>refine BR (u:=mkInt 11 >>= fun v=>pure v) (by kernel_rfl) (qbA (wpAny_mkInt (qcA (qcA ⟨_,rfl,hs⟩))))
  | 12,_=>refine BR (u:=mkInt 12 >>= fun v=>pure v) (by kernel_rfl) (qbA (wpAny_mkInt (qcA (qcA ⟨_,rfl,hs⟩))))
  | 13,_=>refine BR (u:=mkInt 13 >>= fun v=>pure v) (by kernel_rfl) (qbA (wpAny_mkInt (qcA (qcA ⟨_,rfl,hs⟩))))
  | 14,_=>refine BR (u:=mkInt 14 >>= fun v=>pure v) (by kernel_rfl) (qbA (wpAny_mkInt (qcA (qcA ⟨_,rfl,hs⟩))))
  | 15,_=>refine BR (u:=mkInt 15 >>= fun v=>pure v) (by kernel_rfl) (qbA (wpAny_mkInt (qcA (qcA ⟨_,rfl,hs⟩))))
  | 16,_=>refine BR (u:=mkInt 16 >>= fun v=>pure v) (by kernel_rfl) (qbA (wpAny_mkInt (qcA (qcA ⟨_,rfl,hs⟩))))
  | 17,_=>refine BR (u:=mkInt 17 >>= fun v=>pure v) (by kernel_rfl) (qbA (wpAny_mkInt (qcA (qcA ⟨_,rfl,hs⟩))))
  | 18,_=>refine BR (u:=mkInt 18 >>= fun v=>pure v) (by kernel_rfl) (qbA (wpAny_mkInt (qcA (qcA ⟨_,rfl,hs⟩))))
  | 19,_=>refine BR (u:=mkInt 19 >>= fun v=>pure v) (by kernel_rfl) (qbA (wpAny_mkInt (qcA (qcA ⟨_,rfl,hs⟩))))
  | 20,_=>refine BR (u:=mkInt 20 >>= fun v=>pure v) (by kernel_rfl) (qbA (wpAny_mkInt (qcA (qcA ⟨_,rfl,hs⟩))))
  | 21,_=>refine BR (u:=mkInt 21 >>= fun v=>pure v) (by kernel_rfl) (qbA (wpAny_mkInt (qcA (qcA ⟨_,rfl,hs⟩))))
  | 22,_=>refine BR (u:=mkInt 22 >>= fun v=>pure v) (by kernel_rfl) (qbA (wpAny_mkInt (qcA (qcA ⟨_,rfl,hs⟩))))
  | 23,_=>refine BR (u:=mkInt 23 >>= fun v=>pure v) (by kernel_rfl) (qbA (wpAny_mkInt (qcA (qcA ⟨_,rfl,hs⟩))))
  | k+24,h=>exact absurd h (by omega)
end PySem
namespace L2
open PySem PySem.Spec PyProof.Rows
def intO (x:Str):Option Int:=((List.range 24).find? fun (k:Nat)=>decide (Str.ofString (toString k)=x)).map fun (k:Nat)=>(k:Int)
theorem ML {x:Str}{i:Int}(h:intO x=some i):∃ k:Nat,k<24/\x=Str.ofString (toString k)/\i=(k:Int):=by
 obtain ⟨k,hk,rfl⟩:=Option.map_eq_some_iff.mp h;have e:=List.find?_some hk;exact ⟨k,qqA.mp (List.mem_of_find?_eq_some hk),(of_decide_eq_true e).symm,rfl⟩
def rIntT:List V->Hp->VK->Prop:=fun vs H Q=>∃ x i,vs=[.str x]/\intO x=some i/\Q (.int i) H
theorem Mb {X:Cx}:CI X (.type "int") rIntT:=by
 intro pins s σ H vs us Q I r h;obtain ⟨x,i,rfl,hz,q⟩:=h;obtain ⟨u,rfl,ru⟩:=DX r;obtain ⟨t,rfl⟩:=ru;obtain ⟨k,hk,rfl,rfl⟩:=ML hz;exact call_int_1 (HW k hk t) (show (Made.int (k:Int)).post _ s from ⟨rfl,.int k,H,I.tok _,⟨_,rfl⟩,q⟩)
section
variable {K:FZ9}{σ:St}{G:Hp}{ta:TE}
theorem ev_intT {ma:Option Str}(ea:EV K ta σ G ma):EV K (tCB rIntT (Ab ta BZ)) σ G (ma.bind fun a=>intO a):=by
 clear 7;obtain ⟨a,ha,hc⟩:=qaA.mp hc;clear 8 ea a ha;obtain ⟨rfl,z⟩:=r2;exact ⟨a,c,rfl,hc,k _ _ _ x2 rfl⟩
end
structure OwnQ (K:FZ9){α β γ δ:Type}[Rp α][Rp β][Rp γ][Rp δ](G H:Hp)(v:V)(p0 p1 p2 p3:Addr)(a:T4 (List α) (List β) (List γ) (List δ)):Prop where
 t:∃ t,v = .ref t/\G t=some (.tup [.ref p0,.ref p1,.ref p2,.ref p3])
 o0:∃ vs,Own K G H (.ref p0) p0 vs a.a
 o1:∃ vs,Own K G H (.ref p1) p1 vs a.b
 o2:∃ vs,Own K G H (.ref p2) p2 vs a.c
 o3:∃ vs,Own K G H (.ref p3) p3 vs a.d
 nd:[p0,p1,p2,p3].Nodup
section
variable {K:FZ9}{σ:St}{G H G1 H1:Hp}{α β γ δ:Type}[Rp α][Rp β][Rp γ][Rp δ]{te:TE}{rest:TS}{D:Ends}{i:Nat}{v:V}{p0 p1 p2 p3:Addr}{a:T4 (List α) (List β) (List γ) (List δ)}
theorem OwnQ.ext (o:OwnQ K G H v p0 p1 p2 p3 a)(x:Ext G H G1 H1):OwnQ K G1 H1 v p0 p1 p2 p3 a:=by
 obtain ⟨⟨t,e,g⟩,⟨_,a0⟩,⟨_,a1⟩,⟨_,a2⟩,⟨_,a3⟩,nd⟩:=o;exact ⟨⟨t,e,x.gg _ _ g⟩,⟨_,a0.ext x⟩,⟨_,a1.ext x⟩,⟨_,a2.ext x⟩,⟨_,a3.ext x⟩,nd⟩
theorem sq_app0 {x:α}{l:List α}{m:Option α}(hσ:σ[i]? = some (some v))(o:OwnQ K G H v p0 p1 p2 p3 a)(e:EV K te σ G m)(hm:m=some x)(hp:D1 a.a x=some l)(s:Same G H)
  (k:∀ G2 H1 H2,Ext G H G2 H1->(∀ b,b≠p0->H2 b=H1 b)->OwnQ K G2 H2 v p0 p1 p2 p3 (T4.mk l a.b a.c a.d)->rest D σ H2):Ds (Eb (tBM K "list" Dh (tOp (rAt K) (GJ i) (tC (.int 0))) (Ab te BZ))) rest D σ H:=by
 obtain ⟨hl,rfl⟩:=Ao hp;obtain ⟨⟨t,rfl,g⟩,⟨vs,a0⟩,_,_,_,nd⟩:=id o;have hlen:=Paired.length a0.p;refine ⟨_,hσ,.inr ⟨_,.ref p0,SqT.of (s _ _ g),rfl,.inl ⟨rfl,_,SqL.of a0.h⟩,e.run hm s fun w G2 H2 y r=>?_⟩⟩;refine ⟨p0,vs,w,rfl,rfl,y.hh _ _ a0.h,by omega,?_⟩;obtain ⟨⟨t',e',g'⟩,⟨vs',b0⟩,⟨_,b1⟩,⟨_,b2⟩,⟨_,b3⟩,_⟩:=o.ext y;have ee:vs'=vs:=by have:=b0.h.symm.trans (y.hh _ _ a0.h);cases this;rfl
 subst ee;simp only [List.nodup_cons,qkA,qpB,or_false,not_or] at nd;refine k G2 H2 _ y (fun b hb=>AU hb) ⟨⟨t',e',g'⟩,⟨vs'++[w],rfl,b0.g,AI,?_,Paired.app b0.p (.cons r .nil)⟩,⟨_,b1.put (Ne.symm nd.1.1)⟩,⟨_,b2.put (Ne.symm nd.1.2.1)⟩,⟨_,b3.put (Ne.symm nd.1.2.2)⟩,o.nd⟩;rw [qeA,qgA];omega
theorem sq_app1 {x:β}{l:List β}{m:Option β}(hσ:σ[i]? = some (some v))(o:OwnQ K G H v p0 p1 p2 p3 a)(e:EV K te σ G m)(hm:m=some x)(hp:D1 a.b x=some l)(s:Same G H)
  (k:∀ G2 H1 H2,Ext G H G2 H1->(∀ b,b≠p1->H2 b=H1 b)->OwnQ K G2 H2 v p0 p1 p2 p3 (T4.mk a.a l a.c a.d)->rest D σ H2):Ds (Eb (tBM K "list" Dh (tOp (rAt K) (GJ i) (tC (.int 1))) (Ab te BZ))) rest D σ H:=by
 obtain ⟨hl,rfl⟩:=Ao hp;obtain ⟨⟨t,rfl,g⟩,_,⟨vs,a0⟩,_,_,nd⟩:=id o;have hlen:=Paired.length a0.p;refine ⟨_,hσ,.inr ⟨_,.ref p1,SqT.of (s _ _ g),rfl,.inl ⟨rfl,_,SqL.of a0.h⟩,e.run hm s fun w G2 H2 y r=>?_⟩⟩;refine ⟨p1,vs,w,rfl,rfl,y.hh _ _ a0.h,by omega,?_⟩;obtain ⟨⟨t',e',g'⟩,⟨_,b0⟩,⟨vs',b1⟩,⟨_,b2⟩,⟨_,b3⟩,_⟩:=o.ext y;have ee:vs'=vs:=by have:=b1.h.symm.trans (y.hh _ _ a0.h);cases this;rfl
 subst ee;simp only [List.nodup_cons,qkA,qpB,or_false,not_or] at nd;refine k G2 H2 _ y (fun b hb=>AU hb) ⟨⟨t',e',g'⟩,⟨_,b0.put (nd.1.1)⟩,⟨vs'++[w],rfl,b1.g,AI,?_,Paired.app b1.p (.cons r .nil)⟩,⟨_,b2.put (Ne.symm nd.2.1.1)⟩,⟨_,b3.put (Ne.symm nd.2.1.2)⟩,o.nd⟩;rw [qeA,qgA];omega
theorem sq_app2 {x:γ}{l:List γ}{m:Option γ}(hσ:σ[i]? = some (some v))(o:OwnQ K G H v p0 p1 p2 p3 a)(e:EV K te σ G m)(hm:m=some x)(hp:D1 a.c x=some l)(s:Same G H)
  (k:∀ G2 H1 H2,Ext G H G2 H1->(∀ b,b≠p2->H2 b=H1 b)->OwnQ K G2 H2 v p0 p1 p2 p3 (T4.mk a.a a.b l a.d)->rest D σ H2):Ds (Eb (tBM K "list" Dh (tOp (rAt K) (GJ i) (tC (.int 2))) (Ab te BZ))) rest D σ H:=by
 obtain ⟨hl,rfl⟩:=Ao hp;obtain ⟨⟨t,rfl,g⟩,_,_,⟨vs,a0⟩,_,nd⟩:=id o;have hlen:=Paired.length a0.p;refine ⟨_,hσ,.inr ⟨_,.ref p2,SqT.of (s _ _ g),rfl,.inl ⟨rfl,_,SqL.of a0.h⟩,e.run hm s fun w G2 H2 y r=>?_⟩⟩;refine ⟨p2,vs,w,rfl,rfl,y.hh _ _ a0.h,by omega,?_⟩;obtain ⟨⟨t',e',g'⟩,⟨_,b0⟩,⟨_,b1⟩,⟨vs',b2⟩,⟨_,b3⟩,_⟩:=o.ext y;have ee:vs'=vs:=by have:=b2.h.symm.trans (y.hh _ _ a0.h);cases this;rfl
 subst ee;simp only [List.nodup_cons,qkA,qpB,or_false,not_or] at nd;refine k G2 H2 _ y (fun b hb=>AU hb) ⟨⟨t',e',g'⟩,⟨_,b0.put (nd.1.2.1)⟩,⟨_,b1.put (nd.2.1.1)⟩,⟨vs'++[w],rfl,b2.g,AI,?_,Paired.app b2.p (.cons r .nil)⟩,⟨_,b3.put (Ne.symm nd.2.2.1)⟩,o.nd⟩;rw [qeA,qgA];omega
theorem sq_app3 {x:δ}{l:List δ}{m:Option δ}(hσ:σ[i]? = some (some v))(o:OwnQ K G H v p0 p1 p2 p3 a)(e:EV K te σ G m)(hm:m=some x)(hp:D1 a.d x=some l)(s:Same G H)
  (k:∀ G2 H1 H2,Ext G H G2 H1->(∀ b,b≠p3->H2 b=H1 b)->OwnQ K G2 H2 v p0 p1 p2 p3 (T4.mk a.a a.b a.c l)->rest D σ H2):Ds (Eb (tBM K "list" Dh (tOp (rAt K) (GJ i) (tC (.int 3))) (Ab te BZ))) rest D σ H:=by
 obtain ⟨hl,rfl⟩:=Ao hp;obtain ⟨⟨t,rfl,g⟩,_,_,_,⟨vs,a0⟩,nd⟩:=id o;have hlen:=Paired.length a0.p;refine ⟨_,hσ,.inr ⟨_,.ref p3,SqT.of (s _ _ g),rfl,.inl ⟨rfl,_,SqL.of a0.h⟩,e.run hm s fun w G2 H2 y r=>?_⟩⟩;refine ⟨p3,vs,w,rfl,rfl,y.hh _ _ a0.h,by omega,?_⟩;obtain ⟨⟨t',e',g'⟩,⟨_,b0⟩,⟨_,b1⟩,⟨_,b2⟩,⟨vs',b3⟩,_⟩:=o.ext y;have ee:vs'=vs:=by have:=b3.h.symm.trans (y.hh _ _ a0.h);cases this;rfl
 subst ee;simp only [List.nodup_cons,qkA,qpB,or_false,not_or] at nd;refine k G2 H2 _ y (fun b hb=>AU hb) ⟨⟨t',e',g'⟩,⟨_,b0.put (nd.1.2.2)⟩,⟨_,b1.put (nd.2.1.2)⟩,⟨_,b2.put (nd.2.2.1)⟩,⟨vs'++[w],rfl,b3.g,AI,?_,Paired.app b3.p (.cons r .nil)⟩,o.nd⟩;rw [qeA,qgA];omega
def spQ (K:FZ9){A:Type}[RpA A]{α β γ δ:Type}[Rp α][Rp β][Rp γ][Rp δ](m:T4 (List α) (List β) (List γ) (List δ)->A->Option (T4 (List α) (List β) (List γ) (List δ))):Sp:=fun vs H Q _ =>
 ∃ G v us p0 p1 p2 p3 f a r,vs=v::us/\Same G H/\OwnQ K G H v p0 p1 p2 p3 f/\RpA.rel K G us a/\m f a=some r /\
  ∀ G2 H2,Ext G (era H [p0,p1,p2,p3]) G2 H2->OwnQ K G2 H2 v p0 p1 p2 p3 r->Q .non H2
theorem spQ_len {A:Type}[RpA A]{m:T4 (List α) (List β) (List γ) (List δ)->A->Option (T4 (List α) (List β) (List γ) (List δ))}{vs:List V}{Q:VK}{E:XK}(h:spQ K m vs H Q E):vs.length=RpA.n A+1:=by
 obtain ⟨G,v,us,p0,p1,p2,p3,f,a,r,rfl,_,_,h,_⟩:=h;rw [qfA,RpA.len h]
theorem sv_callQ {A:Type}[RpA A]{mA:Option A}{ta:TA}{c:A}{m:T4 (List α) (List β) (List γ) (List δ)->A->Option (T4 (List α) (List β) (List γ) (List δ))}{r:T4 (List α) (List β) (List γ) (List δ)}(hσ:σ[i]? = some (some v))(o:OwnQ K G H v p0 p1 p2 p3 a)(ea:AV K ta σ G mA)(ha:mA=some c)(hm:m a c=some r)(s:Same G H)
  (k:∀ G1 H1 G2 H2,Ext G H G1 H1->Ext G1 (era H1 [p0,p1,p2,p3]) G2 H2->OwnQ K G2 H2 v p0 p1 p2 p3 r->rest D σ H2):Ds (Eb (J6 (spQ K m) [] E0 (Ab (GJ i) ta))) rest D σ H:=by
 refine ⟨_,hσ,?_⟩;refine ea G (.refl G) c ha H s _ fun us G1 H1 x ra=>?_;exact ⟨G1,v,us,p0,p1,p2,p3,a,c,r,qwA _,x.gh,o.ext x,ra,hm,fun G2 H2 x2 o2=>k G1 H1 G2 H2 x x2 o2⟩
theorem sv_ownQ (s:Same G H)(k:∀ v p0 p1 p2 p3 G2 H2,Ext G H G2 H2->H p0=none->H p1=none->H p2=none->H p3=none->OwnQ K G2 H2 v p0 p1 p2 p3 (T4.mk ([]:List α) ([]:List β) ([]:List γ) ([]:List δ))->rest D (σ.set i (some v)) H2) :
  Ds (LN (tTup (Ab (MG BZ) (Ab (MG BZ) (Ab (MG BZ) (Ab (MG BZ) BZ))))) (Es i)) rest D σ H:=by
 refine ⟨qtB _,fun p0 h0=>⟨qtB _,fun p1 h1=>⟨qtB _,fun p2 h2=>⟨qtB _,fun p3 h3=>⟨by show 4<=sizeLine;decide,fun t ht=>?_⟩⟩⟩⟩⟩;have x0:Ext G H G (upd H p0 (.lst [])):=.own s h0;have x1:=Ext.own (o:=.lst []) x0.gh h1;have x2:=Ext.own (o:=.lst []) x1.gh h2;have x3:=Ext.own (o:=.lst []) x2.gh h3;have x4:=Ext.new (o:=.tup [.ref p0,.ref p1,.ref p2,.ref p3]) x3.gh ht;have y1:=x0.trans x1;have y2:=y1.trans x2;have y3:=y2.trans x3;have g0:=s.free h0;have g1:=x0.gh.free h1;have g2:=x1.gh.free h2;have g3:=x2.gh.free h3;have q0:upd H p0 (.lst []) p0=some (.lst []):=AI;have r0:=((x1.trans x2).trans (x3.trans x4)).hh _ _ q0;have r1:=(x2.trans (x3.trans x4)).hh p1 _ AI;have r2:=(x3.trans x4).hh p2 _ AI;have r3:=x4.hh p3 _ AI;have n0:=(x1.hh.trans (x2.hh.trans x3.hh)) _ _ q0;have n1:=(x2.hh.trans x3.hh) p1 _ AI;have n2:=x3.hh p2 _ AI;have n3:upd (upd (upd (upd H p0 (.lst [])) p1 (.lst [])) p2 (.lst [])) p3 (.lst []) p3=some (.lst []):=AI;have d01:p0≠p1:=Ah q0 h1;have d02:p0≠p2:=Ah (x1.hh _ _ q0) h2;have d03:p0≠p3:=Ah ((x1.hh.trans x2.hh) _ _ q0) h3;have d12:p1≠p2:=Ah (AI (o:=.lst [])) h2;have d13:p1≠p3:=Ah (x2.hh p1 _ AI) h3;have d23:p2≠p3:=Ah (AI (o:=.lst [])) h3;have t0:p0≠t:=Ah n0 ht;have t1:p1≠t:=Ah n1 ht;have t2:p2≠t:=Ah n2 ht;have t3:p3≠t:=Ah n3 ht;refine k _ p0 p1 p2 p3 _ _ (y3.trans x4) h0 (x0.hh.free h1) (y1.hh.free h2) (y2.hh.free h3) ⟨⟨t,rfl,AI⟩,⟨[],rfl,by rw [AU t0];exact g0,r0,qtB _,.nil⟩,⟨[],rfl,by rw [AU t1];exact g1,r1,qtB _,.nil⟩,⟨[],rfl,by rw [AU t2];exact g2,r2,qtB _,.nil⟩,⟨[],rfl,by rw [AU t3];exact g3,r3,qtB _,.nil⟩,?_⟩;simp only [List.nodup_cons,qkA,qpB,or_false,not_or,not_false_eq_true,List.nodup_nil,and_true];exact ⟨⟨d01,d02,d03⟩,⟨d12,d13⟩,d23⟩
theorem OwnQ.tell {G0 H0:Hp}(o:OwnQ K G H v p0 p1 p2 p3 a)(x:Ext G0 H0 G H)(h0:H0 p0=none)(h1:H0 p1=none)(h2:H0 p2=none)(h3:H0 p3=none) :
  ∃ G',Same G G'/\Ext G0 H0 G' H/\Rp.rel K G' v a/\NewT K H0 G' v (n4 a (.ref p0) (.ref p1) (.ref p2) (.ref p3)):=by
 obtain ⟨⟨t,rfl,g⟩,⟨v0,b0⟩,⟨v1,b1⟩,⟨v2,b2⟩,⟨v3,b3⟩,nd⟩:=o;simp only [List.nodup_cons,qkA,qpB,or_false,not_or] at nd;obtain ⟨⟨d01,d02,d03⟩,⟨d12,d13⟩,d23,_⟩:=nd;have x0:=x.frz h0 b0.g b0.h;have e1:upd G p0 (.lst v0) p1=none:=by rw [AU (Ne.symm d01)];exact b1.g
 have x1:=x0.frz h1 e1 b1.h;have e2:upd (upd G p0 (.lst v0)) p1 (.lst v1) p2=none:=by rw [AU (Ne.symm d12),AU (Ne.symm d02)];exact b2.g
 have x2:=x1.frz h2 e2 b2.h;have e3:upd (upd (upd G p0 (.lst v0)) p1 (.lst v1)) p2 (.lst v2) p3=none:=by rw [AU (Ne.symm d23),AU (Ne.symm d13),AU (Ne.symm d03)];exact b3.g
 have x3:=x2.frz h3 e3 b3.h;have s0:Same G (upd G p0 (.lst v0)):=Same.new b0.g;have s1:Same _ (upd (upd G p0 (.lst v0)) p1 (.lst v1)):=Same.new e1;have s2:Same _ (upd (upd (upd G p0 (.lst v0)) p1 (.lst v1)) p2 (.lst v2)):=Same.new e2;have s3:Same _ (upd (upd (upd (upd G p0 (.lst v0)) p1 (.lst v1)) p2 (.lst v2)) p3 (.lst v3)):=Same.new e3;have sA:=s0.trans (s1.trans (s2.trans s3));have q0:=(s1.trans (s2.trans s3)) p0 (.lst v0) AI;have q1:=(s2.trans s3) p1 (.lst v1) AI;have q2:=s3 p2 (.lst v2) AI;have q3:upd (upd (upd (upd G p0 (.lst v0)) p1 (.lst v1)) p2 (.lst v2)) p3 (.lst v3) p3=some (.lst v3):=AI;refine ⟨_,sA,x3,⟨t,_,_,_,_,rfl,SqT.of (sA _ _ g),⟨p0,v0,rfl,.inl q0,b0.z,Paired.imp' (fun _ _ r=>Rp.mono sA r) b0.p⟩,⟨p1,v1,rfl,.inl q1,b1.z,Paired.imp' (fun _ _ r=>Rp.mono sA r) b1.p⟩,⟨p2,v2,rfl,.inl q2,b2.z,Paired.imp' (fun _ _ r=>Rp.mono sA r) b2.p⟩,⟨p3,v3,rfl,.inl q3,b3.z,Paired.imp' (fun _ _ r=>Rp.mono sA r) b3.p⟩⟩,t,rfl,SqT.of (sA _ _ g),fun u hu=>?_⟩;unfold n4 at hu;simp only [qkA,qpB,or_false] at hu;rcases hu with rfl|rfl|rfl|rfl
 ·exact ⟨p0,v0,rfl,h0,q0,Paired.length b0.p⟩
 ·exact ⟨p1,v1,rfl,h1,q1,Paired.length b1.p⟩
 ·exact ⟨p2,v2,rfl,h2,q2,Paired.length b2.p⟩
 ·exact ⟨p3,v3,rfl,h3,q3,Paired.length b3.p⟩
end
def asPr {α:Type}(t:Tp α):Option (α × α):=match t.l with
 | [a,b]=>some (a,b)
 | _=>none
section
variable {K:FZ9}{σ:St}{B G H G1 H1 H2 G0 H0:Hp}{α β γ δ:Type}[Rp α][Rp β][Rp γ][Rp δ]{te:TE}{v:V}{p:Addr}
theorem ev_pairT {m:Option (Tp α)}(e:EV K te σ G m):EV K te σ G (m.bind asPr):=by
 clear 7;obtain ⟨a,ha,hc⟩:=qaA.mp hc;refine e G1 s1 a ha H sH Q fun v G2 H2 x r=>k v G2 H2 x ?_;obtain ⟨t,xs,rfl,h,z,p⟩:=r;obtain ⟨l⟩:=a
 cases p with
 | nil=>cases hc
 | cons r1 p=>cases p with
  | nil=>cases hc
  | cons r2 p=>cases p with
   | nil=>cases hc;exact ⟨t,_,_,rfl,h,r1,r2⟩
   | cons=>cases hc
theorem Ext.alt (x:Ext G0 H0 G H)(h0:H0 p=none)(g:G p=none)(e:∀ b,b≠p->H2 b=H b):Ext G0 H0 G H2 :=
 ⟨x.gg,fun b o q=>by rw [e b (fun z=>by rw [z,g] at q;cases q)];exact x.gh b o q,fun b o q=>by rw [e b (fun z=>by rw [z,h0] at q;cases q)];exact x.hh b o q,x.no⟩
def okS1 (f:T4 (List α) (List β) (List γ) (List δ)):Option Unit :=
 if f.a.length+9<=sizeLine/\f.b.length+9<=sizeLine/\f.c.length+9<=sizeLine/\f.d.length+9<=sizeLine then some () else none
theorem okS1_spl {f:T4 (List α) (List β) (List γ) (List δ)}(h:okS1 f=some ()){x y z u:V}(N:NewT K B G v (n4 f x y z u))(e:Same G H):Spl K B H 9 v [x,y,z,u]:=by
 unfold okS1 at h;split at h
 case isFalse=>cases h
 rename_i c;refine spl_of N e fun u hu=>?_;unfold n4 at hu;simp only [qkA,qpB,or_false] at hu;rcases hu with rfl|rfl|rfl|rfl
 ·exact c.1
 ·exact c.2.1
 ·exact c.2.2.1
 ·exact c.2.2.2
end
end L2
namespace My
open PySem PySem.Spec PyProof.Rows L2
def Bt (AO:Int):Option (List Str) :=
 (some ("abcdefghijklmnopqrstuvwxyz" : Str)).bind fun row_ =>
 (some [AO,((AO+(1:Int))+((AO / (26:Int)) % (8:Int))),((AO+(9:Int))+((AO / (208:Int)) % (8:Int))),((AO+(17:Int))+((AO / (1664:Int)) % (9:Int)))]).bind fun Lc =>
 ((some Lc).bind fun t19=>C9 (fun (at_:Int)=>((some row_).bind fun t17=>(some (at_ % (26:Int))).bind fun t18=>(atI t17.cps.toList t18).bind fun z=>some (⟨#[z]⟩:Str))) t19)
abbrev Ev (x:Int × Unit):Option (List Str):=Bt x.1
def CC (AO:Int):Option Int :=
 (some (decide (((AO / (8:Int)) % (4:Int))=(3:Int)))).bind fun b1=>cond b1
  ((some ((1:Int)+(AO % (8:Int)))))
  ((some ((1:Int)+(AO % (4:Int)))))
abbrev FP (x:Int × Unit):Option Int:=CC x.1
def Bb (AO:Int)(E6:Int):Option (List Int) :=
 (some ([]:List Int)).bind fun Fi =>
 ((some E6).bind fun t9=>Hm 0 t9).bind fun as10=>(Ck (S:=(Int × (List Int))) (ρ:=(List Int)) (fun (k_:Int) s17 =>
   (some (decide ((s17.1 % (2:Int))=(1:Int)))).bind fun b32=>(cond b32
    ((some k_).bind fun a41=>(D1 s17.2 a41).bind fun z49 =>
    some z49)
    (some s17.2)).bind fun s37 =>
   (some (s17.1 / (2:Int))).bind fun AO =>
   some (Fl.nx (AO,s37))) as10 (AO,Fi)).bind fun fl12=>match fl12 with
  | .nx s17 =>
   (some s17.2)
  | .rt r=>some r
  | .bk _=>none
abbrev E1 (x:Int × Int × Unit):Option (List Int):=Bb x.1 x.2.1
def Af (script_:Scr)(k_:Int):Option Int :=
 (some (decide (k_<(script_.l.length:Int)))).bind fun b1=>cond b1
  (((some script_).bind fun t6=>(some k_).bind fun t7=>atI t6.l t7))
  ((some ((k_ * (7919:Int))+(5:Int))).bind fun BP =>
  (some (decide ((0:Int)<(script_.l.length:Int)))).bind fun b19=>(cond b19
   ((((((some script_).bind fun t32=>((some (k_ * (7:Int))).bind fun t30=>(some (script_.l.length:Int)).bind fun t31=>IX t30 t31).bind fun t33=>atI t32.l t33).bind fun t34=>(some (t34 * (48271:Int)))).bind fun t35=>(some (t35+(k_ * (7919:Int))))).bind fun t36=>(some (t36 % (2147483647:Int)))).bind fun BP =>
   some BP)
   (some BP)).bind fun s24 =>
  (((some s24).bind fun t46=>(some s24).bind fun t47=>IT t46 t47).bind fun t48=>(some (t48 % (2147483629:Int)))))
abbrev Ay (x:Scr × Int × Unit):Option Int:=Af x.1 x.2.1
def Cq (BF:(List Str))(KO:Int):Option Str :=
 (some ("" : Str)).bind fun text_ =>
 ((some BF).bind fun t7=>Lm t7).bind fun as8=>(Ck (S:=(Int × Str)) (ρ:=Str) (fun (letter_:Str) s15 =>
   (some (decide ((s15.1 % (2:Int))=(1:Int)))).bind fun b32=>(cond b32
    (((some s15.2).bind fun t43=>(some letter_).bind fun t44=>Ja t43 t44).bind fun text_ =>
    some text_)
    (some s15.2)).bind fun s37 =>
   (some (s15.1 / (2:Int))).bind fun KO =>
   some (Fl.nx (KO,s37))) as8 (KO,text_)).bind fun fl10=>match fl10 with
  | .nx s15 =>
   (some s15.2)
  | .rt r=>some r
  | .bk _=>none
abbrev IJ (x:(List Str) × Int × Unit):Option Str:=Cq x.1 x.2.1
def Bw (script_:Scr)(BF:(List Str)):Option (T4 (List Str) (List (Int × Int)) (List Int) (List (List Int))) :=
 (((some script_).bind fun t1=>(some (1:Int)).bind fun t2=>Af t1 t2).bind fun t3=>CC t3).bind fun E6 =>
 (some ((3:Int) * E6)).bind fun K6 =>
 (((((some script_).bind fun t16=>(some (2:Int)).bind fun t17=>Af t16 t17).bind fun t18=>(some (t18 / (25:Int)))).bind fun t19=>(some (t19 % (4:Int)))).bind fun t20=>(some (decide (t20=(3:Int))))).bind fun b21=>(cond b21
  (((some E6).bind fun t32=>(some E6).bind fun t33=>IT t32 t33).bind fun K6 =>
  some K6)
  (some K6)).bind fun s26 =>
 (some ([]:List (Int × Int))).bind fun ways_ =>
 ((((some script_).bind fun t51=>(some (2:Int)).bind fun t52=>Af t51 t52).bind fun t53=>(some ((if s26<(24:Int) then s26 else (24:Int))+(1:Int))).bind fun t54=>IX t53 t54).bind fun t55=>Hm 0 t55).bind fun as56=>(Ck (S:=((List (Int × Int)))) (ρ:=(T4 (List Str) (List (Int × Int)) (List Int) (List (List Int)))) (fun (k_:Int) s63 =>
   ((some script_).bind fun t78=>(some ((8:Int)+k_)).bind fun t79=>Af t78 t79).bind fun AO =>
   (((some (AO / (9:Int))).bind fun t86=>(some E6).bind fun t87=>IX t86 t87).bind fun t90=>((some AO).bind fun t88=>(some E6).bind fun t89=>IX t88 t89).bind fun t91=>(some (t90,t91))).bind fun way_ =>
   (some (decide (k_<E6))).bind fun b98=>(cond b98
    (((some k_).bind fun t112=>((some AO).bind fun t109=>(some E6).bind fun t110=>IX t109 t110).bind fun t113=>some (t112,t113)).bind fun way_ =>
    some way_)
    (some way_)).bind fun s103 =>
   (some (!memE s103 s63)).bind fun b123=>cond b123
    ((some s103).bind fun a128=>(D1 s63 a128).bind fun z136 =>
    some (Fl.nx z136))
    (some (Fl.nx s63))) as56 ways_).bind fun fl58=>match fl58 with
  | .nx s63 =>
   (((some E6).bind fun t143=>Hm 0 t143).bind fun t153=>C9 (fun (k_:Int)=>((some BF).bind fun t151=>(((some script_).bind fun t148=>(some ((32:Int)+k_)).bind fun t149=>Af t148 t149).bind fun t150=>(some (t150 % (16:Int)))).bind fun t152=>Cq t151 t152)) t153).bind fun Ii =>
   (((some script_).bind fun t160=>(some (3:Int)).bind fun t161=>Af t160 t161).bind fun t162=>(some E6).bind fun t163=>Bb t162 t163).bind fun F6 =>
   (((((some script_).bind fun t170=>(some (3:Int)).bind fun t171=>Af t170 t171).bind fun t172=>(some (t172 / (256:Int)))).bind fun t173=>(some (t173 % (2:Int)))).bind fun t174=>(some (decide (t174=(1:Int))))).bind fun b175=>(cond b175
    (((some F6).bind fun t186=>sortRO t186).bind fun F6 =>
    some F6)
    (some F6)).bind fun s180 =>
   (((((some script_).bind fun t210=>(some (4:Int)).bind fun t211=>Af t210 t211).bind fun t212=>(some (t212 % (4:Int)))).bind fun t213=>Hm 0 t213).bind fun t222=>C9 (fun (k_:Int)=>(((some script_).bind fun t218=>(some ((5:Int)+k_)).bind fun t219=>Af t218 t219).bind fun t220=>(some (s63.length:Int)).bind fun t221=>Bb t220 t221)) t222).bind fun marks_ =>
   (some (T4.mk Ii s63 s180 marks_))
  | .rt r=>some r
  | .bk _=>none
abbrev Er (x:Scr × (List Str) × Unit):Option (T4 (List Str) (List (Int × Int)) (List Int) (List (List Int))):=Bw x.1 x.2.1
def BA (machine_here_:(T4 (List Str) (List (Int × Int)) (List Int) (List (List Int)))):Option Str :=
 (some ([]:List Str)).bind fun parts_ =>
 (some machine_here_.a).bind fun as9=>(Ck (S:=((List Str))) (ρ:=Str) (fun (shown_:Str) s16 =>
   ((some ("state " : Str)).bind fun t30=>((some (!decide (shown_=("" : Str)))).bind fun t29=>cond t29 (some shown_) (some ("-" : Str))).bind fun t31=>Ja t30 t31).bind fun a32=>(D1 s16 a32).bind fun z40 =>
   some (Fl.nx z40)) as9 parts_).bind fun fl11=>match fl11 with
  | .nx s16 =>
   (some machine_here_.b).bind fun as45=>(Ck (S:=((List Str))) (ρ:=Str) (fun (way_:(Int × Int)) s52 =>
     ((((some ("way " : Str)).bind fun t66=>((some way_.1).bind fun t65=>DE t65).bind fun t67=>Ja t66 t67).bind fun t68=>(some (" " : Str)).bind fun t69=>Ja t68 t69).bind fun t71=>((some way_.2).bind fun t70=>DE t70).bind fun t72=>Ja t71 t72).bind fun a73=>(D1 s52 a73).bind fun z81 =>
     some (Fl.nx z81)) as45 s16).bind fun fl47=>match fl47 with
    | .nx s52 =>
     (some machine_here_.c).bind fun as86=>(Ck (S:=((List Str))) (ρ:=Str) (fun (state_:Int) s93 =>
       ((some ("from " : Str)).bind fun t107=>((some state_).bind fun t106=>DE t106).bind fun t108=>Ja t107 t108).bind fun a109=>(D1 s93 a109).bind fun z117 =>
       some (Fl.nx z117)) as86 s52).bind fun fl88=>match fl88 with
      | .nx s93 =>
       (some machine_here_.d).bind fun as122=>(Ck (S:=((List Str))) (ρ:=Str) (fun (Co:(List Int)) s129 =>
         ((some (" " : Str)).bind fun t150=>((some [("mark" : Str)]).bind fun t148=>((some Co).bind fun t147=>C9 (fun (k_:Int)=>((some k_).bind fun t146=>DE t146)) t147).bind fun t149=>KY t148 t149).bind fun t151=>Ee t150 t151).bind fun a152=>(D1 s129 a152).bind fun z160 =>
         some (Fl.nx z160)) as122 s93).bind fun fl124=>match fl124 with
        | .nx s129 =>
         ((some ("; " : Str)).bind fun t168=>(some s129).bind fun t169=>Ee t168 t169)
        | .rt r=>some r
        | .bk _=>none
      | .rt r=>some r
      | .bk _=>none
    | .rt r=>some r
    | .bk _=>none
  | .rt r=>some r
  | .bk _=>none
abbrev DD (x:(T4 (List Str) (List (Int × Int)) (List Int) (List (List Int))) × Unit):Option Str:=BA x.1
def Bf (CA:Str):Option Str :=
 (some (decide (CA=("" : Str)))).bind fun b1=>cond b1
  ((some ("-" : Str)))
  ((some CA))
abbrev Em (x:Str × Unit):Option Str:=Bf x.1
def Al (KZ:D):Option (List Str) :=
 (((some KZ).bind fun t1=>iterD t1).bind fun t8=>C9 (fun (BP:D)=>(((some BP).bind fun t6=>IC t6).bind fun t7=>DE t7)) t8)
abbrev D5 (x:D × Unit):Option (List Str):=Al x.1
def B0 (machine_:(T4 (List Str) (List (Int × Int)) (List Int) (List (List Int)))):Option Str :=
 ((some machine_.a).bind fun t8=>C9 (fun (CA:Str)=>((((some CA).bind fun t5=>Bf t5).bind fun t6=>(some [t6])).bind fun t7=>(some (("state" : Str)::t7)))) t8).bind fun rows_ =>
 ((some machine_.b).bind fun t32=>C9 (fun (way_:(Int × Int))=>((some [("way" : Str)]).bind fun t30=>((some (ToD.to way_)).bind fun t29=>Al t29).bind fun t31=>KY t30 t31)) t32).bind fun a33=>(extO rows_ a33).bind fun z41 =>
 ((some machine_.c).bind fun t57=>C9 (fun (Jm:Int)=>((((some Jm).bind fun t54=>DE t54).bind fun t55=>(some [t55])).bind fun t56=>(some (("from" : Str)::t56)))) t57).bind fun a58=>(extO z41 a58).bind fun z66 =>
 ((some machine_.d).bind fun t82=>C9 (fun (Co:(List Int))=>((some [("mark" : Str)]).bind fun t80=>((some (ToD.to Co)).bind fun t79=>Al t79).bind fun t81=>KY t80 t81)) t82).bind fun a83=>(extO z66 a83).bind fun z91 =>
 ((some ("; " : Str)).bind fun t109=>((some z91).bind fun t108=>C9 (fun (row_:(List Str))=>((some (" " : Str)).bind fun t106=>(some row_).bind fun t107=>Ee t106 t107)) t108).bind fun t110=>Ee t109 t110)
abbrev CO (x:(T4 (List Str) (List (Int × Int)) (List Int) (List (List Int))) × Unit):Option Str:=B0 x.1
def BI (thing_:Str):Option Unit :=
 (some (!true)).bind fun b1=>cond b1
  (none)
  (some ())
abbrev Cp (x:Str × Unit):Option Unit:=BI x.1
def Bh (thing_:Str):Option Bool :=
 (some (!true)).bind fun b1=>cond b1
  ((some false))
  ((some ("" : Str)).bind fun KH =>
  (some (FY thing_)).bind fun as17=>(Ck (S:=(Str)) (ρ:=Bool) (fun (lamp_:Str) s24 =>
    (some ((decide (lamp_.cps.toList<("a" : Str).cps.toList)) || ((decide (("z" : Str).cps.toList<lamp_.cps.toList)) || (!decide (s24.cps.toList<lamp_.cps.toList))))).bind fun b39=>cond b39
     ((some false).bind fun rr49=>some (Fl.rt rr49))
     ((some lamp_).bind fun KH =>
     some (Fl.nx KH))) as17 KH).bind fun fl19=>match fl19 with
   | .nx s24 =>
    (some true)
   | .rt r=>some r
   | .bk _=>none)
abbrev EL (x:Str × Unit):Option Bool:=Bh x.1
def Bv (word_:Str):Option Str :=
 (some (decide (word_=("-" : Str)))).bind fun b1=>cond b1
  ((some ("" : Str)))
  (((some (decide (word_=("" : Str)))).bind fun t13=>cond t13 (some true) (((some word_).bind fun t11=>Bh t11).bind fun t12=>(some (!t12)))).bind fun b14=>cond b14
   (none)
   ((some word_)))
abbrev Ep (x:Str × Unit):Option Str:=Bv x.1
def BG (word_:Str):Option Int :=
 ((some (decide (word_=("" : Str)))).bind fun t9=>cond t9 (some true) ((some (decide ((60:Int)<(word_.length:Int)))).bind fun t8=>cond t8 (some true) ((((some (FY word_)).bind fun t5=>C9 (fun (Ls:Str)=>(some (inS Ls ("0123456789" : Str)))) t5).bind fun t6=>(some (t6.all id))).bind fun t7=>(some (!t7))))).bind fun b10=>cond b10
  (none)
  (((some word_).bind fun t15=>intO t15))
abbrev Db (x:Str × Unit):Option Int:=BG x.1
def BH (words_:(List Str)):Option (List Int) :=
 ((some words_).bind fun t6=>C9 (fun (word_:Str)=>((some word_).bind fun t5=>BG t5)) t6)
abbrev D2 (x:(List Str) × Unit):Option (List Int):=BH x.1
def BW (machine_:(T4 (List Str) (List (Int × Int)) (List Int) (List (List Int))))(words_:List Str):Option (T4 (List Str) (List (Int × Int)) (List Int) (List (List Int))) :=
 ((((some words_).bind fun t1=>(some (0:Int)).bind fun t2=>atI t1 t2).bind fun t3=>(some (decide (t3=("state" : Str))))).bind fun t4=>cond t4 (some (decide ((words_.length:Int)=(2:Int)))) (some false)).bind fun b5=>cond b5
  ((((some words_).bind fun t10=>(some (1:Int)).bind fun t11=>atI t10 t11).bind fun t12=>Bv t12).bind fun x=>(D1 machine_.a x).bind fun l=>some (T4.mk l machine_.b machine_.c machine_.d))
  ((((some words_).bind fun t1=>(some (0:Int)).bind fun t2=>atI t1 t2).bind fun t3=>(some (decide (t3=("way" : Str))))).bind fun b5=>cond b5
  (((((some (FD words_ (some (1:Int)) none)).bind fun t9=>BH t9).bind fun t10=>(some (Tp.mk t10))).bind asPr).bind fun x=>(D1 machine_.b x).bind fun l=>some (T4.mk machine_.a l machine_.c machine_.d))
  (((((some words_).bind fun t1=>(some (0:Int)).bind fun t2=>atI t1 t2).bind fun t3=>(some (decide (t3=("from" : Str))))).bind fun t4=>cond t4 (some (decide ((words_.length:Int)=(2:Int)))) (some false)).bind fun b5=>cond b5
  ((((some words_).bind fun t10=>(some (1:Int)).bind fun t11=>atI t10 t11).bind fun t12=>BG t12).bind fun x=>(D1 machine_.c x).bind fun l=>some (T4.mk machine_.a machine_.b l machine_.d))
  ((((some words_).bind fun t1=>(some (0:Int)).bind fun t2=>atI t1 t2).bind fun t3=>(some (decide (t3=("mark" : Str))))).bind fun b5=>cond b5
  (((some (FD words_ (some (1:Int)) none)).bind fun t9=>BH t9).bind fun x=>(D1 machine_.d x).bind fun l=>some (T4.mk machine_.a machine_.b machine_.c l))
  none)))
abbrev EJ (machine_:(T4 (List Str) (List (Int × Int)) (List Int) (List (List Int))))(x:List Str × Unit):Option (T4 (List Str) (List (Int × Int)) (List Int) (List (List Int))):=BW machine_ x.1
def Ai (thing_:Int)(Cn:Int):Option Bool :=
 ((some true).bind fun t6=>cond t6 ((some (!false)).bind fun t5=>cond t5 ((some (0:Int)).bind fun t2=>(some thing_).bind fun t3=>cond (decide (t2<=t3)) ((some Cn).bind fun t4=>some (decide (t3<t4))) (some false)) (some false)) (some false))
abbrev Bn (x:Int × Int × Unit):Option Bool:=Ai x.1 x.2.1
def Ak (thing_:(List Int))(Cn:Int):Option Bool :=
 ((some (!true)).bind fun t10=>cond t10 (some true) ((((some thing_).bind fun t7=>C9 (fun (BP:Int)=>((some BP).bind fun t5=>(some Cn).bind fun t6=>Ai t5 t6)) t7).bind fun t8=>(some (t8.all id))).bind fun t9=>(some (!t9)))).bind fun b11=>cond b11
  ((some false))
  ((((some thing_).bind fun t21=>Le t21).bind fun t22=>(some (decide (t22=(thing_.length:Int))))))
abbrev CD (x:(List Int) × Int × Unit):Option Bool:=Ak x.1 x.2.1
def CY (thing_:(List (List Int)))(many_ways_:Int):Option Bool :=
 (some ((!true) || (decide ((3:Int)<(thing_.length:Int))))).bind fun b1=>cond b1
  ((some false))
  ((((some thing_).bind fun t17=>C9 (fun (Co:(List Int))=>((some Co).bind fun t15=>(some many_ways_).bind fun t16=>Ak t15 t16)) t17).bind fun t18=>(some (t18.all id))))
abbrev Fq (x:(List (List Int)) × Int × Unit):Option Bool:=CY x.1 x.2.1
def Bs (thing_:(List Str)):Option Bool :=
 (some ((!true) || ((decide ((thing_.length:Int)=(0:Int))) || (decide ((8:Int)<(thing_.length:Int)))))).bind fun b1=>cond b1
  ((some false))
  ((((some thing_).bind fun t16=>C9 (fun (CA:Str)=>((some CA).bind fun t15=>Bh t15)) t16).bind fun t17=>(some (t17.all id))))
abbrev En (x:(List Str) × Unit):Option Bool:=Bs x.1
def DN (thing_:(Int × Int))(Cn:Int):Option Bool :=
 (some ((!true) || (!decide ((2:Int)=(2:Int))))).bind fun b1=>cond b1
  ((some false))
  ((((some thing_.1).bind fun t11=>(some Cn).bind fun t12=>Ai t11 t12).bind fun t15=>cond t15 ((some thing_.2).bind fun t13=>(some Cn).bind fun t14=>Ai t13 t14) (some false)))
abbrev J9 (x:(Int × Int) × Int × Unit):Option Bool:=DN x.1 x.2.1
def Ct (thing_:(List (Int × Int)))(Cn:Int):Option Bool :=
 (some ((!true) || (decide ((24:Int)<(thing_.length:Int))))).bind fun b1=>cond b1
  ((some false))
  (((((some thing_).bind fun t17=>C9 (fun (way_:(Int × Int))=>((some way_).bind fun t15=>(some Cn).bind fun t16=>DN t15 t16)) t17).bind fun t18=>(some (t18.all id))).bind fun t21=>cond t21 (((some thing_).bind fun t19=>GD t19).bind fun t20=>(some (decide (t20=(thing_.length:Int))))) (some false)))
abbrev Gn (x:(List (Int × Int)) × Int × Unit):Option Bool:=Ct x.1 x.2.1
def Bo (thing_:(T4 (List Str) (List (Int × Int)) (List Int) (List (List Int)))):Option Bool :=
 (some ((!true) || (!decide ((4:Int)=(4:Int))))).bind fun b1=>cond b1
  ((some false))
  ((some thing_.a).bind fun lit_ =>
  (some thing_.b).bind fun ways_ =>
  ((((some lit_).bind fun t23=>Bs t23).bind fun t24=>(some (!t24))).bind fun t28=>cond t28 (some true) (((some ways_).bind fun t25=>(some (lit_.length:Int)).bind fun t26=>Ct t25 t26).bind fun t27=>(some (!t27)))).bind fun b29=>cond b29
   ((some false))
   ((((some thing_.c).bind fun t39=>(some (lit_.length:Int)).bind fun t40=>Ak t39 t40).bind fun t43=>cond t43 ((some thing_.d).bind fun t41=>(some (ways_.length:Int)).bind fun t42=>CY t41 t42) (some false))))
abbrev FG (x:(T4 (List Str) (List (Int × Int)) (List Int) (List (List Int))) × Unit):Option Bool:=Bo x.1
def BX (text_:Str):Option (T4 (List Str) (List (Int × Int)) (List Int) (List (List Int))) :=
 ((some text_).bind fun t1=>BI t1).bind fun a2 =>
 ((some text_).bind fun t1=>(some ("; " : Str)).bind fun t2=>Hi t1 t2).bind fun as3 =>
 (Ck (S:=(T4 (List Str) (List (Int × Int)) (List Int) (List (List Int)))) (ρ:=Unit) (fun (row_:Str) s10=>(((some row_).bind fun t23=>(some (" " : Str)).bind fun t24=>Hi t23 t24).bind fun c=>(some ()).bind fun r=>some (c,r)).bind fun ca=>(EJ s10 ca).bind fun r=>some (Fl.nx r)) as3 (T4.mk [] [] [] [])).bind fun fl5=>match fl5 with
  | .nx machine_ =>
   ((((some machine_).bind fun t7=>Bo t7).bind fun t8=>(some (!t8))).bind fun t11=>cond t11 (some true) (((some machine_).bind fun t9=>B0 t9).bind fun t10=>(some (!decide (t10=text_))))).bind fun b12=>cond b12
   none
   (some machine_)
  | .rt _=>none
  | .bk _=>none
abbrev D7 (x:Str × Unit):Option (T4 (List Str) (List (Int × Int)) (List Int) (List (List Int))):=BX x.1
def Au (found_:D)(due_:D):Option Bool :=
 ((some (!(isK "list" found_))).bind fun t6=>cond t6 (some true) (((some found_).bind fun t1=>lenD t1).bind fun t4=>((some due_).bind fun t3=>lenD t3).bind fun t5=>(some (!decide (t4=t5))))).bind fun b7=>cond b7
  ((some false))
  ((((some due_).bind fun t17=>lenD t17).bind fun t18=>Hm 0 t18).bind fun as19=>(Ck (S:=Unit) (ρ:=Bool) (fun (k_:Int) s26 =>
    (((some due_).bind fun t39=>(some k_).bind fun t40=>atD t39 t40).bind fun t41=>(some (isK "str" t41))).bind fun b42=>cond b42
     ((((((some found_).bind fun t47=>(some k_).bind fun t48=>atD t47 t48).bind fun t49=>(some (isK "str" t49))).bind fun t50=>(some (!t50))).bind fun t65=>cond t65 (some true) ((((some found_).bind fun t57=>(some k_).bind fun t58=>atD t57 t58).bind fun t59=>L9 t59).bind fun t63=>(((some due_).bind fun t60=>(some k_).bind fun t61=>atD t60 t61).bind fun t62=>L9 t62).bind fun t64=>(some (!decide (t63=t64))))).bind fun b66=>cond b66
      ((some false).bind fun rr76=>some (Fl.rt rr76))
      (some (Fl.nx ())))
     ((((((some found_).bind fun t78=>(some k_).bind fun t79=>atD t78 t79).bind fun t80=>(some (isK "int" t80))).bind fun t81=>(some (!t81))).bind fun t100=>cond t100 (some true) ((((some found_).bind fun t82=>(some k_).bind fun t83=>atD t82 t83).bind fun t84=>(some (isK "bool" t84))).bind fun t99=>cond t99 (some true) ((((some found_).bind fun t91=>(some k_).bind fun t92=>atD t91 t92).bind fun t93=>L9 t93).bind fun t97=>(((some due_).bind fun t94=>(some k_).bind fun t95=>atD t94 t95).bind fun t96=>L9 t96).bind fun t98=>(some (!decide (t97=t98)))))).bind fun b101=>cond b101
      ((some false).bind fun rr111=>some (Fl.rt rr111))
      (some (Fl.nx ())))) as19 ()).bind fun fl21=>match fl21 with
   | .nx s26 =>
    (some true)
   | .rt r=>some r
   | .bk _=>none)
abbrev CJ (x:D × D × Unit):Option Bool:=Au x.1 x.2.1
def BE (found_:(T4 (List Str) (List (Int × Int)) (List Int) (List (List Int))))(due_:(T4 (List Str) (List (Int × Int)) (List Int) (List (List Int)))):Option Bool :=
 (some ((!true) || ((!decide ((4:Int)=(4:Int))) || (!true)))).bind fun b1=>cond b1
  ((some false))
  (((((some (ToD.to found_.a)).bind fun t11=>(some (ToD.to due_.a)).bind fun t12=>Au t11 t12).bind fun t13=>(some (!t13))).bind fun t18=>cond t18 (some true) ((((some (ToD.to found_.c)).bind fun t14=>(some (ToD.to due_.c)).bind fun t15=>Au t14 t15).bind fun t16=>(some (!t16))).bind fun t17=>cond t17 (some true) (some (!decide ((found_.b.length:Int)=(due_.b.length:Int)))))).bind fun b19=>cond b19
   ((some false))
   (((some (due_.b.length:Int)).bind fun t29=>Hm 0 t29).bind fun as30=>(Ck (S:=Unit) (ρ:=Bool) (fun (k_:Int) s37 =>
     (((((some found_.b).bind fun t50=>(some k_).bind fun t51=>atI t50 t51).bind fun t52=>(some true)).bind fun t53=>(some (!t53))).bind fun t73=>cond t73 (some true) ((((((((some found_.b).bind fun t56=>(some k_).bind fun t57=>atI t56 t57).bind fun t58=>(some (ToD.to t58))).bind fun t59=>JU t59).bind fun t60=>(some t60.l)).bind fun t61=>(some (ToD.to t61))).bind fun t70=>((((((some due_.b).bind fun t64=>(some k_).bind fun t65=>atI t64 t65).bind fun t66=>(some (ToD.to t66))).bind fun t67=>JU t67).bind fun t68=>(some t68.l)).bind fun t69=>(some (ToD.to t69))).bind fun t71=>Au t70 t71).bind fun t72=>(some (!t72)))).bind fun b74=>cond b74
      ((some false).bind fun rr84=>some (Fl.rt rr84))
      (some (Fl.nx ()))) as30 ()).bind fun fl32=>match fl32 with
    | .nx s37 =>
     (some ((!true) || (!decide ((found_.d.length:Int)=(due_.d.length:Int))))).bind fun b90=>cond b90
      ((some false))
      (((some (due_.d.length:Int)).bind fun t100=>Hm 0 t100).bind fun as101=>(Ck (S:=Unit) (ρ:=Bool) (fun (k_:Int) s108 =>
        (((((some found_.d).bind fun t121=>(some k_).bind fun t122=>atI t121 t122).bind fun t123=>(some (ToD.to t123))).bind fun t127=>(((some due_.d).bind fun t124=>(some k_).bind fun t125=>atI t124 t125).bind fun t126=>(some (ToD.to t126))).bind fun t128=>Au t127 t128).bind fun t129=>(some (!t129))).bind fun b130=>cond b130
         ((some false).bind fun rr140=>some (Fl.rt rr140))
         (some (Fl.nx ()))) as101 ()).bind fun fl103=>match fl103 with
       | .nx s108 =>
        (some true)
       | .rt r=>some r
       | .bk _=>none)
    | .rt r=>some r
    | .bk _=>none))
abbrev Cf (x:(T4 (List Str) (List (Int × Int)) (List Int) (List (List Int))) × (T4 (List Str) (List (Int × Int)) (List Int) (List (List Int))) × Unit):Option Bool:=BE x.1 x.2.1
def Kj (script_:Scr):Option Bool :=
 ((((some script_).bind fun t1=>(some (0:Int)).bind fun t2=>Af t1 t2).bind fun t3=>(some (t3 % (14976:Int)))).bind fun t4=>Bt t4).bind fun BF =>
 ((some script_).bind fun t11=>(some BF).bind fun t12=>Bw t11 t12).bind fun machine_here_ =>
 ((((some script_).bind fun t19=>(some (40:Int)).bind fun t20=>Af t19 t20).bind fun t21=>(some (t21 % (9:Int)))).bind fun t22=>(some (decide (t22=(4:Int))))).bind fun b23=>(cond b23
  ((((some script_).bind fun t40=>(some (41:Int)).bind fun t41=>Af t40 t41).bind fun t42=>(some (t42 % (24:Int)))).bind fun K2 =>
  (((some (24:Int)).bind fun t49=>Hm 0 t49).bind fun t54=>C9 (fun (k_:Int)=>(some (((k_+K2) % (8:Int)),(((k_ * (3:Int))+(k_ / (8:Int))) % (8:Int))))) t54).bind fun ways_ =>
  (((some (24:Int)).bind fun t61=>Hm 0 t61).bind fun t66=>C9 (fun (k_:Int)=>(some k_)) t66).bind fun JX =>
  (((some (FD machine_here_.a none (some (1:Int)))).bind fun t73=>(some (8:Int)).bind fun t74=>repL t73 t74).bind fun t78=>(((some (FD JX (some K2) none)).bind fun t75=>(some (FD JX none (some K2))).bind fun t76=>KY t75 t76).bind fun t77=>(some [t77,([]:List Int),(E3 JX none none (-1))])).bind fun t79=>(some (T4.mk t78 ways_ [(7:Int),(0:Int),(6:Int),(1:Int),(5:Int),(2:Int),(4:Int),(3:Int)] t79))).bind fun machine_here_ =>
  some machine_here_)
  (some machine_here_)).bind fun s28 =>
 ((some s28).bind fun t89=>BA t89).bind fun text_ =>
 (((some s28.d).bind fun t100=>C9 (fun (Co:(List Int))=>(some Co)) t100).bind fun t101=>(some (T4.mk s28.a s28.b s28.c t101))).bind fun HH =>
 ((some HH).bind fun t108=>B0 t108).bind fun found_ =>
 (some ((!true) || ((!decide (found_=text_)) || (!decide (HH=s28))))).bind fun b115=>cond b115
  ((some false))
  (((some text_).bind fun t125=>BX t125).bind fun LM =>
  (((some LM).bind fun t132=>(some s28).bind fun t133=>BE t132 t133).bind fun t134=>(some (!t134))).bind fun b135=>cond b135
   ((some false))
   ((okS1 LM).bind fun _=>(((((some text_).bind fun t145=>BX t145).bind fun t146=>(some s28).bind fun t147=>BE t146 t147).bind fun t150=>cond t150 (((some HH).bind fun t148=>B0 t148).bind fun t149=>(some (decide (t149=text_)))) (some false)))))
abbrev mm_law (x:Scr × Unit):Option Bool:=Kj x.1
def top (i:Nat):Stmt:=PySem.Challenge.pw_lassoscribe_k88_machines_written.main.body.getD i (.Pass ⟨0,0,0,0⟩)
abbrev Eo:Stmt:=top 4
abbrev Cg:Stmt:=top 9
abbrev CT:Stmt:=top 10
abbrev IL:Stmt:=top 11
abbrev Dr:Stmt:=top 12
abbrev Fc:Stmt:=top 13
abbrev Ek:Stmt:=top 14
abbrev EG:Stmt:=top 15
abbrev Dn:Stmt:=top 19
abbrev DR:Stmt:=top 20
abbrev DZ:Stmt:=top 21
abbrev C2:Stmt:=top 22
abbrev Dy:Stmt:=top 23
abbrev Dz:Stmt:=top 24
abbrev DW:Stmt:=top 25
abbrev GH:Stmt:=top 26
abbrev Dc:Stmt:=top 27
abbrev Fb:Stmt:=top 29
abbrev Dw:Stmt:=top 30
abbrev GR:Stmt:=top 31
abbrev ED:Stmt:=top 32
abbrev ET:Stmt:=top 33
abbrev Dm:Stmt:=top 34
abbrev CU:Stmt:=top 35
abbrev EE:Stmt:=top 36
abbrev Cs:Stmt:=top 37
abbrev s_law:Stmt:=top 38
structure Txt (mg:Str->Option Value):Prop where
 ValueError_:mg "ValueError" = none
 all_:mg "all" = none
 bool_:mg "bool" = none
 int_:mg "int" = none
 isinstance_:mg "isinstance" = none
 len_:mg "len" = none
 list_:mg "list" = none
 min_:mg "min" = none
 range_:mg "range" = none
 set_:mg "set" = none
 sorted_:mg "sorted" = none
 str_:mg "str" = none
 tuple_:mg "tuple" = none
 MOST_STATES:∃ t,mg "MOST_STATES" = some (.int 8 t)
 MOST_WAYS:∃ t,mg "MOST_WAYS" = some (.int 24 t)
 MOST_MARKS:∃ t,mg "MOST_MARKS" = some (.int 3 t)
 FIGURES:∃ t,mg "FIGURES" = some (.str "0123456789" t)
 MOST_FIGURES:∃ t,mg "MOST_FIGURES" = some (.int 60 t)
theorem DF:FnScope ["thing","last","lamp"] ["thing"] (AE Eo):=scm
theorem FQ:FnScope ["thing","count"] ["thing","count"] (AE Cg):=scm
theorem FB:FnScope ["thing","count"] ["thing","count"] (AE CT):=scm
theorem MD:FnScope ["thing","count"] ["thing","count"] (AE IL):=scm
theorem Hg:FnScope ["thing"] ["thing"] (AE Dr):=scm
theorem Kk:FnScope ["thing","count"] ["thing","count"] (AE Fc):=scm
theorem Jc:FnScope ["thing","many_ways"] ["thing","many_ways"] (AE Ek):=scm
theorem Dt:FnScope ["thing","lit","ways"] ["thing"] (AE EG):=scm
theorem IP:FnScope ["moment"] ["moment"] (AE Dn):=scm
theorem Gz:FnScope ["numbers"] ["numbers"] (AE DR):=scm
theorem EW:FnScope ["machine","rows"] ["machine"] (AE DZ):=scm
theorem EZ:FnScope ["thing"] ["thing"] (AE C2):=scm
theorem I0:FnScope ["word"] ["word"] (AE Dy):=scm
theorem Hk:FnScope ["word"] ["word"] (AE Dz):=scm
theorem Gu:FnScope ["words"] ["words"] (AE DW):=scm
theorem L4:FnScope ["machine","words"] ["machine","words"] (AE GH):=scm
theorem DC:FnScope ["text","machine","row"] ["text"] (AE Dc):=scm
theorem Ea:FnScope ["_law_script","_law_k","_law_number"] ["_law_script","_law_k"] (AE Fb):=scm
theorem DL:FnScope ["_law_cell_here","_law_row","_law_places"] ["_law_cell_here"] (AE Dw):=scm
theorem DY:FnScope ["_law_letters_here","_law_bits","_law_text","_law_letter"] ["_law_letters_here","_law_bits"] (AE GR):=scm
theorem Cw:FnScope ["_law_cell_here","_law_many","_law_chosen_here","_law_k"] ["_law_cell_here","_law_many"] (AE ED):=scm
theorem IQ:FnScope ["_law_cell_here"] ["_law_cell_here"] (AE ET):=scm
theorem Aa:FnScope ["_law_script","_law_letters_here","_law_many","_law_most","_law_ways","_law_k","_law_cell_here","_law_way","_law_lit_here","_law_starts","_law_marks"] ["_law_script","_law_letters_here"] (AE Dm):=scm
theorem B5:FnScope ["_law_machine_here","_law_parts","_law_shown","_law_way","_law_state","_law_mark"] ["_law_machine_here"] (AE CU):=scm
theorem FF:FnScope ["_law_found","_law_due","_law_k"] ["_law_found","_law_due"] (AE EE):=scm
theorem Cj:FnScope ["_law_found","_law_due","_law_k"] ["_law_found","_law_due"] (AE Cs):=scm
theorem DT:FnScope ["_law_script","_law_letters_here","_law_machine_here","_law_turn","_law_ways","_law_every","_law_text","_law_handed","_law_found","_law_first"] ["_law_script"] (AE s_law):=scm
def JY (K:FZ9):Sp:=fun vs H Q _=>∃ (a:Addr) (ns:List Int),vs=[.ref a]/\SqL K H a (ns.map V.int)/\ns.length<=63/\∀ H',Q (.bl true) H'
section
variable (P:Program)(w:World)(K:FZ9)(mg:Str->Option Value)(base:Heap)
abbrev FM:Prop:=DefOk P w K mg base "_law_letters" 1 ["_law_cell_here"] (spM K Ev)
abbrev Fv:Prop:=DefOk P w K mg base "_law_states" 1 ["_law_cell_here"] (spM K FP)
abbrev Fd:Prop:=DefOk P w K mg base "_law_chosen" 1 ["_law_cell_here","_law_many"] (spM K E1)
abbrev FT:Prop:=DefOk P w K mg base "_law_cell" 1 ["_law_script","_law_k"] (spM K Ay)
abbrev Iu:Prop:=DefOk P w K mg base "_law_lit" 1 ["_law_letters_here","_law_bits"] (spM K IJ)
abbrev FL:Prop:=DefOk P w K mg base "_law_machine" 2 ["_law_script","_law_letters_here"] (spM K Er)
abbrev Da:Prop:=DefOk P w K mg base "_law_machine_text" 1 ["_law_machine_here"] (spM K DD)
abbrev FK:Prop:=DefOk P w K mg base "show_moment" 1 ["moment"] (spM K Em)
abbrev Ei:Prop:=DefOk P w K mg base "show_numbers" 1 ["numbers"] (spM K D5)
abbrev DV:Prop:=DefOk P w K mg base "show_machine" 2 ["machine"] (spM K CO)
abbrev Cz:Prop:=DefOk P w K mg base "refuse_other_kinds" 1 ["thing"] (spM K Cp)
abbrev Eh:Prop:=DefOk P w K mg base "is_moment" 1 ["thing"] (spM K EL)
abbrev FE:Prop:=DefOk P w K mg base "read_moment" 2 ["word"] (spM K Ep)
abbrev Dx:Prop:=DefOk P w K mg base "read_number" 1 ["word"] (spM K Db)
abbrev Ef:Prop:=DefOk P w K mg base "read_numbers" 2 ["words"] (spM K D2)
abbrev Iy:Prop:=DefOk P w K mg base "lay_row" 3 ["machine","words"] (spQ K EJ)
abbrev Cm:Prop:=DefOk P w K mg base "is_number_below" 1 ["thing","count"] (spM K Bn)
abbrev CQ:Prop:=DefOk P w K mg base "are_numbers_once" 2 ["thing","count"] (spM K CD)
abbrev Gf:Prop:=DefOk P w K mg base "are_marks" 3 ["thing","many_ways"] (spM K Fq)
abbrev FI:Prop:=DefOk P w K mg base "are_moments" 2 ["thing"] (spM K En)
abbrev KI:Prop:=DefOk P w K mg base "is_way" 2 ["thing","count"] (spM K J9)
abbrev Hn:Prop:=DefOk P w K mg base "are_ways" 3 ["thing","count"] (spM K Gn)
abbrev Fp:Prop:=DefOk P w K mg base "is_machine" 4 ["thing"] (spM K FG)
abbrev El:Prop:=DefOk P w K mg base "read_machine" 5 ["text"] (spM4 K D7)
abbrev Fg:Prop:=DefOk P w K mg base "_law_listed" 1 ["_law_found","_law_due"] (spM K CJ)
abbrev E7:Prop:=DefOk P w K mg base "_law_is_machine" 2 ["_law_found","_law_due"] (spM K Cf)
end
section
variable {P:Program}{w:World}{K:FZ9}{mg:Str->Option Value}{base:Heap}
local macro_rules | `(tactic| ac_rfl) => `(tactic| first | assumption | exact Ne.symm (by assumption))
local macro_rules
 | `(tactic| clear $n:num $rs*) => do
  let hm := Lean.mkIdent `hm
  let xt := Lean.mkIdent `xt
  let q := Lean.mkIdent `q
  let rf := Lean.mkIdent `rfl
  let w : Array Lean.Ident := rs.map fun r => ⟨r.raw⟩
  match n.getNat with
  | 2 =>
   let mut ts := #[]
   for k in [0:w.size/2] do
    let a := w[2*k]!
    let b := w[2*k+1]!
    ts := ts.push (← `(tactic| refine bE $hm fun $a $b $hm => ?_))
   `(tactic| ($[$ts:tactic];*))
  | 3 => `(tactic| (replace $hm := cT $hm; refine Bd ?_))
  | 4 => `(tactic| (replace $hm := cF $hm; refine Ba ?_))
  | 5 => `(tactic| (rintro r' v' G' H' $rf:ident rl; cases $hm:ident; exact $q v' G' H' rl.1 rl.2))
  | 6 => let k := w[0]!; `(tactic| (rintro r' v' G' H' $rf:ident rl; cases $hm:ident; exact $k _ v' G' H' rfl rl))
  | 9 =>
   let x := w[0]!
   let ts ← (w.extract 1 w.size).mapM fun (i : Lean.Ident) => `(tactic| have $i := Rp.mono $x $i)
   `(tactic| ($[$ts:tactic];*))
  | z =>
   if z > 1 then Lean.Macro.throwUnsupported
   let x := w[0]!
   let mut m := 1
   let mut ts := #[]
   let mut hs := #[]
   for i in w.extract 1 w.size do
    if let some k := i.raw.isNatLit? then m := k
    else if m == 4 then hs := hs.push (← `(tactic| have $i := ($xt).hh.free $i))
    else ts := ts.push (← match m with
     | 1 => `(tactic| have $i := Rp.mono ($x).gg $i)
     | 2 => `(tactic| have $i := ($i).ext $x)
     | _ => `(tactic| have $i := ($i).trans ($x).gg))
   if z == 1 then hs := hs.push (← `(tactic| have $xt := ($xt).trans $x))
   let zs := hs ++ ts
   `(tactic| ($[$zs:tactic];*))
theorem Hw (F:DIn K mg "_law_letters" Dw)(T:Txt mg):FM P w K mg base:=by
 refine F.okM1 (m:=Bt) DL fun _ _ _ _ _ H0 _ _ hr G0 AO res ES xt AJ hm q=>?_;unfold Bt at hm
 refine ⟨_,(A4 (Ac (i:=1) DL Ap)
   (A4 (Ac (i:=2) DL (C4 (A2 (pv 0) (A2 (Ad K (Ad K (pv 0) A7) (An BM (An Cy (pv 0) A7) A7)) (A2 (Ad K (Ad K (pv 0) A7) (An BM (An Cy (pv 0) A7) A7)) (A2 (Ad K (Ad K (pv 0) A7) (An BM (An Cy (pv 0) A7) A7)) A6))))))
   (A4 (AQ (Bz (cn:=["_law_row"]) (cap:=[1]) rfl ⟨by decide +kernel,rfl,by decide +kernel,BQ rfl⟩ rfl (by decide +kernel) ⟨⟨rfl,.inl rfl,rfl⟩,trivial⟩ (B7 (K:=K) rfl (pv 2)) (fun C s0 H0 fp=>⟨BS,(AF K (pv 1) (An BM (pv 0) A7))⟩)))
   A5))),?_⟩
 clear 2 row_ h6;refine Av (K:=K) CH h6 xt.gh fun v1 G2 H3 x4 r5=>?_;clear 1 x4 AJ;clear 2 Lc h12;refine Av (K:=K) (FV.ev (DB (B8 (A8 AJ) (B8 (CF (CF (A8 AJ) Aw) (BJ (Cv (A8 AJ)))) (B8 (CF (CF (A8 AJ) Aw) (BJ (Cv (A8 AJ)))) (B8 (CF (CF (A8 AJ) Aw) (BJ (Cv (A8 AJ)))) (D4 (α:=Int)))))))) h12 xt.gh fun v7 G8 H9 x10 r11=>?_;clear 1 x10 r5;exact AR (K:=K) (FV.ev (Bp (cap:=[1]) (fe:=fun (at_:Int)=>((some row_).bind fun t17=>(some (at_ % (26:Int))).bind fun t18=>(atI t17.cps.toList t18).bind fun z=>some (⟨#[z]⟩:Str))) (BU (A8 r11)) fun xc16 at_ Gc13 sc14 rc15=>(ev_atS (A8 (Rp.mono sc14 r5)) (BJ (A8 rc15))))) hm xt.gh fun v20 G21 H22 x23 r24=>q v20 G21 H22 (xt.trans x23) r24
theorem Ib (F:DIn K mg "_law_states" ET)(T:Txt mg):Fv P w K mg base:=by
 refine F.okM1 (m:=CC) IQ fun _ _ _ _ _ H0 _ _ hr G0 AO res ES xt AJ hm q=>?_;unfold CC at hm
 refine ⟨_,(A4 (Az (AM CZ (An BM (An Cy (pv 0) A7) A7) A7 (AW _)) (A4 (AQ (Ad K A7 (An BM (pv 0) A7)))
   A5) A5)
   (A4 (AQ (Ad K A7 (An BM (pv 0) A7)))
   A5)),?_⟩
 clear 2 b1 h2;refine B2 (AN (K:=K) (DM (BJ (Cv (A8 AJ))) Aw)) h2 xt.gh fun G3 H4 x5=>?_;clear 1 x5 AJ
 cases b1 with
 | true =>
  clear 3;exact AR (K:=K) (CF Aw (BJ (A8 AJ))) hm xt.gh fun v6 G7 H8 x9 r10=>q v6 G7 H8 (xt.trans x9) r10
 | false =>
  clear 4;exact AR (K:=K) (CF Aw (BJ (A8 AJ))) hm xt.gh fun v11 G12 H13 x14 r15=>q v11 G12 H13 (xt.trans x14) r15
theorem IV (F:DIn K mg "_law_chosen" ED)(T:Txt mg):Fd P w K mg base:=by
 refine F.okM2 (m:=Bb) Cw fun _ _ _ _ _ H0 _ _ hr G0 AO E6 res ES LX xt AJ Ft hm q=>?_;unfold Bb at hm
 refine ⟨_,(A4 (Ac (i:=2) Cw (C4 A6))
   (A4 (DA PassesOwn.never rfl (C8 rfl T.range_ (A2 (pv 1) A6)) (Bq (i:=3) Cw) (A4 (Az (AM CZ (An BM (pv 0) A7) A7 (AW _)) (A4 (BN (BC K (pv 2) (pv 3)))
   A5) A5)
   (A4 (Ac (i:=0) Cw (An Cy (pv 0) A7))
   A5)))
   (A4 (AQ (pv 2))
   A5))),?_⟩
 clear 2 Fi h8;refine Jh (K:=K) (DB (D4 (α:=Int))) h8 xt.gh fun p1 vs2 G3 H4 x5 hz6 o7=>?_;clear 1 x5 AJ Ft 4 hz6;clear 2 as10 h11 fl12 h13;refine D6 (K:=K) (RR:=fun r v G' H'=>Ext G0 H0 G' H'/\Rp.rel K G' v r) (DG (A8 Ft)) h11 h13 xt.gh fun G14 H15 x16=>⟨fun s17 S' G' H'=>∃ (v18:V) (v19:Option V),Ext G0 H0 G' H'/\Same G14 G'/\S'=[some v18,some LX,some (V.ref p1),v19]/\Rp.rel K G' v18 (s17.1:Int)/\(∃ vs,Own K G' H' (V.ref p1) p1 vs s17.2),?_,?_,?_,?_,?_⟩
 ·clear 1 x16 AJ 2 o7;exact ⟨ES,_,xt,(Same.refl _),rfl,AJ,⟨_,o7⟩⟩
 ·rintro _ S' G' H' ⟨v18,v19,xt,mk20,rfl,r21,⟨vs2,o7⟩⟩;exact ⟨mk20,xt.gh⟩
 ·rintro xv22 a23 s17 _ G26 H27 fl24 - ⟨v18,v19,xt,mk20,rfl,r21,⟨vs2,o7⟩⟩ rx25 hm D' kN28 kC29 kB30 kR31;have Ft:=Rp.mono (x16.gg.trans mk20) Ft;refine CM ?_;clear 2 b32 h33 s37 h38
  try (with_reducible refine nxt_ ?_;dsimp only)
  refine E9 (t:=Ie _ _ _) (fun S52 H51=>∃ (G50:Hp) ,Ext G0 H0 G50 H51/\Same G26 G50/\S52=[some v18,some LX,some (V.ref p1),some xv22]/\(∃ vs,Own K G50 H51 (V.ref p1) p1 vs s37)) (fun nx kn40=>?_) ?_
  ·refine B2 (AN (K:=K) (DM (BJ (A8 r21)) Aw)) h33 xt.gh fun G34 H35 x36=>?_;clear 1 x36 rx25 2 o7;have mk39:Same G26 G34:=x36.gg;have hm:=h38
   cases b32 with
   | true =>
    clear 3;clear 2 a41 h42 z49 h43;refine DI (K:=K) rfl o7 (A8 rx25) h42 h43 xt.gh fun G44 H45 w46 x47 o48=>?_;have xt:Ext G0 H0 G44 (upd H45 p1 (.lst (vs2++[w46]))):=(xt.trans x47).put hz6 o48.g;clear 0 x47 3 mk39;cases hm;exact kn40 _ _ ⟨G44,xt,mk39,rfl,⟨_,o48⟩⟩
   | false =>
    clear 4;cases hm;exact kn40 _ _ ⟨G34,xt,mk39,rfl,⟨_,o7⟩⟩
  ·rintro _ H51 ⟨G50,xt,mk39,rfl,⟨vs2,o7⟩⟩;have mk20:=mk20.trans mk39;clear 9 mk39 r21;clear 2 AO h58;refine Av (K:=K) (Cv (A8 r21)) h58 xt.gh fun v53 G54 H55 x56 r57=>?_;clear 1 x56 2 o7 3 mk20;cases hm;exact kN28 _ _ _ _ rfl ⟨v53,_,xt,mk20,rfl,r57,⟨_,o7⟩⟩
 ·rintro s17 _ G63 H64 rfl ⟨v59,v60,xt,mk61,rfl,r62,⟨vs2,o7⟩⟩;refine EX ?_;have sf:=Same.new (o:=.lst vs2) o7.g;have xt:=xt.frz hz6 o7.g o7.h;have r65:=o7.tell;exact AR (K:=K) (A8 r65) hm xt.gh fun v66 G67 H68 x69 r70=>q v66 G67 H68 (xt.trans x69) r70
 ·clear 5
theorem KL (F:DIn K mg "_law_cell" Fb)(T:Txt mg):FT P w K mg base:=by
 refine F.okM2 (m:=Af) Ea fun _ _ _ _ _ H0 _ _ hr G0 script_ k_ res Bg v_k_ xt AA Hv hm q=>?_;unfold Af at hm
 refine ⟨_,(A4 (Az (AM Jq (pv 1) (Aj K T.len_ (pv 0)) (AW _)) (A4 (AQ (AF K (pv 0) (pv 1)))
   A5) A5)
   (A4 (Ac (i:=2) Ea (Ad K (An (Dg (K:=K) rfl) (pv 1) A7) A7))
   (A4 (Az (AM GV (Aj K T.len_ (pv 0)) A7 (AW _)) (A4 (Ac (i:=2) Ea (An BM (Ad K (An (Dg (K:=K) rfl) (AF K (pv 0) (An BM (An (Dg (K:=K) rfl) (pv 1) A7) (Aj K T.len_ (pv 0)))) A7) (An (Dg (K:=K) rfl) (pv 1) A7)) A7))
   A5) A5)
   (A4 (AQ (An BM (An (Dg (K:=K) rfl) (pv 2) (pv 2)) A7))
   A5)))),?_⟩
 clear 2 b1 h2;refine B2 (AN (K:=K) (FR (A8 Hv) (Jn (A8 AA)))) h2 xt.gh fun G3 H4 x5=>?_;clear 1 x5 AA Hv
 cases b1 with
 | true =>
  clear 3;exact AR (K:=K) (ev_atX (A8 AA) (A8 Hv)) hm xt.gh fun v8 G9 H10 x11 r12=>q v8 G9 H10 (xt.trans x11) r12
 | false =>
  clear 4;clear 2 BP h18;refine Av (K:=K) (CF (Fk (A8 Hv)) Aw) h18 xt.gh fun v13 G14 H15 x16 r17=>?_;clear 1 x16 AA Hv;clear 2 b19 h20 s24 h25
  try (with_reducible refine nxt_ ?_;dsimp only)
  refine E9 (t:=Ie _ _ _) (fun S45 H44=>∃ (G43:Hp) (v27:V),Ext G0 H0 G43 H44/\Same G14 G43/\S45=[some Bg,some v_k_,some v27]/\Rp.rel K G43 v27 (s24:Int)) (fun nx kn29=>?_) ?_
  ·refine B2 (AN (K:=K) (FR (Jn (A8 AA)) Aw)) h20 xt.gh fun G21 H22 x23=>?_;clear 1 x23 AA Hv r17;have mk26:Same G14 G21:=x23.gg;have hm:=h25
   cases b19 with
   | true =>
    clear 3;clear 2 BP h42;refine Av (K:=K) (BJ (CF (Fk (ev_atX (A8 AA) (GG (Fk (A8 Hv)) (Jn (A8 AA))))) (Fk (A8 Hv)))) h42 xt.gh fun v37 G38 H39 x40 r41=>?_;clear 1 x40 3 mk26;cases hm;exact kn29 _ _ ⟨G38,v37,xt,mk26,rfl,r41⟩
   | false =>
    clear 4;cases hm;exact kn29 _ _ ⟨G21,v13,xt,mk26,rfl,r17⟩
  ·rintro _ H44 ⟨G43,v27,xt,mk26,rfl,r28⟩;exact AR (K:=K) (BJ (Jr (A8 r28) (A8 r28))) hm xt.gh fun v49 G50 H51 x52 r53=>q v49 G50 H51 (xt.trans x52) r53
theorem LF (F:DIn K mg "_law_lit" GR)(T:Txt mg):Iu P w K mg base:=by
 refine F.okM2 (m:=Cq) DY fun _ _ _ _ _ H0 _ _ hr G0 BF KO res BL v_bits_ xt AC Fy hm q=>?_;unfold Cq at hm
 refine ⟨_,(A4 (Ac (i:=2) DY Ap)
   (A4 (DA PassesOwn.never rfl (B7 (K:=K) rfl (AS (Jf (K:=K) rfl) (by rfl) T.sorted_ J2 (A2 (pv 0) A6))) (Bq (i:=3) DY) (A4 (Az (AM CZ (An BM (pv 1) A7) A7 (AW _)) (A4 (Ac (i:=2) DY (Ad K (pv 2) (pv 3)))
   A5) A5)
   (A4 (Ac (i:=1) DY (An Cy (pv 1) A7))
   A5)))
   (A4 (AQ (pv 2))
   A5))),?_⟩
 clear 2 text_ h6;refine Av (K:=K) CH h6 xt.gh fun v1 G2 H3 x4 r5=>?_;clear 1 x4 AC Fy;clear 2 as8 h9 fl10 h11;refine D6 (K:=K) (RR:=fun r v G' H'=>Ext G0 H0 G' H'/\Rp.rel K G' v r) (BU (FV.ev (fv_sortS (A8 AC)))) h9 h11 xt.gh fun G12 H13 x14=>⟨fun s15 S' G' H'=>∃ (v16:V) (v17:V) (v18:Option V),Ext G0 H0 G' H'/\Same G12 G'/\S'=[some BL,some v16,some v17,v18]/\Rp.rel K G' v16 (s15.1:Int)/\Rp.rel K G' v17 (s15.2:Str),?_,?_,?_,?_,?_⟩
 ·clear 1 x14 Fy r5;exact ⟨v_bits_,v1,_,xt,(Same.refl _),rfl,Fy,r5⟩
 ·rintro _ S' G' H' ⟨v16,v17,v18,xt,mk19,rfl,r20,r21⟩;exact ⟨mk19,xt.gh⟩
 ·rintro xv22 a23 s15 _ G26 H27 fl24 - ⟨v16,v17,v18,xt,mk19,rfl,r20,r21⟩ rx25 hm D' kN28 kC29 kB30 kR31;have AC:=Rp.mono (x14.gg.trans mk19) AC;refine CM ?_;clear 2 b32 h33 s37 h38
  try (with_reducible refine nxt_ ?_;dsimp only)
  refine E9 (t:=Ie _ _ _) (fun S53 H52=>∃ (G51:Hp) (v40:V),Ext G0 H0 G51 H52/\Same G26 G51/\S53=[some BL,some v16,some v40,some xv22]/\Rp.rel K G51 v40 (s37:Str)) (fun nx kn42=>?_) ?_
  ·refine B2 (AN (K:=K) (DM (BJ (A8 r20)) Aw)) h33 xt.gh fun G34 H35 x36=>?_;clear 1 x36 r21 rx25;have mk39:Same G26 G34:=x36.gg;have hm:=h38
   cases b32 with
   | true =>
    clear 3;clear 2 text_ h50;refine Av (K:=K) (F4 (A8 r21) (A8 rx25)) h50 xt.gh fun v45 G46 H47 x48 r49=>?_;clear 1 x48 3 mk39;cases hm;exact kn42 _ _ ⟨G46,v45,xt,mk39,rfl,r49⟩
   | false =>
    clear 4;cases hm;exact kn42 _ _ ⟨G34,v17,xt,mk39,rfl,r21⟩
  ·rintro _ H52 ⟨G51,v40,xt,mk39,rfl,r41⟩;have mk19:=mk19.trans mk39;clear 9 mk39 r20;clear 2 KO h59;refine Av (K:=K) (Cv (A8 r20)) h59 xt.gh fun v54 G55 H56 x57 r58=>?_;clear 1 x57 r41 3 mk19;cases hm;exact kN28 _ _ _ _ rfl ⟨v54,v40,_,xt,mk19,rfl,r58,r41⟩
 ·rintro s15 _ G66 H67 rfl ⟨v60,v61,v62,xt,mk63,rfl,r64,r65⟩;refine EX ?_;exact AR (K:=K) (A8 r65) hm xt.gh fun v68 G69 H70 x71 r72=>q v68 G69 H70 (xt.trans x71) r72
 ·clear 5
theorem HV (F:DIn K mg "_law_machine" Dm)(T:Txt mg)(EF:Fv P w K mg base)(DH:Fd P w K mg base)(Aq:FT P w K mg base)(GQ:Iu P w K mg base):FL P w K mg base:=by
 refine F.okM2 (m:=Bw) Aa fun _ _ _ _ _ H0 _ _ hr G0 script_ BF res Bg BL xt AA AC hm q=>?_;unfold Bw at hm
 refine ⟨_,(A4 (Ac (i:=2) Aa (AK EF hr (by decide) rfl (A2 (AK Aq hr (by decide) rfl (A2 (pv 0) (A2 A7 A6))) A6)))
   (A4 (Ac (i:=3) Aa (An (Dg (K:=K) rfl) A7 (pv 2)))
   (A4 (Az (AM CZ (An BM (An Cy (AK Aq hr (by decide) rfl (A2 (pv 0) (A2 A7 A6))) A7) A7) A7 (AW _)) (A4 (Ac (i:=3) Aa (An (Dg (K:=K) rfl) (pv 2) (pv 2)))
   A5) A5)
   (A4 (Ac (i:=4) Aa (C4 A6))
   (A4 (DA PassesOwn.never rfl (C8 rfl T.range_ (A2 (An BM (AK Aq hr (by decide) rfl (A2 (pv 0) (A2 A7 A6))) (Ad K (AS (Md rfl) (by rfl) T.min_ bt_min (A2 A7 (A2 (pv 3) A6))) A7)) A6)) (Bq (i:=5) Aa) (A4 (Ac (i:=6) Aa (AK Aq hr (by decide) rfl (A2 (pv 0) (A2 (Ad K A7 (pv 5)) A6))))
   (A4 (Ac (i:=7) Aa (Ew (A2 (An BM (An Cy (pv 6) A7) (pv 2)) (A2 (An BM (pv 6) (pv 2)) A6))))
   (A4 (Az (AM Jq (pv 5) (pv 2) (AW _)) (A4 (Ac (i:=7) Aa (Ew (A2 (pv 5) (A2 (An BM (pv 6) (pv 2)) A6))))
   A5) A5)
   (A4 (Az (AM (MY (K:=K) rfl (Int × Int) hr (by decide)) (pv 7) (pv 4) rfl) (A4 (BN (BC K (pv 4) (pv 7)))
   A5) A5)
   A5)))))
   (A4 (DS (i:=8) (KF Aa) rfl (Or.inl rfl) (cn:=["_law_letters_here","_law_script"]) (cap:=[1,0]) rfl ⟨by decide +kernel,rfl,by decide +kernel,BQ rfl⟩ rfl (by decide +kernel) ⟨⟨rfl,.inl rfl,rfl⟩,⟨rfl,.inl rfl,rfl⟩,trivial⟩ (C8 rfl T.range_ (A2 (pv 2) A6)) (fun C s0 H0 fp=>⟨BS,(AK GQ hr (by decide) rfl (A2 (pv 1) (A2 (An BM (AK Aq hr (by decide) rfl (A2 (pv 2) (A2 (Ad K A7 (pv 0)) A6))) A7) A6)))⟩))
   (A4 (Ac (i:=9) Aa (AK DH hr (by decide) rfl (A2 (AK Aq hr (by decide) rfl (A2 (pv 0) (A2 A7 A6))) (A2 (pv 2) A6))))
   (A4 (Az (AM CZ (An BM (An Cy (AK Aq hr (by decide) rfl (A2 (pv 0) (A2 A7 A6))) A7) A7) A7 (AW _)) (A4 (Ac (i:=9) Aa (pe_sortR (K:=K) rfl (by rfl) T.sorted_ (A2 (pv 9) A6)))
   A5) A5)
   (A4 (DS (i:=10) (KF Aa) rfl (Or.inl rfl) (cn:=["_law_script","_law_ways"]) (cap:=[0,4]) rfl ⟨by decide +kernel,rfl,by decide +kernel,BQ rfl⟩ rfl (by decide +kernel) ⟨⟨rfl,.inl rfl,rfl⟩,⟨rfl,.inl rfl,rfl⟩,trivial⟩ (C8 rfl T.range_ (A2 (An BM (AK Aq hr (by decide) rfl (A2 (pv 0) (A2 A7 A6))) A7) A6)) (fun C s0 H0 fp=>⟨BS,(AK DH hr (by decide) rfl (A2 (AK Aq hr (by decide) rfl (A2 (pv 1) (A2 (Ad K A7 (pv 0)) A6))) (A2 (Aj K T.len_ (pv 2)) A6)))⟩))
   (A4 (AQ (Ew (A2 (pv 8) (A2 (pv 4) (A2 (pv 9) (A2 (pv 10) A6))))))
   A5)))))))))),?_⟩
 clear 2 E6 h9;refine Av (K:=K) (BO (m:=FP) (Ag (m:=Ay) (A8 AA) Aw)) h9 xt.gh fun v4 G5 H6 x7 r8=>?_;clear 1 x7 AA AC;clear 2 K6 h15;refine Av (K:=K) (ev_mulL (A8 r8)) h15 xt.gh fun v10 G11 H12 x13 r14=>?_;clear 1 x13 AA AC r8;clear 2 b21 h22 s26 h27
 try (with_reducible refine nxt_ ?_;dsimp only)
 refine E9 (t:=Ie _ _ _) (fun S42 H41=>∃ (G40:Hp) (v29:V),Ext G0 H0 G40 H41/\Same G11 G40/\S42=[some Bg,some BL,some v4,some v29,none,none,none,none,none,none,none]/\Rp.rel K G40 v29 (s26:Int)) (fun nx kn31=>?_) ?_
 ·refine B2 (AN (K:=K) (DM (BJ (Cv (Ag (m:=Ay) (A8 AA) Aw))) Aw)) h22 xt.gh fun G23 H24 x25=>?_;clear 1 x25 r8 r14;have mk28:Same G11 G23:=x25.gg;have hm:=h27
  cases b21 with
  | true =>
   clear 3;clear 2 K6 h39;refine Av (K:=K) (Jr (A8 r8) (A8 r8)) h39 xt.gh fun v34 G35 H36 x37 r38=>?_;clear 1 x37 3 mk28;cases hm;exact kn31 _ _ ⟨G35,v34,xt,mk28,rfl,r38⟩
  | false =>
   clear 4;cases hm;exact kn31 _ _ ⟨G23,v10,xt,mk28,rfl,r14⟩
 ·rintro _ H41 ⟨G40,v29,xt,mk28,rfl,r30⟩;clear 9 mk28 AA AC r8;clear 2 ways_ h50;refine Jh (K:=K) (DB (D4 (α:=(Int × Int)))) h50 xt.gh fun p43 vs44 G45 H46 x47 hz48 o49=>?_;clear 1 x47 AA AC r8 r30 4 hz48;clear 2 as56 h57 fl58 h59;refine D6 (K:=K) (RR:=fun r v G' H'=>Ext G0 H0 G' H'/\Rp.rel K G' v r) (DG (GG (Ag (m:=Ay) (A8 AA) Aw) (CF (ev_min Aw (A8 r30)) Aw))) h57 h59 xt.gh fun G60 H61 x62=>⟨fun s63 S' G' H'=>∃ (v64:Option V) (v65:Option V) (v66:Option V),Ext G0 H0 G' H'/\Same G60 G'/\S'=[some Bg,some BL,some v4,some v29,some (V.ref p43),v64,v65,v66,none,none,none]/\(∃ vs,Own K G' H' (V.ref p43) p43 vs s63),?_,?_,?_,?_,?_⟩
  ·clear 1 x62 2 o49;exact ⟨_,_,_,xt,(Same.refl _),rfl,⟨_,o49⟩⟩
  ·rintro _ S' G' H' ⟨v64,v65,v66,xt,mk67,rfl,⟨vs44,o49⟩⟩;exact ⟨mk67,xt.gh⟩
  ·rintro xv68 a69 s63 _ G72 H73 fl70 - ⟨v64,v65,v66,xt,mk67,rfl,⟨vs44,o49⟩⟩ rx71 hm D' kN74 kC75 kB76 kR77;have AA:=Rp.mono (x62.gg.trans mk67) AA;have AC:=Rp.mono (x62.gg.trans mk67) AC;have r8:=Rp.mono (x62.gg.trans mk67) r8;have r30:=Rp.mono (x62.gg.trans mk67) r30;refine CM ?_;clear 2 AO h85;refine Av (K:=K) (Ag (m:=Ay) (A8 AA) (CF Aw (A8 rx71))) h85 xt.gh fun v80 G81 H82 x83 r84=>?_;clear 1 x83 AA AC r8 r30 rx71 2 o49 3 mk67;clear 2 way_ h97;refine Av (K:=K) (JR (GG (Cv (A8 r84)) (A8 r8)) (GG (A8 r84) (A8 r8))) h97 xt.gh fun v92 G93 H94 x95 r96=>?_;clear 1 x95 AA AC r8 r30 rx71 r84 2 o49 3 mk67;clear 2 b98 h99 s103 h104
   try (with_reducible refine nxt_ ?_;dsimp only)
   refine E9 (t:=Ie _ _ _) (fun S122 H121=>∃ (G120:Hp) (v106:V),Ext G0 H0 G120 H121/\Same G93 G120/\S122=[some Bg,some BL,some v4,some v29,some (V.ref p43),some xv68,some v80,some v106,none,none,none]/\Rp.rel K G120 v106 (s103:(Int × Int))/\Own K G120 H121 (V.ref p43) p43 vs44 s63) (fun nx kn108=>?_) ?_
   ·refine B2 (AN (K:=K) (FR (A8 rx71) (A8 r8))) h99 xt.gh fun G100 H101 x102=>?_;clear 1 x102 r8 rx71 r84 r96 2 o49;have mk105:Same G93 G100:=x102.gg;have hm:=h104
    cases b98 with
    | true =>
     clear 3;clear 2 way_ h119;refine Av (K:=K) (JR (A8 rx71) (GG (A8 r84) (A8 r8))) h119 xt.gh fun v114 G115 H116 x117 r118=>?_;clear 1 x117 2 o49 3 mk105;cases hm;exact kn108 _ _ ⟨G115,v114,xt,mk105,rfl,r118,o49⟩
    | false =>
     clear 4;cases hm;exact kn108 _ _ ⟨G100,v92,xt,mk105,rfl,r96,o49⟩
   ·rintro _ H121 ⟨G120,v106,xt,mk105,rfl,r107,o49⟩;have mk67:=mk67.trans mk105;clear 2 b123 h124;refine sv_ifB o49 (AN (K:=K) (Ku (A8 (Rp.mono (Same.new o49.g) r107)) (A8 o49.tell))) h124 xt.gh fun G125 H126 x127=>?_;clear 1 x127 r107 2 o49 3 mk67
    cases b123 with
    | true =>
     clear 3;clear 2 a128 h129 z136 h130;refine DI (K:=K) rfl o49 (A8 r107) h129 h130 xt.gh fun G131 H132 w133 x134 o135=>?_;have xt:Ext G0 H0 G131 (upd H132 p43 (.lst (vs44++[w133]))):=(xt.trans x134).put hz48 o135.g;clear 0 x134 3 mk67;cases hm;exact kN74 _ _ _ _ rfl ⟨_,_,_,xt,mk67,rfl,⟨_,o135⟩⟩
    | false =>
     clear 4;cases hm;exact kN74 _ _ _ _ rfl ⟨_,_,_,xt,mk67,rfl,⟨_,o49⟩⟩
  ·rintro s63 _ G141 H142 rfl ⟨v137,v138,v139,xt,mk140,rfl,⟨vs44,o49⟩⟩;refine EX ?_;have AA:=Rp.mono (x62.gg.trans mk140) AA;have AC:=Rp.mono (x62.gg.trans mk140) AC;have r8:=Rp.mono (x62.gg.trans mk140) r8;have r30:=Rp.mono (x62.gg.trans mk140) r30;clear 2 Ii h159;refine Av (K:=K) (FV.ev (Bp (cap:=[1,0]) (fe:=fun (k_:Int)=>((some BF).bind fun t151=>(((some script_).bind fun t148=>(some ((32:Int)+k_)).bind fun t149=>Af t148 t149).bind fun t150=>(some (t150 % (16:Int)))).bind fun t152=>Cq t151 t152)) (DG (A8 r8)) fun xc147 k_ Gc144 sc145 rc146=>(Ag (m:=IJ) (A8 (Rp.mono sc145 AC)) (BJ (Ag (m:=Ay) (A8 (Rp.mono sc145 AA)) (CF Aw (A8 rc146))))))) h159 xt.gh fun v154 G155 H156 x157 r158=>?_;clear 1 x157 AA AC r8 r30 2 o49;clear 2 F6 h169;refine Av (K:=K) (Ag (m:=E1) (Ag (m:=Ay) (A8 AA) Aw) (A8 r8)) h169 xt.gh fun v164 G165 H166 x167 r168=>?_;clear 1 x167 AA AC r8 r30 r158 2 o49;clear 2 b175 h176 s180 h181
   try (with_reducible refine nxt_ ?_;dsimp only)
   refine E9 (t:=Ie _ _ _) (fun S195 H194=>∃ (G193:Hp) (v183:V),Ext G0 H0 G193 H194/\Same G165 G193/\S195=[some Bg,some BL,some v4,some v29,some (V.ref p43),v137,v138,v139,some v154,some v183,none]/\Rp.rel K G193 v183 (s180:(List Int))/\Own K G193 H194 (V.ref p43) p43 vs44 s63) (fun nx kn185=>?_) ?_
   ·refine B2 (AN (K:=K) (DM (BJ (Cv (Ag (m:=Ay) (A8 AA) Aw))) Aw)) h176 xt.gh fun G177 H178 x179=>?_;clear 1 x179 r168 2 o49;have mk182:Same G165 G177:=x179.gg;have hm:=h181
    cases b175 with
    | true =>
     clear 3;clear 2 F6 h192;refine Av (K:=K) (FV.ev (fv_sortR (A8 r168))) h192 xt.gh fun v187 G188 H189 x190 r191=>?_;clear 1 x190 2 o49 3 mk182;cases hm;exact kn185 _ _ ⟨G188,v187,xt,mk182,rfl,r191,o49⟩
    | false =>
     clear 4;cases hm;exact kn185 _ _ ⟨G177,v164,xt,mk182,rfl,r168,o49⟩
   ·rintro _ H194 ⟨G193,v183,xt,mk182,rfl,r184,o49⟩;clear 9 mk182 AA r158;have sf:=Same.new (o:=.lst vs44) o49.g;have xt:=xt.frz hz48 o49.g o49.h;have r209:=o49.tell;clear 9 sf AA r158 r184;clear 2 marks_ h228;refine Av (K:=K) (FV.ev (Bp (cap:=[0,4]) (fe:=fun (k_:Int)=>(((some script_).bind fun t218=>(some ((5:Int)+k_)).bind fun t219=>Af t218 t219).bind fun t220=>(some (s63.length:Int)).bind fun t221=>Bb t220 t221)) (DG (BJ (Ag (m:=Ay) (A8 AA) Aw))) fun xc217 k_ Gc214 sc215 rc216=>(Ag (m:=E1) (Ag (m:=Ay) (A8 (Rp.mono sc215 AA)) (CF Aw (A8 rc216))) (By (A8 (Rp.mono sc215 r209)))))) h228 xt.gh fun v223 G224 H225 x226 r227=>?_;clear 1 x226 r209 r158 r184;exact AR (K:=K) (JH (A8 r158) (A8 r209) (A8 r184) (A8 r227)) hm xt.gh fun v229 G230 H231 x232 r233=>q v229 G230 H231 (xt.trans x232) r233
  ·clear 5
theorem F9 (F:DIn K mg "_law_machine_text" CU)(T:Txt mg):Da P w K mg base:=by
 refine F.okM1 (m:=BA) B5 fun _ _ _ _ _ H0 _ _ hr G0 machine_here_ res CL xt AY hm q=>?_;unfold BA at hm
 refine ⟨_,(A4 (Ac (i:=1) B5 (C4 A6))
   (A4 (DA PassesOwn.never rfl (B7 (K:=K) rfl (AF K (pv 0) A7)) (Bq (i:=2) B5) (A4 (BN (BC K (pv 1) (Ad K Ap (pe_ifExp (AM Fw (pv 2) Ap (AW _)) (pv 2) Ap))))
   A5))
   (A4 (DA PassesOwn.never rfl (B7 (K:=K) rfl (AF K (pv 0) A7)) (Bq (i:=3) B5) (A4 (BN (BC K (pv 1) (Ad K (Ad K (Ad K Ap (B6 DJ (by rfl) T.str_ DU (A2 (AF K (pv 3) A7) A6))) Ap) (B6 DJ (by rfl) T.str_ DU (A2 (AF K (pv 3) A7) A6)))))
   A5))
   (A4 (DA PassesOwn.never rfl (B7 (K:=K) rfl (AF K (pv 0) A7)) (Bq (i:=4) B5) (A4 (BN (BC K (pv 1) (Ad K Ap (B6 DJ (by rfl) T.str_ DU (A2 (pv 4) A6)))))
   A5))
   (A4 (DA PassesOwn.never rfl (B7 (K:=K) rfl (AF K (pv 0) A7)) (Bq (i:=5) B5) (A4 (BN (BC K (pv 1) (Dq (K:=K) rfl PySem.F.plainAttrs_str PySem.F.slot_str_join PySem.F.type_str_join (Fo (K:=K) rfl) Ap (A2 (Ad K (C4 (A2 Ap A6)) (Bz (cn:=[]) (cap:=[]) rfl ⟨by decide +kernel,rfl,by decide +kernel,BQ rfl⟩ rfl (by decide +kernel) trivial (B7 (K:=K) rfl (pv 5)) (fun C s0 H0 fp=>⟨BS,(B6 DJ (by rfl) T.str_ DU (A2 (pv 0) A6))⟩))) A6))))
   A5))
   (A4 (AQ (Dq (K:=K) rfl PySem.F.plainAttrs_str PySem.F.slot_str_join PySem.F.type_str_join (Fo (K:=K) rfl) Ap (A2 (pv 1) A6)))
   A5)))))),?_⟩
 clear 2 parts_ h8;refine Jh (K:=K) (DB (D4 (α:=Str))) h8 xt.gh fun p1 vs2 G3 H4 x5 hz6 o7=>?_;clear 1 x5 AY 4 hz6;clear 2 as9 h10 fl11 h12;refine D6 (K:=K) (RR:=fun r v G' H'=>Ext G0 H0 G' H'/\Rp.rel K G' v r) (BU (FS (A8 AY))) h10 h12 xt.gh fun G13 H14 x15=>⟨fun s16 S' G' H'=>∃ (v17:Option V),Ext G0 H0 G' H'/\Same G13 G'/\S'=[some CL,some (V.ref p1),v17,none,none,none]/\(∃ vs,Own K G' H' (V.ref p1) p1 vs s16),?_,?_,?_,?_,?_⟩
 ·clear 1 x15 2 o7;exact ⟨_,xt,(Same.refl _),rfl,⟨_,o7⟩⟩
 ·rintro _ S' G' H' ⟨v17,xt,mk18,rfl,⟨vs2,o7⟩⟩;exact ⟨mk18,xt.gh⟩
 ·rintro xv19 a20 s16 _ G23 H24 fl21 - ⟨v17,xt,mk18,rfl,⟨vs2,o7⟩⟩ rx22 hm D' kN25 kC26 kB27 kR28;refine CM ?_;clear 2 a32 h33 z40 h34;refine DI (K:=K) rfl o7 (F4 CH (ev_ifx (AN (K:=K) (L5 (A8 rx22) CH)) (A8 rx22) CH)) h33 h34 xt.gh fun G35 H36 w37 x38 o39=>?_;have xt:Ext G0 H0 G35 (upd H36 p1 (.lst (vs2++[w37]))):=(xt.trans x38).put hz6 o39.g;clear 0 x38 3 mk18;cases hm;exact kN25 _ _ _ _ rfl ⟨_,xt,mk18,rfl,⟨_,o39⟩⟩
 ·rintro s16 _ G43 H44 rfl ⟨v41,xt,mk42,rfl,⟨vs2,o7⟩⟩;refine EX ?_;have AY:=Rp.mono (x15.gg.trans mk42) AY;clear 2 as45 h46 fl47 h48;refine D6 (K:=K) (RR:=fun r v G' H'=>Ext G0 H0 G' H'/\Rp.rel K G' v r) (BU (DP (A8 AY))) h46 h48 xt.gh fun G49 H50 x51=>⟨fun s52 S' G' H'=>∃ (v53:Option V),Ext G0 H0 G' H'/\Same G49 G'/\S'=[some CL,some (V.ref p1),v41,v53,none,none]/\(∃ vs,Own K G' H' (V.ref p1) p1 vs s52),?_,?_,?_,?_,?_⟩
  ·clear 1 x51 2 o7;exact ⟨_,xt,(Same.refl _),rfl,⟨_,o7⟩⟩
  ·rintro _ S' G' H' ⟨v53,xt,mk54,rfl,⟨vs2,o7⟩⟩;exact ⟨mk54,xt.gh⟩
  ·rintro xv55 a56 s52 _ G59 H60 fl57 - ⟨v53,xt,mk54,rfl,⟨vs2,o7⟩⟩ rx58 hm D' kN61 kC62 kB63 kR64;refine CM ?_;clear 2 a73 h74 z81 h75;refine DI (K:=K) rfl o7 (F4 (F4 (F4 CH (F5 (ev_fst (A8 rx58)))) CH) (F5 (ev_snd (A8 rx58)))) h74 h75 xt.gh fun G76 H77 w78 x79 o80=>?_;have xt:Ext G0 H0 G76 (upd H77 p1 (.lst (vs2++[w78]))):=(xt.trans x79).put hz6 o80.g;clear 0 x79 3 mk54;cases hm;exact kN61 _ _ _ _ rfl ⟨_,xt,mk54,rfl,⟨_,o80⟩⟩
  ·rintro s52 _ G84 H85 rfl ⟨v82,xt,mk83,rfl,⟨vs2,o7⟩⟩;refine EX ?_;have AY:=Rp.mono (x51.gg.trans mk83) AY;clear 2 as86 h87 fl88 h89;refine D6 (K:=K) (RR:=fun r v G' H'=>Ext G0 H0 G' H'/\Rp.rel K G' v r) (BU (GN (A8 AY))) h87 h89 xt.gh fun G90 H91 x92=>⟨fun s93 S' G' H'=>∃ (v94:Option V),Ext G0 H0 G' H'/\Same G90 G'/\S'=[some CL,some (V.ref p1),v41,v82,v94,none]/\(∃ vs,Own K G' H' (V.ref p1) p1 vs s93),?_,?_,?_,?_,?_⟩
   ·clear 1 x92 2 o7;exact ⟨_,xt,(Same.refl _),rfl,⟨_,o7⟩⟩
   ·rintro _ S' G' H' ⟨v94,xt,mk95,rfl,⟨vs2,o7⟩⟩;exact ⟨mk95,xt.gh⟩
   ·rintro xv96 a97 s93 _ G100 H101 fl98 - ⟨v94,xt,mk95,rfl,⟨vs2,o7⟩⟩ rx99 hm D' kN102 kC103 kB104 kR105;refine CM ?_;clear 2 a109 h110 z117 h111;refine DI (K:=K) rfl o7 (F4 CH (F5 (A8 rx99))) h110 h111 xt.gh fun G112 H113 w114 x115 o116=>?_;have xt:Ext G0 H0 G112 (upd H113 p1 (.lst (vs2++[w114]))):=(xt.trans x115).put hz6 o116.g;clear 0 x115 3 mk95;cases hm;exact kN102 _ _ _ _ rfl ⟨_,xt,mk95,rfl,⟨_,o116⟩⟩
   ·rintro s93 _ G120 H121 rfl ⟨v118,xt,mk119,rfl,⟨vs2,o7⟩⟩;refine EX ?_;have AY:=Rp.mono (x92.gg.trans mk119) AY;clear 2 as122 h123 fl124 h125;refine D6 (K:=K) (RR:=fun r v G' H'=>Ext G0 H0 G' H'/\Rp.rel K G' v r) (BU (Dl (A8 AY))) h123 h125 xt.gh fun G126 H127 x128=>⟨fun s129 S' G' H'=>∃ (v130:Option V),Ext G0 H0 G' H'/\Same G126 G'/\S'=[some CL,some (V.ref p1),v41,v82,v118,v130]/\(∃ vs,Own K G' H' (V.ref p1) p1 vs s129),?_,?_,?_,?_,?_⟩
    ·clear 1 x128 2 o7;exact ⟨_,xt,(Same.refl _),rfl,⟨_,o7⟩⟩
    ·rintro _ S' G' H' ⟨v130,xt,mk131,rfl,⟨vs2,o7⟩⟩;exact ⟨mk131,xt.gh⟩
    ·rintro xv132 a133 s129 _ G136 H137 fl134 - ⟨v130,xt,mk131,rfl,⟨vs2,o7⟩⟩ rx135 hm D' kN138 kC139 kB140 kR141;refine CM ?_;clear 2 a152 h153 z160 h154;refine DI (K:=K) rfl o7 (HE CH (FV.ev (JM (FV.ev (DB (B8 CH (D4 (α:=Str))))) (FV.ev (Bp (cap:=[]) (fe:=fun (k_:Int)=>((some k_).bind fun t146=>DE t146)) (BU (A8 rx135)) fun xc145 k_ Gc142 sc143 rc144=>(F5 (A8 rc144))))))) h153 h154 xt.gh fun G155 H156 w157 x158 o159=>?_;have xt:Ext G0 H0 G155 (upd H156 p1 (.lst (vs2++[w157]))):=(xt.trans x158).put hz6 o159.g;clear 0 x158 3 mk131;cases hm;exact kN138 _ _ _ _ rfl ⟨_,xt,mk131,rfl,⟨_,o159⟩⟩
    ·rintro s129 _ G163 H164 rfl ⟨v161,xt,mk162,rfl,⟨vs2,o7⟩⟩;refine EX ?_;have sf:=Same.new (o:=.lst vs2) o7.g;have xt:=xt.frz hz6 o7.g o7.h;have r167:=o7.tell;exact AR (K:=K) (HE CH (A8 r167)) hm xt.gh fun v170 G171 H172 x173 r174=>q v170 G171 H172 (xt.trans x173) r174
    ·clear 5
   ·clear 5
  ·clear 5
 ·clear 5
theorem HY (F:DIn K mg "show_moment" Dn)(T:Txt mg):FK P w K mg base:=by
 refine F.okM1 (m:=Bf) IP fun _ _ _ _ _ H0 _ _ hr G0 CA res MK xt F7 hm q=>?_;unfold Bf at hm
 refine ⟨_,(A4 (Az (AM CZ (pv 0) Ap (AW _)) (A4 (AQ Ap)
   A5) A5)
   (A4 (AQ (pv 0))
   A5)),?_⟩
 clear 2 b1 h2;refine B2 (AN (K:=K) (ER (A8 F7) CH)) h2 xt.gh fun G3 H4 x5=>?_;clear 1 x5 F7
 cases b1 with
 | true =>
  clear 3;exact AR (K:=K) (rest:=Bj) (σ:=[some MK]) CH hm xt.gh fun v6 G7 H8 x9 r10=>q v6 G7 H8 (xt.trans x9) r10
 | false =>
  clear 4;exact AR (K:=K) (A8 F7) hm xt.gh fun v11 G12 H13 x14 r15=>q v11 G12 H13 (xt.trans x14) r15
theorem Gw (F:DIn K mg "show_numbers" DR)(T:Txt mg):Ei P w K mg base:=by
 refine F.okM1 (m:=Al) Gz fun _ _ _ _ _ H0 _ _ hr G0 KZ res v_numbers_ xt LK hm q=>?_;unfold Al at hm
 refine ⟨_,(A4 (AQ (Bz (cn:=[]) (cap:=[]) rfl ⟨by decide +kernel,rfl,by decide +kernel,BQ rfl⟩ rfl (by decide +kernel) trivial (B7 (K:=K) rfl (pv 0)) (fun C s0 H0 fp=>⟨BS,(B6 DJ (by rfl) T.str_ DU (A2 (pv 0) A6))⟩)))
   A5),?_⟩
 exact AR (K:=K) (FV.ev (Bp (cap:=[]) (fe:=fun (BP:D)=>(((some BP).bind fun t6=>IC t6).bind fun t7=>DE t7)) (iw_any (A8 LK)) fun xc5 BP Gc2 sc3 rc4=>(F5 (MU (A8 rc4))))) hm xt.gh fun v9 G10 H11 x12 r13=>q v9 G10 H11 (xt.trans x12) r13
theorem Gy (F:DIn K mg "show_machine" DZ)(T:Txt mg)(Dv:FK P w K mg base)(Ch:Ei P w K mg base):DV P w K mg base:=by
 refine F.okM1 (m:=B0) EW fun _ _ _ _ _ H0 _ _ hr G0 machine_ res LP xt Be hm q=>?_;unfold B0 at hm
 refine ⟨_,(A4 (DS (i:=1) (KF EW) rfl (Or.inl rfl) (cn:=[]) (cap:=[]) rfl ⟨by decide +kernel,rfl,by decide +kernel,BQ rfl⟩ rfl (by decide +kernel) trivial (B7 (K:=K) rfl (AF K (pv 0) A7)) (fun C s0 H0 fp=>⟨BS,(C4 (A2 Ap (A2 (AK Dv hr (by decide) rfl (A2 (pv 0) A6)) A6)))⟩))
   (A4 (BN (Dq (K:=K) rfl PySem.F.plainAttrs_list PySem.F.slot_list_extend PySem.F.type_list_extend Gc (pv 1) (A2 (Bz (cn:=[]) (cap:=[]) rfl ⟨by decide +kernel,rfl,by decide +kernel,BQ rfl⟩ rfl (by decide +kernel) trivial (B7 (K:=K) rfl (AF K (pv 0) A7)) (fun C s0 H0 fp=>⟨BS,(Ad K (C4 (A2 Ap A6)) (AK Ch hr (by decide) rfl (A2 (pv 0) A6)))⟩)) A6)))
   (A4 (BN (Dq (K:=K) rfl PySem.F.plainAttrs_list PySem.F.slot_list_extend PySem.F.type_list_extend Gc (pv 1) (A2 (Bz (cn:=[]) (cap:=[]) rfl ⟨by decide +kernel,rfl,by decide +kernel,BQ rfl⟩ rfl (by decide +kernel) trivial (B7 (K:=K) rfl (AF K (pv 0) A7)) (fun C s0 H0 fp=>⟨BS,(C4 (A2 Ap (A2 (B6 DJ (by rfl) T.str_ DU (A2 (pv 0) A6)) A6)))⟩)) A6)))
   (A4 (BN (Dq (K:=K) rfl PySem.F.plainAttrs_list PySem.F.slot_list_extend PySem.F.type_list_extend Gc (pv 1) (A2 (Bz (cn:=[]) (cap:=[]) rfl ⟨by decide +kernel,rfl,by decide +kernel,BQ rfl⟩ rfl (by decide +kernel) trivial (B7 (K:=K) rfl (AF K (pv 0) A7)) (fun C s0 H0 fp=>⟨BS,(Ad K (C4 (A2 Ap A6)) (AK Ch hr (by decide) rfl (A2 (pv 0) A6)))⟩)) A6)))
   (A4 (AQ (Dq (K:=K) rfl PySem.F.plainAttrs_str PySem.F.slot_str_join PySem.F.type_str_join (Fo (K:=K) rfl) Ap (A2 (Bz (cn:=[]) (cap:=[]) rfl ⟨by decide +kernel,rfl,by decide +kernel,BQ rfl⟩ rfl (by decide +kernel) trivial (B7 (K:=K) rfl (pv 1)) (fun C s0 H0 fp=>⟨BS,(Dq (K:=K) rfl PySem.F.plainAttrs_str PySem.F.slot_str_join PySem.F.type_str_join (Fo (K:=K) rfl) Ap (A2 (pv 0) A6))⟩)) A6)))
   A5))))),?_⟩
 clear 2 rows_ h16;refine Jh (K:=K) (Bp (cap:=[]) (fe:=fun (CA:Str)=>((((some CA).bind fun t5=>Bf t5).bind fun t6=>(some [t6])).bind fun t7=>(some (("state" : Str)::t7)))) (BU (FS (A8 Be))) fun xc4 CA Gc1 sc2 rc3=>(FV.ev (DB (B8 CH (B8 (BO (m:=Em) (A8 rc3)) (D4 (α:=Str))))))) h16 xt.gh fun p9 vs10 G11 H12 x13 hz14 o15=>?_;clear 1 x13 Be 4 hz14;clear 2 a33 h34 z41 h35;refine GM (K:=K) rfl o15 (Bp (cap:=[]) (fe:=fun (way_:(Int × Int))=>((some [("way" : Str)]).bind fun t30=>((some (ToD.to way_)).bind fun t29=>Al t29).bind fun t31=>KY t30 t31)) (BU (DP (A8 Be))) fun xc28 way_ Gc25 sc26 rc27=>(FV.ev (JM (FV.ev (DB (B8 CH (D4 (α:=Str))))) (BO (m:=D5) (D9 (A8 rc27)))))) h34 h35 xt.gh fun G36 H37 w38 x39 o40=>?_;have xt:Ext G0 H0 G36 (upd H37 p9 (.lst (vs10++w38))):=(xt.trans x39).put hz14 o40.g;clear 0 x39 Be;clear 2 a58 h59 z66 h60;refine GM (K:=K) rfl o40 (Bp (cap:=[]) (fe:=fun (Jm:Int)=>((((some Jm).bind fun t54=>DE t54).bind fun t55=>(some [t55])).bind fun t56=>(some (("from" : Str)::t56)))) (BU (GN (A8 Be))) fun xc53 Jm Gc50 sc51 rc52=>(FV.ev (DB (B8 CH (B8 (F5 (A8 rc52)) (D4 (α:=Str))))))) h59 h60 xt.gh fun G61 H62 w63 x64 o65=>?_;have xt:Ext G0 H0 G61 (upd H62 p9 (.lst ((vs10++w38)++w63))):=(xt.trans x64).put hz14 o65.g;clear 0 x64 Be;clear 2 a83 h84 z91 h85;refine GM (K:=K) rfl o65 (Bp (cap:=[]) (fe:=fun (Co:(List Int))=>((some [("mark" : Str)]).bind fun t80=>((some (ToD.to Co)).bind fun t79=>Al t79).bind fun t81=>KY t80 t81)) (BU (Dl (A8 Be))) fun xc78 Co Gc75 sc76 rc77=>(FV.ev (JM (FV.ev (DB (B8 CH (D4 (α:=Str))))) (BO (m:=D5) (D9 (A8 rc77)))))) h84 h85 xt.gh fun G86 H87 w88 x89 o90=>?_;have xt:Ext G0 H0 G86 (upd H87 p9 (.lst (((vs10++w38)++w63)++w88))):=(xt.trans x89).put hz14 o90.g;have sf:=Same.new (o:=.lst (((vs10++w38)++w63)++w88)) o90.g;have xt:=xt.frz hz14 o90.g o90.h;have r101:=o90.tell;exact AR (K:=K) (HE CH (FV.ev (Bp (cap:=[]) (fe:=fun (row_:(List Str))=>((some (" " : Str)).bind fun t106=>(some row_).bind fun t107=>Ee t106 t107)) (BU (A8 r101)) fun xc105 row_ Gc102 sc103 rc104=>(HE CH (A8 rc104))))) hm xt.gh fun v111 G112 H113 x114 r115=>q v111 G112 H113 (xt.trans x114) r115
theorem EY (F:DIn K mg "refuse_other_kinds" C2)(T:Txt mg):Cz P w K mg base:=by
 refine F.okM1 (m:=BI) EZ fun _ _ _ _ _ H0 _ _ hr G0 thing_ res B4 xt AB hm q=>?_;unfold BI at hm
 refine ⟨_,(A4 (Az (B9 (AL K (AS (AZ (K:=K) rfl) (by rfl) T.isinstance_ AG (A2 (pv 0) (A2 (BK (v:=.ty "str") rfl T.str_ DU rfl) A6))))) (A4 Eg
   A5) A5)
   A5),?_⟩
 clear 2 b1 h2;refine B2 (BB (Ce (K:=K) (Bl (b:=true) (by decide +kernel) (A8 AB)))) h2 xt.gh fun G3 H4 x5=>?_;clear 1 x5
 cases b1 with
 | true =>
  clear 3;exact nomatch hm
 | false =>
  clear 4;exact q _ _ _ xt (by cases hm;exact rfl)
theorem JG (F:DIn K mg "is_moment" Eo)(T:Txt mg):Eh P w K mg base:=by
 refine F.okM1 (m:=Bh) DF fun _ _ _ _ _ H0 _ _ hr G0 thing_ res B4 xt AB hm q=>?_;unfold Bh at hm
 refine ⟨_,(A4 (Az (B9 (AL K (AS (AZ (K:=K) rfl) (by rfl) T.isinstance_ AG (A2 (pv 0) (A2 (BK (v:=.ty "str") rfl T.str_ DU rfl) A6))))) (A4 (AQ C1)
   A5) A5)
   (A4 (Ac (i:=1) DF Ap)
   (A4 (DA PassesOwn.never rfl (B7 (K:=K) rfl (pv 0)) (Bq (i:=2) DF) (A4 (Az (PW.pt (Bi (AM Jq (pv 2) Ap (AW _)) (Bi (AM GV (pv 2) Ap (AW _)) (Bm (AM op_leU (pv 2) (pv 1) (AW _)))))) (A4 (AQ C1)
   A5) A5)
   (A4 (Ac (i:=1) DF (pv 2))
   A5)))
   (A4 (AQ C1)
   A5)))),?_⟩
 clear 2 b1 h2;refine B2 (BB (Ce (K:=K) (Bl (b:=true) (by decide +kernel) (A8 AB)))) h2 xt.gh fun G3 H4 x5=>?_;clear 1 x5 AB
 cases b1 with
 | true =>
  clear 3;exact AR (K:=K) (rest:=Bj) (σ:=[some B4,none,none]) Dd hm xt.gh fun v6 G7 H8 x9 r10=>q v6 G7 H8 (xt.trans x9) r10
 | false =>
  clear 4;clear 2 KH h16;refine Av (K:=K) CH h16 xt.gh fun v11 G12 H13 x14 r15=>?_;clear 1 x14 AB;clear 2 as17 h18 fl19 h20;refine D6 (K:=K) (RR:=fun r v G' H'=>Ext G0 H0 G' H'/\Rp.rel K G' v r) (iw_str (A8 AB)) h18 h20 xt.gh fun G21 H22 x23=>⟨fun s24 S' G' H'=>∃ (v25:V) (v26:Option V),Ext G0 H0 G' H'/\Same G21 G'/\S'=[some B4,some v25,v26]/\Rp.rel K G' v25 (s24:Str),?_,?_,?_,?_,?_⟩
  ·clear 1 x23 r15;exact ⟨v11,_,xt,(Same.refl _),rfl,r15⟩
  ·rintro _ S' G' H' ⟨v25,v26,xt,mk27,rfl,r28⟩;exact ⟨mk27,xt.gh⟩
  ·rintro xv29 a30 s24 _ G33 H34 fl31 - ⟨v25,v26,xt,mk27,rfl,r28⟩ rx32 hm D' kN35 kC36 kB37 kR38;refine CM ?_;clear 2 b39 h40;refine B2 (Cu (AN (K:=K) (JD (A8 rx32) CH)) (Cu (AN (K:=K) (JD (A8 rx32) CH)) (AN (K:=K) (JD (A8 rx32) (A8 r28))))) h40 xt.gh fun G41 H42 x43=>?_;clear 1 x43 rx32 3 mk27
   cases b39 with
   | true =>
    clear 3;clear 2 rr49 h50;cases hm;exact AR (K:=K) (rest:=Bj) (σ:=[some B4,some v25,some xv29]) Dd h50 xt.gh fun v44 G45 H46 x47 r48=>kR38 _ v44 G45 H46 rfl ⟨xt.trans x47,r48⟩
   | false =>
    clear 4;clear 2 KH h56;refine Av (K:=K) (A8 rx32) h56 xt.gh fun v51 G52 H53 x54 r55=>?_;clear 1 x54 3 mk27;cases hm;exact kN35 _ _ _ _ rfl ⟨v51,_,xt,mk27,rfl,r55⟩
  ·rintro s24 _ G61 H62 rfl ⟨v57,v58,xt,mk59,rfl,r60⟩;refine EX ?_;exact AR (K:=K) (rest:=Bj) (σ:=[some B4,some v57,v58]) Dd hm xt.gh fun v63 G64 H65 x66 r67=>q v63 G64 H65 (xt.trans x66) r67
  ·clear 5
theorem II (F:DIn K mg "read_moment" Dy)(T:Txt mg)(Ca:Eh P w K mg base):FE P w K mg base:=by
 refine F.okM1 (m:=Bv) I0 fun _ _ _ _ _ H0 _ _ hr G0 word_ res M0 xt Bk hm q=>?_;unfold Bv at hm
 refine ⟨_,(A4 (Az (AM CZ (pv 0) Ap (AW _)) (A4 (AQ Ap)
   A5) A5)
   (A4 (Az (PW.pt (Bi (AM CZ (pv 0) Ap (AW _)) (Bm (B9 (AL K (AK Ca hr (by decide) rfl (A2 (pv 0) A6))))))) (A4 Eg
   A5) A5)
   (A4 (AQ (pv 0))
   A5))),?_⟩
 clear 2 b1 h2;refine B2 (AN (K:=K) (ER (A8 Bk) CH)) h2 xt.gh fun G3 H4 x5=>?_;clear 1 x5 Bk
 cases b1 with
 | true =>
  clear 3;exact AR (K:=K) (rest:=Bj) (σ:=[some M0]) CH hm xt.gh fun v6 G7 H8 x9 r10=>q v6 G7 H8 (xt.trans x9) r10
 | false =>
  clear 4;clear 2 b14 h15;refine B2 (Df (AN (K:=K) (ER (A8 Bk) CH)) (BB (Ce (K:=K) (BO (m:=EL) (A8 Bk))))) h15 xt.gh fun G16 H17 x18=>?_;clear 1 x18 Bk
  cases b14 with
  | true =>
   clear 3;exact nomatch hm
  | false =>
   clear 4;exact AR (K:=K) (A8 Bk) hm xt.gh fun v19 G20 H21 x22 r23=>q v19 G20 H21 (xt.trans x22) r23
theorem ID (F:DIn K mg "read_number" Dz)(T:Txt mg):Dx P w K mg base:=by
 refine F.okM1 (m:=BG) Hk fun _ _ _ _ _ H0 _ _ hr G0 word_ res M0 xt Bk hm q=>?_;unfold BG at hm
 refine ⟨_,(A4 (Az (PW.pt (Bi (AM CZ (pv 0) Ap (AW _)) (Bi (AM GV (Aj K T.len_ (pv 0)) (GF rfl T.MOST_FIGURES) (AW _)) (Bm (B9 (AL K (AS (E5 (K:=K) rfl rfl) (by rfl) T.all_ HX (A2 (Bz (cn:=[]) (cap:=[]) rfl ⟨by decide +kernel,rfl,by decide +kernel,BQ rfl⟩ rfl (by decide +kernel) trivial (B7 (K:=K) rfl (pv 0)) (fun C s0 H0 fp=>⟨BS,(HG MX (pv 0) (pe_globS rfl T.FIGURES) rfl)⟩)) A6)))))))) (A4 Eg
   A5) A5)
   (A4 (AQ (B6 Mb (by rfl) T.int_ LC (A2 (pv 0) A6)))
   A5)),?_⟩
 clear 2 b10 h11;refine B2 (Df (AN (K:=K) (ER (A8 Bk) CH)) (Df (AN (K:=K) (FR (ev_lenS (A8 Bk)) Aw)) (BB (Ce (K:=K) (IK (FV.ev (Bp (cap:=[]) (fe:=fun (Ls:Str)=>(some (inS Ls ("0123456789" : Str)))) (iw_str (A8 Bk)) fun xc4 Ls Gc1 sc2 rc3=>(ev_inS (A8 rc3) CH)))))))) h11 xt.gh fun G12 H13 x14=>?_;clear 1 x14 Bk
 cases b10 with
 | true =>
  clear 3;exact nomatch hm
 | false =>
  clear 4;exact AR (K:=K) (ev_intT (A8 Bk)) hm xt.gh fun v16 G17 H18 x19 r20=>q v16 G17 H18 (xt.trans x19) r20
theorem Gv (F:DIn K mg "read_numbers" DW)(T:Txt mg)(Bu:Dx P w K mg base):Ef P w K mg base:=by
 refine F.okM1 (m:=BH) Gu fun _ _ _ _ _ H0 _ _ hr G0 words_ res KJ xt Am hm q=>?_;unfold BH at hm
 refine ⟨_,(A4 (AQ (Bz (cn:=[]) (cap:=[]) rfl ⟨by decide +kernel,rfl,by decide +kernel,BQ rfl⟩ rfl (by decide +kernel) trivial (B7 (K:=K) rfl (pv 0)) (fun C s0 H0 fp=>⟨BS,(AK Bu hr (by decide) rfl (A2 (pv 0) A6))⟩)))
   A5),?_⟩
 exact AR (K:=K) (FV.ev (Bp (cap:=[]) (fe:=fun (word_:Str)=>((some word_).bind fun t5=>BG t5)) (BU (A8 Am)) fun xc4 word_ Gc1 sc2 rc3=>(BO (m:=Db) (A8 rc3)))) hm xt.gh fun v7 G8 H9 x10 r11=>q v7 G8 H9 (xt.trans x10) r11
theorem LA (F:DIn K mg "lay_row" GH)(T:Txt mg)(Du:FE P w K mg base)(Cc:Ef P w K mg base)(Bu:Dx P w K mg base):Iy P w K mg base:=by
 refine F.ok L4 bn2 (fun vs H Q E h=>(spQ_len h).trans rfl) (fun _ cdv A outer s H0 vs Q E hr h=>?_);obtain ⟨G0,LP,us,p0,p1,p2,p3,machine_,⟨words_,⟨⟩⟩,res,rfl,sg0,o,⟨KJ,_,rfl,Am,rfl⟩,hm,q⟩:=h;replace Am:Rp.rel K G0 KJ words_:=Am;replace hm:BW machine_ words_=some res:=hm;unfold BW at hm;have xt:Ext G0 (era H0 [p0,p1,p2,p3]) G0 H0:=Ext.begin sg0
 refine ⟨_,(A4 (Az (PW.pt (pw_and (AM CZ (AF K (pv 1) A7) Ap (AW _)) (Ld (AM CZ (Aj K T.len_ (pv 1)) A7 (AW _))))) (A4 (BN (BC K (AF K (pv 0) A7) (AK Du hr (by decide) rfl (A2 (AF K (pv 1) A7) A6)))) A5)
   (A4 (Az (AM CZ (AF K (pv 1) A7) Ap (AW _)) (A4 (BN (BC K (AF K (pv 0) A7) (B6 (MA (K:=K) rfl) (by rfl) T.tuple_ Ec (A2 (AK Cc hr (by decide) rfl (A2 (Et (Fj (K:=K) rfl) (pv 1) (F3 A7) EN) A6)) A6)))) A5)
   (A4 (Az (PW.pt (pw_and (AM CZ (AF K (pv 1) A7) Ap (AW _)) (Ld (AM CZ (Aj K T.len_ (pv 1)) A7 (AW _))))) (A4 (BN (BC K (AF K (pv 0) A7) (AK Bu hr (by decide) rfl (A2 (AF K (pv 1) A7) A6)))) A5)
   (A4 (Az (AM CZ (AF K (pv 1) A7) Ap (AW _)) (A4 (BN (BC K (AF K (pv 0) A7) (AK Cc hr (by decide) rfl (A2 (Et (Fj (K:=K) rfl) (pv 1) (F3 A7) EN) A6)))) A5)
   (A4 Eg A5)) A5)) A5)) A5)) A5),?_⟩
 clear 2 b5 h6;refine B2 (tv_and (AN (K:=K) (ER (Ed (A8 Am) Aw) CH)) (AN (K:=K) (DM (By (A8 Am)) Aw))) h6 xt.gh fun G7 H8 x9=>?_;clear 1 x9 Am 2 o
 cases b5 with
 | true =>
  clear 3;clear 2 x hx l hl;cases hm;refine sq_app0 (K:=K) rfl o (BO (m:=Ep) (Ed (A8 Am) Aw)) hx hl xt.gh fun G9 Ha Hb y e o=>?_;obtain ⟨_,oo⟩:=o.o0;exact q _ _ ((xt.trans y).alt (IB (by simp)) oo.g e) o
 | false =>
  clear 4;clear 2 b5 h6;refine B2 (AN (K:=K) (ER (Ed (A8 Am) Aw) CH)) h6 xt.gh fun G7 H8 x9=>?_;clear 1 x9 Am 2 o
  cases b5 with
  | true =>
   clear 3;clear 2 x hx l hl;cases hm;refine sq_app1 (K:=K) rfl o (ev_pairT (ev_tuple (BO (m:=D2) (FV.ev (Ez (A8 Am) (Fu (K:=K) Aw) EK))))) hx hl xt.gh fun G9 Ha Hb y e o=>?_;obtain ⟨_,oo⟩:=o.o1;exact q _ _ ((xt.trans y).alt (IB (by simp)) oo.g e) o
  | false =>
   clear 4;clear 2 b5 h6;refine B2 (tv_and (AN (K:=K) (ER (Ed (A8 Am) Aw) CH)) (AN (K:=K) (DM (By (A8 Am)) Aw))) h6 xt.gh fun G7 H8 x9=>?_;clear 1 x9 Am 2 o
   cases b5 with
   | true =>
    clear 3;clear 2 x hx l hl;cases hm;refine sq_app2 (K:=K) rfl o (BO (m:=Db) (Ed (A8 Am) Aw)) hx hl xt.gh fun G9 Ha Hb y e o=>?_;obtain ⟨_,oo⟩:=o.o2;exact q _ _ ((xt.trans y).alt (IB (by simp)) oo.g e) o
   | false =>
    clear 4;clear 2 b5 h6;refine B2 (AN (K:=K) (ER (Ed (A8 Am) Aw) CH)) h6 xt.gh fun G7 H8 x9=>?_;clear 1 x9 Am 2 o
    cases b5 with
    | true =>
     clear 3;clear 2 x hx l hl;cases hm;refine sq_app3 (K:=K) rfl o (BO (m:=D2) (FV.ev (Ez (A8 Am) (Fu (K:=K) Aw) EK))) hx hl xt.gh fun G9 Ha Hb y e o=>?_;obtain ⟨_,oo⟩:=o.o3;exact q _ _ ((xt.trans y).alt (IB (by simp)) oo.g e) o
    | false =>
     clear 4;exact nomatch hm
theorem FW (F:DIn K mg "is_number_below" Cg)(T:Txt mg):Cm P w K mg base:=by
 refine F.okM2 (m:=Ai) FQ fun _ _ _ _ _ H0 _ _ hr G0 thing_ Cn res B4 E4 xt AB Br hm q=>?_;unfold Ai at hm
 refine ⟨_,(A4 (AQ (GI (AS (AZ (K:=K) rfl) (by rfl) T.isinstance_ AG (A2 (pv 0) (A2 (BK (v:=.ty "int") rfl T.int_ LC rfl) A6))) (GI (pe_not (AS (AZ (K:=K) rfl) (by rfl) T.isinstance_ AG (A2 (pv 0) (A2 (BK (v:=.ty "bool") rfl T.bool_ Lb rfl) A6)))) (HQ (pe_chain op_leU Jq A7 (pv 0) (pv 1))))))
   A5),?_⟩
 exact AR (K:=K) (GL (Bl (b:=true) (by decide +kernel) (A8 AB)) (GL (ev_not (Bl (b:=false) (by decide +kernel) (A8 AB))) (ev_chain Aw (A8 AB) (A8 Br)))) hm xt.gh fun v7 G8 H9 x10 r11=>q v7 G8 H9 (xt.trans x10) r11
theorem FA (F:DIn K mg "are_numbers_once" CT)(T:Txt mg)(B1:Cm P w K mg base):CQ P w K mg base:=by
 refine F.okM2 (m:=Ak) FB fun _ _ _ _ _ H0 _ _ hr G0 thing_ Cn res B4 E4 xt AB Br hm q=>?_;unfold Ak at hm
 refine ⟨_,(A4 (Az (PW.pt (Bi (B9 (AL K (AS (AZ (K:=K) rfl) (by rfl) T.isinstance_ AG (A2 (pv 0) (A2 (BK (v:=.ty "list") rfl T.list_ CB rfl) A6))))) (Bm (B9 (AL K (AS (E5 (K:=K) rfl rfl) (by rfl) T.all_ HX (A2 (Bz (cn:=["count"]) (cap:=[1]) rfl ⟨by decide +kernel,rfl,by decide +kernel,BQ rfl⟩ rfl (by decide +kernel) ⟨⟨rfl,.inl rfl,rfl⟩,trivial⟩ (B7 (K:=K) rfl (pv 0)) (fun C s0 H0 fp=>⟨BS,(AK B1 hr (by decide) rfl (A2 (pv 0) (A2 (pv 1) A6)))⟩)) A6))))))) (A4 (AQ C1)
   A5) A5)
   (A4 (AQ (HG CZ (AS (K7 (w:=w) rfl) (by rfl) T.len_ Kv (A2 (B6 (Ma (K:=K) (w:=w) rfl rfl rfl) (by rfl) T.set_ bt_set (A2 (pv 0) A6)) A6)) (Aj K T.len_ (pv 0)) (AW _)))
   A5)),?_⟩
 clear 2 b11 h12;refine B2 (Df (BB (Ce (K:=K) (Bl (b:=true) (by decide +kernel) (A8 AB)))) (BB (Ce (K:=K) (IK (FV.ev (Bp (cap:=[1]) (fe:=fun (BP:Int)=>((some BP).bind fun t5=>(some Cn).bind fun t6=>Ai t5 t6)) (BU (A8 AB)) fun xc4 BP Gc1 sc2 rc3=>(Ag (m:=Bn) (A8 rc3) (A8 (Rp.mono sc2 Br))))))))) h12 xt.gh fun G13 H14 x15=>?_;clear 1 x15 AB
 cases b11 with
 | true =>
  clear 3;exact AR (K:=K) (rest:=Bj) (σ:=[some B4,some E4]) Dd hm xt.gh fun v16 G17 H18 x19 r20=>q v16 G17 H18 (xt.trans x19) r20
 | false =>
  clear 4;exact AR (K:=K) (DM (M5 (w:=w) (A8 AB)) (By (A8 AB))) hm xt.gh fun v23 G24 H25 x26 r27=>q v23 G24 H25 (xt.trans x26) r27
theorem Jj (F:DIn K mg "are_marks" Ek)(T:Txt mg)(BD:CQ P w K mg base):Gf P w K mg base:=by
 refine F.okM2 (m:=CY) Jc fun _ _ _ _ _ H0 _ _ hr G0 thing_ many_ways_ res B4 JF xt AB EQ hm q=>?_;unfold CY at hm
 refine ⟨_,(A4 (Az (PW.pt (Bi (B9 (AL K (AS (AZ (K:=K) rfl) (by rfl) T.isinstance_ AG (A2 (pv 0) (A2 (BK (v:=.ty "list") rfl T.list_ CB rfl) A6))))) (Bm (AM GV (Aj K T.len_ (pv 0)) (GF rfl T.MOST_MARKS) (AW _))))) (A4 (AQ C1)
   A5) A5)
   (A4 (AQ (AS (E5 (K:=K) rfl rfl) (by rfl) T.all_ HX (A2 (Bz (cn:=["many_ways"]) (cap:=[1]) rfl ⟨by decide +kernel,rfl,by decide +kernel,BQ rfl⟩ rfl (by decide +kernel) ⟨⟨rfl,.inl rfl,rfl⟩,trivial⟩ (B7 (K:=K) rfl (pv 0)) (fun C s0 H0 fp=>⟨BS,(AK BD hr (by decide) rfl (A2 (pv 0) (A2 (pv 1) A6)))⟩)) A6)))
   A5)),?_⟩
 clear 2 b1 h2;refine B2 (Cu (BB (Ce (K:=K) (Bl (b:=true) (by decide +kernel) (A8 AB)))) (AN (K:=K) (FR (By (A8 AB)) Aw))) h2 xt.gh fun G3 H4 x5=>?_;clear 1 x5 AB EQ
 cases b1 with
 | true =>
  clear 3;exact AR (K:=K) (rest:=Bj) (σ:=[some B4,some JF]) Dd hm xt.gh fun v6 G7 H8 x9 r10=>q v6 G7 H8 (xt.trans x9) r10
 | false =>
  clear 4;exact AR (K:=K) (IK (FV.ev (Bp (cap:=[1]) (fe:=fun (Co:(List Int))=>((some Co).bind fun t15=>(some many_ways_).bind fun t16=>Ak t15 t16)) (BU (A8 AB)) fun xc14 Co Gc11 sc12 rc13=>(Ag (m:=CD) (A8 rc13) (A8 (Rp.mono sc12 EQ)))))) hm xt.gh fun v19 G20 H21 x22 r23=>q v19 G20 H21 (xt.trans x22) r23
theorem HZ (F:DIn K mg "are_moments" Dr)(T:Txt mg)(Ca:Eh P w K mg base):FI P w K mg base:=by
 refine F.okM1 (m:=Bs) Hg fun _ _ _ _ _ H0 _ _ hr G0 thing_ res B4 xt AB hm q=>?_;unfold Bs at hm
 refine ⟨_,(A4 (Az (PW.pt (Bi (B9 (AL K (AS (AZ (K:=K) rfl) (by rfl) T.isinstance_ AG (A2 (pv 0) (A2 (BK (v:=.ty "list") rfl T.list_ CB rfl) A6))))) (Bi (AM CZ (Aj K T.len_ (pv 0)) A7 (AW _)) (Bm (AM GV (Aj K T.len_ (pv 0)) (GF rfl T.MOST_STATES) (AW _)))))) (A4 (AQ C1)
   A5) A5)
   (A4 (AQ (AS (E5 (K:=K) rfl rfl) (by rfl) T.all_ HX (A2 (Bz (cn:=[]) (cap:=[]) rfl ⟨by decide +kernel,rfl,by decide +kernel,BQ rfl⟩ rfl (by decide +kernel) trivial (B7 (K:=K) rfl (pv 0)) (fun C s0 H0 fp=>⟨BS,(AK Ca hr (by decide) rfl (A2 (pv 0) A6))⟩)) A6)))
   A5)),?_⟩
 clear 2 b1 h2;refine B2 (Cu (BB (Ce (K:=K) (Bl (b:=true) (by decide +kernel) (A8 AB)))) (Cu (AN (K:=K) (DM (By (A8 AB)) Aw)) (AN (K:=K) (FR (By (A8 AB)) Aw)))) h2 xt.gh fun G3 H4 x5=>?_;clear 1 x5 AB
 cases b1 with
 | true =>
  clear 3;exact AR (K:=K) (rest:=Bj) (σ:=[some B4]) Dd hm xt.gh fun v6 G7 H8 x9 r10=>q v6 G7 H8 (xt.trans x9) r10
 | false =>
  clear 4;exact AR (K:=K) (IK (FV.ev (Bp (cap:=[]) (fe:=fun (CA:Str)=>((some CA).bind fun t15=>Bh t15)) (BU (A8 AB)) fun xc14 CA Gc11 sc12 rc13=>(BO (m:=EL) (A8 rc13))))) hm xt.gh fun v18 G19 H20 x21 r22=>q v18 G19 H20 (xt.trans x21) r22
theorem MZ (F:DIn K mg "is_way" IL)(T:Txt mg)(B1:Cm P w K mg base):KI P w K mg base:=by
 refine F.okM2 (m:=DN) MD fun _ _ _ _ _ H0 _ _ hr G0 thing_ Cn res B4 E4 xt AB Br hm q=>?_;unfold DN at hm
 refine ⟨_,(A4 (Az (PW.pt (Bi (B9 (AL K (AS (AZ (K:=K) rfl) (by rfl) T.isinstance_ AG (A2 (pv 0) (A2 (BK (v:=.ty "tuple") rfl T.tuple_ Ec rfl) A6))))) (Bm (AM Fw (Aj K T.len_ (pv 0)) A7 (AW _))))) (A4 (AQ C1)
   A5) A5)
   (A4 (AQ (GI (AK B1 hr (by decide) rfl (A2 (AF K (pv 0) A7) (A2 (pv 1) A6))) (HQ (AK B1 hr (by decide) rfl (A2 (AF K (pv 0) A7) (A2 (pv 1) A6))))))
   A5)),?_⟩
 clear 2 b1 h2;refine B2 (Cu (BB (Ce (K:=K) (Bl (b:=true) (by decide +kernel) (A8 AB)))) (AN (K:=K) (GT (ev_len2 (A8 AB)) Aw))) h2 xt.gh fun G3 H4 x5=>?_;clear 1 x5 AB Br
 cases b1 with
 | true =>
  clear 3;exact AR (K:=K) (rest:=Bj) (σ:=[some B4,some E4]) Dd hm xt.gh fun v6 G7 H8 x9 r10=>q v6 G7 H8 (xt.trans x9) r10
 | false =>
  clear 4;exact AR (K:=K) (GL (Ag (m:=Bn) (ev_fst (A8 AB)) (A8 Br)) (Ag (m:=Bn) (ev_snd (A8 AB)) (A8 Br))) hm xt.gh fun v16 G17 H18 x19 r20=>q v16 G17 H18 (xt.trans x19) r20
theorem KR (F:DIn K mg "are_ways" Fc)(T:Txt mg)(IH:KI P w K mg base):Hn P w K mg base:=by
 refine F.okM2 (m:=Ct) Kk fun _ _ _ _ _ H0 _ _ hr G0 thing_ Cn res B4 E4 xt AB Br hm q=>?_;unfold Ct at hm
 refine ⟨_,(A4 (Az (PW.pt (Bi (B9 (AL K (AS (AZ (K:=K) rfl) (by rfl) T.isinstance_ AG (A2 (pv 0) (A2 (BK (v:=.ty "list") rfl T.list_ CB rfl) A6))))) (Bm (AM GV (Aj K T.len_ (pv 0)) (GF rfl T.MOST_WAYS) (AW _))))) (A4 (AQ C1)
   A5) A5)
   (A4 (AQ (GI (AS (E5 (K:=K) rfl rfl) (by rfl) T.all_ HX (A2 (Bz (cn:=["count"]) (cap:=[1]) rfl ⟨by decide +kernel,rfl,by decide +kernel,BQ rfl⟩ rfl (by decide +kernel) ⟨⟨rfl,.inl rfl,rfl⟩,trivial⟩ (B7 (K:=K) rfl (pv 0)) (fun C s0 H0 fp=>⟨BS,(AK IH hr (by decide) rfl (A2 (pv 0) (A2 (pv 1) A6)))⟩)) A6)) (HQ (HG CZ (AS Mi (by rfl) T.len_ Kv (A2 (B6 (LH (K:=K) (w:=w) (hu60 hr) rfl rfl rfl) (by rfl) T.set_ bt_set (A2 (pv 0) A6)) A6)) (Aj K T.len_ (pv 0)) (AW _)))))
   A5)),?_⟩
 clear 2 b1 h2;refine B2 (Cu (BB (Ce (K:=K) (Bl (b:=true) (by decide +kernel) (A8 AB)))) (AN (K:=K) (FR (By (A8 AB)) Aw))) h2 xt.gh fun G3 H4 x5=>?_;clear 1 x5 AB Br
 cases b1 with
 | true =>
  clear 3;exact AR (K:=K) (rest:=Bj) (σ:=[some B4,some E4]) Dd hm xt.gh fun v6 G7 H8 x9 r10=>q v6 G7 H8 (xt.trans x9) r10
 | false =>
  clear 4;exact AR (K:=K) (GL (IK (FV.ev (Bp (cap:=[1]) (fe:=fun (way_:(Int × Int))=>((some way_).bind fun t15=>(some Cn).bind fun t16=>DN t15 t16)) (BU (A8 AB)) fun xc14 way_ Gc11 sc12 rc13=>(Ag (m:=J9) (A8 rc13) (A8 (Rp.mono sc12 Br)))))) (DM (Kq (w:=w) (A8 AB)) (By (A8 AB)))) hm xt.gh fun v22 G23 H24 x25 r26=>q v22 G23 H24 (xt.trans x25) r26
theorem IR (F:DIn K mg "is_machine" EG)(T:Txt mg)(BD:CQ P w K mg base)(Ey:Gf P w K mg base)(Dp:FI P w K mg base)(FX:Hn P w K mg base):Fp P w K mg base:=by
 refine F.okM1 (m:=Bo) Dt fun _ _ _ _ _ H0 _ _ hr G0 thing_ res B4 xt AB hm q=>?_;unfold Bo at hm
 refine ⟨_,(A4 (Az (PW.pt (Bi (B9 (AL K (AS (AZ (K:=K) rfl) (by rfl) T.isinstance_ AG (A2 (pv 0) (A2 (BK (v:=.ty "tuple") rfl T.tuple_ Ec rfl) A6))))) (Bm (AM Fw (Aj K T.len_ (pv 0)) A7 (AW _))))) (A4 (AQ C1)
   A5) A5)
   (A4 (Ac (i:=1) Dt (AF K (pv 0) A7))
   (A4 (Ac (i:=2) Dt (AF K (pv 0) A7))
   (A4 (Az (PW.pt (Bi (B9 (AL K (AK Dp hr (by decide) rfl (A2 (pv 1) A6)))) (Bm (B9 (AL K (AK FX hr (by decide) rfl (A2 (pv 2) (A2 (Aj K T.len_ (pv 1)) A6)))))))) (A4 (AQ C1)
   A5) A5)
   (A4 (AQ (GI (AK BD hr (by decide) rfl (A2 (AF K (pv 0) A7) (A2 (Aj K T.len_ (pv 1)) A6))) (HQ (AK Ey hr (by decide) rfl (A2 (AF K (pv 0) A7) (A2 (Aj K T.len_ (pv 2)) A6))))))
   A5))))),?_⟩
 clear 2 b1 h2;refine B2 (Cu (BB (Ce (K:=K) (Bl (b:=true) (by decide +kernel) (A8 AB)))) (AN (K:=K) (GT (LQ (A8 AB)) Aw))) h2 xt.gh fun G3 H4 x5=>?_;clear 1 x5 AB
 cases b1 with
 | true =>
  clear 3;exact AR (K:=K) (rest:=Bj) (σ:=[some B4,none,none]) Dd hm xt.gh fun v6 G7 H8 x9 r10=>q v6 G7 H8 (xt.trans x9) r10
 | false =>
  clear 4;clear 2 lit_ h16;refine Av (K:=K) (FS (A8 AB)) h16 xt.gh fun v11 G12 H13 x14 r15=>?_;clear 1 x14 AB;clear 2 ways_ h22;refine Av (K:=K) (DP (A8 AB)) h22 xt.gh fun v17 G18 H19 x20 r21=>?_;clear 1 x20 AB r15;clear 2 b29 h30;refine B2 (Df (BB (Ce (K:=K) (BO (m:=En) (A8 r15)))) (BB (Ce (K:=K) (Ag (m:=Gn) (A8 r21) (By (A8 r15)))))) h30 xt.gh fun G31 H32 x33=>?_;clear 1 x33 AB r15 r21
  cases b29 with
  | true =>
   clear 3;exact AR (K:=K) (rest:=Bj) (σ:=[some B4,some v11,some v17]) Dd hm xt.gh fun v34 G35 H36 x37 r38=>q v34 G35 H36 (xt.trans x37) r38
  | false =>
   clear 4;exact AR (K:=K) (GL (Ag (m:=CD) (GN (A8 AB)) (By (A8 r15))) (Ag (m:=Fq) (Dl (A8 AB)) (By (A8 r21)))) hm xt.gh fun v44 G45 H46 x47 r48=>q v44 G45 H46 (xt.trans x47) r48
theorem Gs (F:DIn K mg "read_machine" Dc)(T:Txt mg)(C0:Cz P w K mg base)(GW:Iy P w K mg base)(EA:Fp P w K mg base)(BY:DV P w K mg base):El P w K mg base:=by
 refine F.ok DC bn1 (fun vs H Q E h=>(spM4_len h).trans rfl) (fun _ cdv A outer s H0 vs Q E hr h=>?_);obtain ⟨G0,⟨text_,⟨⟩⟩,res,sg0,⟨LZ,_,rfl,C6,rfl⟩,hm,q⟩:=h;replace C6:Rp.rel K G0 LZ text_:=C6;replace hm:BX text_=some res:=hm;unfold BX at hm;have xt:Ext G0 H0 G0 H0:=Ext.refl sg0
 refine ⟨_,(A4 (BN (AK C0 hr (by decide) rfl (A2 (pv 0) A6)))
   (A4 (Ac (i:=1) DC (Ew (A2 (C4 A6) (A2 (C4 A6) (A2 (C4 A6) (A2 (C4 A6) A6))))))
   (A4 (DA PassesOwn.never rfl (B7 (K:=K) rfl (Dq (K:=K) rfl PySem.F.plainAttrs_str PySem.F.slot_str_split PySem.F.type_str_split KT (pv 0) (A2 Ap A6))) (Bq (i:=2) DC) (A4 (BN (AK GW hr (by decide) rfl (A2 (pv 1) (A2 (Dq (K:=K) rfl PySem.F.plainAttrs_str PySem.F.slot_str_split PySem.F.type_str_split KT (pv 2) (A2 Ap A6)) A6))))
   A5))
   (A4 (Az (PW.pt (Bi (B9 (AL K (AK EA hr (by decide) rfl (A2 (pv 1) A6)))) (Bm (AM Fw (AK BY hr (by decide) rfl (A2 (pv 1) A6)) (pv 0) (AW _))))) (A4 Eg
   A5) A5)
   (A4 (AQ (pv 1))
   A5))))),?_⟩
 clear 2 a2 h3;refine sv_drop (K:=K) (BO (m:=Cp) (A8 C6)) h3 xt.gh fun G4 H5 x6=>?_;clear 1 x6 C6;refine sv_ownQ (K:=K) (α:=Str) (β:=Int × Int) (γ:=Int) (δ:=List Int) xt.gh fun vq p0 p1 p2 p3 G7 H8 x9 z0 z1 z2 z3 o=>?_;clear 1 x9 C6 4 z0 z1 z2 z3;clear 2 as3 h4 fl5 h6;refine D6 (K:=K) (RR:=fun (r:Unit) v G' H'=>False) (BU (FV.ev (Jv (A8 C6) CH))) h4 h6 xt.gh fun G7 H8 x9=>⟨fun s10 S' G' H'=>∃ (v11:Option V),Ext G0 H0 G' H'/\Same G7 G'/\S'=[some LZ,some vq,v11]/\OwnQ K G' H' vq p0 p1 p2 p3 s10,?_,?_,?_,?_,?_⟩
 ·exact ⟨_,xt.trans x9,Same.refl _,rfl,o.ext x9⟩
 ·rintro _ S' G' H' ⟨v11,xt,mk12,rfl,o⟩;exact ⟨mk12,xt.gh⟩
 ·rintro xv13 a14 s10 _ G17 H18 fl15 - ⟨v11,xt,mk12,rfl,o⟩ rx16 hm D' kN19 kC20 kB21 kR22;refine CM ?_;clear 2 ca hc rz hz;refine sv_callQ (K:=K) (m:=EJ) rfl o (av_cons (FV.ev (Jv (A8 rx16) CH)) av_nil) hc hz xt.gh fun G1 H1 G2 H2 x y o=>?_;have xt:=(xt.trans x).past (C:=[p0,p1,p2,p3]) (fun b hb=>by simp only [qkA,qpB,or_false] at hb;rcases hb with e|e|e|e<;>(rw [e];assumption)) y;have mk12:=mk12.trans (x.gg.trans y.gg);cases hm;exact kN19 _ _ _ _ rfl ⟨_,xt,mk12,rfl,o⟩
 ·rintro s10 _ G65 H66 rfl ⟨v63,xt,mk64,rfl,o⟩;refine EX ?_;have C6:=Rp.mono (x9.gg.trans mk64) C6;obtain ⟨G',sg',xt',r5,n5⟩:=o.tell xt z0 z1 z2 z3;clear 9 sg' C6;clear 2 b12 h13;refine B2 (Df (BB (Ce (K:=K) (BO (m:=FG) (A8 r5)))) (AN (K:=K) (L5 (BO (m:=CO) (A8 r5)) (A8 C6)))) h13 xt'.gh fun G14 H15 x16=>?_;have xt:=xt'.trans x16
  cases b12 with
  | true =>
   clear 3;exact nomatch hm
  | false =>
   clear 4;cases hm;exact ⟨_,rfl,q _ _ _ _ _ _ _ xt (Rp.mono x16.gg r5) (n5.mono x16.gg)⟩
 ·rintro r v G' H' rfl h;cases h
theorem IY (F:DIn K mg "_law_listed" EE)(T:Txt mg):Fg P w K mg base:=by
 refine F.okM2 (m:=Au) FF fun _ _ _ _ _ H0 _ _ hr G0 found_ due_ res Bc Ci xt AH As hm q=>?_;unfold Au at hm
 refine ⟨_,(A4 (Az (PW.pt (Bi (B9 (AL K (AS (AZ (K:=K) rfl) (by rfl) T.isinstance_ AG (A2 (pv 0) (A2 (BK (v:=.ty "list") rfl T.list_ CB rfl) A6))))) (Bm (AM Fw (Aj K T.len_ (pv 0)) (Aj K T.len_ (pv 1)) (AW _))))) (A4 (AQ C1)
   A5) A5)
   (A4 (DA PassesOwn.never rfl (C8 rfl T.range_ (A2 (Aj K T.len_ (pv 1)) A6)) (Bq (i:=2) FF) (A4 (Az (AL K (AS (AZ (K:=K) rfl) (by rfl) T.isinstance_ AG (A2 (AF K (pv 1) (pv 2)) (A2 (BK (v:=.ty "str") rfl T.str_ DU rfl) A6)))) (A4 (Az (PW.pt (Bi (B9 (AL K (AS (AZ (K:=K) rfl) (by rfl) T.isinstance_ AG (A2 (AF K (pv 0) (pv 2)) (A2 (BK (v:=.ty "str") rfl T.str_ DU rfl) A6))))) (Bm (AM (LB (K:=K) rfl SI hr (by decide)) (AF K (pv 0) (pv 2)) (AF K (pv 1) (pv 2)) (AW _))))) (A4 (AQ C1)
   A5) A5)
   A5) (A4 (Az (PW.pt (Bi (B9 (AL K (AS (AZ (K:=K) rfl) (by rfl) T.isinstance_ AG (A2 (AF K (pv 0) (pv 2)) (A2 (BK (v:=.ty "int") rfl T.int_ LC rfl) A6))))) (Bi (AL K (AS (AZ (K:=K) rfl) (by rfl) T.isinstance_ AG (A2 (AF K (pv 0) (pv 2)) (A2 (BK (v:=.ty "bool") rfl T.bool_ Lb rfl) A6)))) (Bm (AM (LB (K:=K) rfl SI hr (by decide)) (AF K (pv 0) (pv 2)) (AF K (pv 1) (pv 2)) (AW _)))))) (A4 (AQ C1)
   A5) A5)
   A5))
   A5))
   (A4 (AQ C1)
   A5))),?_⟩
 clear 2 b7 h8;refine B2 (Df (BB (Ce (K:=K) (Ex (by decide) (A8 AH)))) (AN (K:=K) (GT (JS (A8 AH)) (JS (A8 As))))) h8 xt.gh fun G9 H10 x11=>?_;clear 1 x11 AH As
 cases b7 with
 | true =>
  clear 3;exact AR (K:=K) (rest:=Bj) (σ:=[some Bc,some Ci,none]) Dd hm xt.gh fun v12 G13 H14 x15 r16=>q v12 G13 H14 (xt.trans x15) r16
 | false =>
  clear 4;clear 2 as19 h20 fl21 h22;refine D6 (K:=K) (RR:=fun r v G' H'=>Ext G0 H0 G' H'/\Rp.rel K G' v r) (DG (JS (A8 As))) h20 h22 xt.gh fun G23 H24 x25=>⟨fun s26 S' G' H'=>∃ (v27:Option V),Ext G0 H0 G' H'/\Same G23 G'/\S'=[some Bc,some Ci,v27],?_,?_,?_,?_,?_⟩
  ·clear 1 x25;exact ⟨_,xt,(Same.refl _),rfl⟩
  ·rintro _ S' G' H' ⟨v27,xt,mk28,rfl⟩;exact ⟨mk28,xt.gh⟩
  ·rintro xv29 a30 s26 _ G33 H34 fl31 - ⟨v27,xt,mk28,rfl⟩ rx32 hm D' kN35 kC36 kB37 kR38;have AH:=Rp.mono (x25.gg.trans mk28) AH;have As:=Rp.mono (x25.gg.trans mk28) As;refine CM ?_;clear 2 b42 h43;refine B2 (Ce (K:=K) (Ex (by decide) (Eu (A8 As) (A8 rx32)))) h43 xt.gh fun G44 H45 x46=>?_;clear 1 x46 AH As rx32 3 mk28
   cases b42 with
   | true =>
    clear 3;clear 2 b66 h67;refine B2 (Df (BB (Ce (K:=K) (Ex (by decide) (Eu (A8 AH) (A8 rx32))))) (AN (K:=K) (ev_ne (HN (Eu (A8 AH) (A8 rx32))) (HN (Eu (A8 As) (A8 rx32)))))) h67 xt.gh fun G68 H69 x70=>?_;clear 1 x70 3 mk28
    cases b66 with
    | true =>
     clear 3;clear 2 rr76 h77;cases hm;exact AR (K:=K) (rest:=Bj) (σ:=[some Bc,some Ci,some xv29]) Dd h77 xt.gh fun v71 G72 H73 x74 r75=>kR38 _ v71 G72 H73 rfl ⟨xt.trans x74,r75⟩
    | false =>
     clear 4;cases hm;exact kN35 _ _ _ _ rfl ⟨_,xt,mk28,rfl⟩
   | false =>
    clear 4;clear 2 b101 h102;refine B2 (Df (BB (Ce (K:=K) (Ex (by decide) (Eu (A8 AH) (A8 rx32))))) (Df (Ce (K:=K) (Ex (by decide) (Eu (A8 AH) (A8 rx32)))) (AN (K:=K) (ev_ne (HN (Eu (A8 AH) (A8 rx32))) (HN (Eu (A8 As) (A8 rx32))))))) h102 xt.gh fun G103 H104 x105=>?_;clear 1 x105 3 mk28
    cases b101 with
    | true =>
     clear 3;clear 2 rr111 h112;cases hm;exact AR (K:=K) (rest:=Bj) (σ:=[some Bc,some Ci,some xv29]) Dd h112 xt.gh fun v106 G107 H108 x109 r110=>kR38 _ v106 G107 H108 rfl ⟨xt.trans x109,r110⟩
    | false =>
     clear 4;cases hm;exact kN35 _ _ _ _ rfl ⟨_,xt,mk28,rfl⟩
  ·rintro s26 _ G115 H116 rfl ⟨v113,xt,mk114,rfl⟩;refine EX ?_;exact AR (K:=K) (rest:=Bj) (σ:=[some Bc,some Ci,v113]) Dd hm xt.gh fun v117 G118 H119 x120 r121=>q v117 G118 H119 (xt.trans x120) r121
  ·clear 5
theorem Fx (F:DIn K mg "_law_is_machine" Cs)(T:Txt mg)(C5:Fg P w K mg base):E7 P w K mg base:=by
 refine F.okM2 (m:=BE) Cj fun _ _ _ _ _ H0 _ _ hr G0 found_ due_ res Bc Ci xt AH As hm q=>?_;unfold BE at hm
 refine ⟨_,(A4 (Az (PW.pt (Bi (B9 (AL K (AS (AZ (K:=K) rfl) (by rfl) T.isinstance_ AG (A2 (pv 0) (A2 (BK (v:=.ty "tuple") rfl T.tuple_ Ec rfl) A6))))) (Bi (AM Fw (Aj K T.len_ (pv 0)) A7 (AW _)) (Bm (B9 (AL K (AS (AZ (K:=K) rfl) (by rfl) T.isinstance_ AG (A2 (AF K (pv 0) A7) (A2 (BK (v:=.ty "list") rfl T.list_ CB rfl) A6))))))))) (A4 (AQ C1)
   A5) A5)
   (A4 (Az (PW.pt (Bi (B9 (AL K (AK C5 hr (by decide) rfl (A2 (AF K (pv 0) A7) (A2 (AF K (pv 1) A7) A6))))) (Bi (B9 (AL K (AK C5 hr (by decide) rfl (A2 (AF K (pv 0) A7) (A2 (AF K (pv 1) A7) A6))))) (Bm (AM Fw (Aj K T.len_ (AF K (pv 0) A7)) (Aj K T.len_ (AF K (pv 1) A7)) (AW _)))))) (A4 (AQ C1)
   A5) A5)
   (A4 (DA PassesOwn.never rfl (C8 rfl T.range_ (A2 (Aj K T.len_ (AF K (pv 1) A7)) A6)) (Bq (i:=2) Cj) (A4 (Az (PW.pt (Bi (B9 (AL K (AS (AZ (K:=K) rfl) (by rfl) T.isinstance_ AG (A2 (AF K (AF K (pv 0) A7) (pv 2)) (A2 (BK (v:=.ty "tuple") rfl T.tuple_ Ec rfl) A6))))) (Bm (B9 (AL K (AK C5 hr (by decide) rfl (A2 (B6 (Cr (K:=K) rfl) (by rfl) T.list_ CB (A2 (AF K (AF K (pv 0) A7) (pv 2)) A6)) (A2 (B6 (Cr (K:=K) rfl) (by rfl) T.list_ CB (A2 (AF K (AF K (pv 1) A7) (pv 2)) A6)) A6)))))))) (A4 (AQ C1)
   A5) A5)
   A5))
   (A4 (Az (PW.pt (Bi (B9 (AL K (AS (AZ (K:=K) rfl) (by rfl) T.isinstance_ AG (A2 (AF K (pv 0) A7) (A2 (BK (v:=.ty "list") rfl T.list_ CB rfl) A6))))) (Bm (AM Fw (Aj K T.len_ (AF K (pv 0) A7)) (Aj K T.len_ (AF K (pv 1) A7)) (AW _))))) (A4 (AQ C1)
   A5) A5)
   (A4 (DA PassesOwn.never rfl (C8 rfl T.range_ (A2 (Aj K T.len_ (AF K (pv 1) A7)) A6)) (Bq (i:=2) Cj) (A4 (Az (B9 (AL K (AK C5 hr (by decide) rfl (A2 (AF K (AF K (pv 0) A7) (pv 2)) (A2 (AF K (AF K (pv 1) A7) (pv 2)) A6))))) (A4 (AQ C1)
   A5) A5)
   A5))
   (A4 (AQ C1)
   A5)))))),?_⟩
 clear 2 b1 h2;refine B2 (Cu (BB (Ce (K:=K) (Bl (b:=true) (by decide +kernel) (A8 AH)))) (Cu (AN (K:=K) (GT (LQ (A8 AH)) Aw)) (BB (Ce (K:=K) (Bl (b:=true) (by decide +kernel) (DP (A8 AH))))))) h2 xt.gh fun G3 H4 x5=>?_;clear 1 x5 AH As
 cases b1 with
 | true =>
  clear 3;exact AR (K:=K) (rest:=Bj) (σ:=[some Bc,some Ci,none]) Dd hm xt.gh fun v6 G7 H8 x9 r10=>q v6 G7 H8 (xt.trans x9) r10
 | false =>
  clear 4;clear 2 b19 h20;refine B2 (Df (BB (Ce (K:=K) (Ag (m:=CJ) (D9 (FS (A8 AH))) (D9 (FS (A8 As)))))) (Df (BB (Ce (K:=K) (Ag (m:=CJ) (D9 (GN (A8 AH))) (D9 (GN (A8 As)))))) (AN (K:=K) (GT (By (DP (A8 AH))) (By (DP (A8 As))))))) h20 xt.gh fun G21 H22 x23=>?_;clear 1 x23 AH As
  cases b19 with
  | true =>
   clear 3;exact AR (K:=K) (rest:=Bj) (σ:=[some Bc,some Ci,none]) Dd hm xt.gh fun v24 G25 H26 x27 r28=>q v24 G25 H26 (xt.trans x27) r28
  | false =>
   clear 4;clear 2 as30 h31 fl32 h33;refine D6 (K:=K) (RR:=fun r v G' H'=>Ext G0 H0 G' H'/\Rp.rel K G' v r) (DG (By (DP (A8 As)))) h31 h33 xt.gh fun G34 H35 x36=>⟨fun s37 S' G' H'=>∃ (v38:Option V),Ext G0 H0 G' H'/\Same G34 G'/\S'=[some Bc,some Ci,v38],?_,?_,?_,?_,?_⟩
   ·clear 1 x36;exact ⟨_,xt,(Same.refl _),rfl⟩
   ·rintro _ S' G' H' ⟨v38,xt,mk39,rfl⟩;exact ⟨mk39,xt.gh⟩
   ·rintro xv40 a41 s37 _ G44 H45 fl42 - ⟨v38,xt,mk39,rfl⟩ rx43 hm D' kN46 kC47 kB48 kR49;have AH:=Rp.mono (x36.gg.trans mk39) AH;have As:=Rp.mono (x36.gg.trans mk39) As;refine CM ?_;clear 2 b74 h75;refine B2 (Df (BB (Ce (K:=K) (Bl (b:=true) (by decide +kernel) (Ed (DP (A8 AH)) (A8 rx43))))) (BB (Ce (K:=K) (Ag (m:=CJ) (D9 (FV.ev (Jx (Io (D9 (Ed (DP (A8 AH)) (A8 rx43))))))) (D9 (FV.ev (Jx (Io (D9 (Ed (DP (A8 As)) (A8 rx43))))))))))) h75 xt.gh fun G76 H77 x78=>?_;clear 1 x78 3 mk39
    cases b74 with
    | true =>
     clear 3;clear 2 rr84 h85;cases hm;exact AR (K:=K) (rest:=Bj) (σ:=[some Bc,some Ci,some xv40]) Dd h85 xt.gh fun v79 G80 H81 x82 r83=>kR49 _ v79 G80 H81 rfl ⟨xt.trans x82,r83⟩
    | false =>
     clear 4;cases hm;exact kN46 _ _ _ _ rfl ⟨_,xt,mk39,rfl⟩
   ·rintro s37 _ G88 H89 rfl ⟨v86,xt,mk87,rfl⟩;refine EX ?_;have AH:=Rp.mono (x36.gg.trans mk87) AH;have As:=Rp.mono (x36.gg.trans mk87) As;clear 2 b90 h91;refine B2 (Cu (BB (Ce (K:=K) (Bl (b:=true) (by decide +kernel) (Dl (A8 AH))))) (AN (K:=K) (GT (By (Dl (A8 AH))) (By (Dl (A8 As)))))) h91 xt.gh fun G92 H93 x94=>?_;clear 1 x94 AH As
    cases b90 with
    | true =>
     clear 3;exact AR (K:=K) (rest:=Bj) (σ:=[some Bc,some Ci,v86]) Dd hm xt.gh fun v95 G96 H97 x98 r99=>q v95 G96 H97 (xt.trans x98) r99
    | false =>
     clear 4;clear 2 as101 h102 fl103 h104;refine D6 (K:=K) (RR:=fun r v G' H'=>Ext G0 H0 G' H'/\Rp.rel K G' v r) (DG (By (Dl (A8 As)))) h102 h104 xt.gh fun G105 H106 x107=>⟨fun s108 S' G' H'=>∃ (v109:Option V),Ext G0 H0 G' H'/\Same G105 G'/\S'=[some Bc,some Ci,v109],?_,?_,?_,?_,?_⟩
     ·clear 1 x107;exact ⟨_,xt,(Same.refl _),rfl⟩
     ·rintro _ S' G' H' ⟨v109,xt,mk110,rfl⟩;exact ⟨mk110,xt.gh⟩
     ·rintro xv111 a112 s108 _ G115 H116 fl113 - ⟨v109,xt,mk110,rfl⟩ rx114 hm D' kN117 kC118 kB119 kR120;have AH:=Rp.mono (x107.gg.trans mk110) AH;have As:=Rp.mono (x107.gg.trans mk110) As;refine CM ?_;clear 2 b130 h131;refine B2 (BB (Ce (K:=K) (Ag (m:=CJ) (D9 (Ed (Dl (A8 AH)) (A8 rx114))) (D9 (Ed (Dl (A8 As)) (A8 rx114)))))) h131 xt.gh fun G132 H133 x134=>?_;clear 1 x134 3 mk110
      cases b130 with
      | true =>
       clear 3;clear 2 rr140 h141;cases hm;exact AR (K:=K) (rest:=Bj) (σ:=[some Bc,some Ci,some xv111]) Dd h141 xt.gh fun v135 G136 H137 x138 r139=>kR120 _ v135 G136 H137 rfl ⟨xt.trans x138,r139⟩
      | false =>
       clear 4;cases hm;exact kN117 _ _ _ _ rfl ⟨_,xt,mk110,rfl⟩
     ·rintro s108 _ G144 H145 rfl ⟨v142,xt,mk143,rfl⟩;refine EX ?_;exact AR (K:=K) (rest:=Bj) (σ:=[some Bc,some Ci,v142]) Dd hm xt.gh fun v146 G147 H148 x149 r150=>q v146 G147 H148 (xt.trans x149) r150
     ·clear 5
   ·clear 5
theorem ok_law {f:Addr}{fd:FuncData}(F:Fun K "law" "law" s_law f fd)(T:Txt mg)(Do:FM P w K mg base)(Dk:FL P w K mg base)(CV:Da P w K mg base)(BY:DV P w K mg base)(Cd:El P w K mg base)(C7:E7 P w K mg base)(Aq:FT P w K mg base):FnOk P w K mg base CX0 6 f fd ["_law_script"] (spM K mm_law):=by
 refine F.ok DT (fun vs H Q E h=>(JL h).trans rfl) (fun cdv A outer s H0 vs Q E hr h=>?_);obtain ⟨G0,⟨script_,⟨⟩⟩,res,sg0,⟨Bg,_,rfl,AA,rfl⟩,hm,q⟩:=h;replace AA:Rp.rel K G0 Bg script_:=AA;replace hm:Kj script_=some res:=hm;unfold Kj at hm;have xt:Ext G0 H0 G0 H0:=Ext.refl sg0
 refine ⟨_,(A4 (Ac (i:=1) DT (AK Do hr (by decide) rfl (A2 (An BM (AK Aq hr (by decide) rfl (A2 (pv 0) (A2 A7 A6))) A7) A6)))
   (A4 (Ac (i:=2) DT (AK Dk hr (by decide) rfl (A2 (pv 0) (A2 (pv 1) A6))))
   (A4 (Az (AM CZ (An BM (AK Aq hr (by decide) rfl (A2 (pv 0) (A2 A7 A6))) A7) A7 (AW _)) (A4 (Ac (i:=3) DT (An BM (AK Aq hr (by decide) rfl (A2 (pv 0) (A2 A7 A6))) A7))
   (A4 (DS (i:=4) (KF DT) rfl (Or.inl rfl) (cn:=["_law_turn"]) (cap:=[3]) rfl ⟨by decide +kernel,rfl,by decide +kernel,BQ rfl⟩ rfl (by decide +kernel) ⟨⟨rfl,.inl rfl,rfl⟩,trivial⟩ (C8 rfl T.range_ (A2 A7 A6)) (fun C s0 H0 fp=>⟨BS,(Ew (A2 (An BM (Ad K (pv 0) (pv 1)) A7) (A2 (An BM (Ad K (An (Dg (K:=K) rfl) (pv 0) A7) (An Cy (pv 0) A7)) A7) A6)))⟩))
   (A4 (DS (i:=5) (KF DT) rfl (Or.inl rfl) (cn:=[]) (cap:=[]) rfl ⟨by decide +kernel,rfl,by decide +kernel,BQ rfl⟩ rfl (by decide +kernel) trivial (C8 rfl T.range_ (A2 A7 A6)) (fun C s0 H0 fp=>⟨BS,(pv 0)⟩))
   (A4 (Ac (i:=2) DT (Ew (A2 (An op_repR (Et (Fj (K:=K) rfl) (AF K (pv 2) A7) EN (F3 A7)) A7) (A2 (pv 4) (A2 (C4 (A2 A7 (A2 A7 (A2 A7 (A2 A7 (A2 A7 (A2 A7 (A2 A7 (A2 A7 A6))))))))) (A2 (C4 (A2 (Ad K (Et (Fj (K:=K) rfl) (pv 5) (F3 (pv 3)) EN) (Et (Fj (K:=K) rfl) (pv 5) EN (F3 (pv 3)))) (A2 (C4 A6) (A2 (MF (sl3_list (K:=K) rfl) (pv 5) EN EN (F3 (pe_un un_neg A7))) A6)))) A6))))))
   A5)))) A5)
   (A4 (Ac (i:=6) DT (AK CV hr (by decide) rfl (A2 (pv 2) A6)))
   (A4 (Ac (i:=7) DT (Ew (A2 (B6 (Cr (K:=K) rfl) (by rfl) T.list_ CB (A2 (AF K (pv 2) A7) A6)) (A2 (B6 (Cr (K:=K) rfl) (by rfl) T.list_ CB (A2 (AF K (pv 2) A7) A6)) (A2 (B6 (Cr (K:=K) rfl) (by rfl) T.list_ CB (A2 (AF K (pv 2) A7) A6)) (A2 (Bz (cn:=[]) (cap:=[]) rfl ⟨by decide +kernel,rfl,by decide +kernel,BQ rfl⟩ rfl (by decide +kernel) trivial (B7 (K:=K) rfl (AF K (pv 2) A7)) (fun C s0 H0 fp=>⟨BS,(B6 (Cr (K:=K) rfl) (by rfl) T.list_ CB (A2 (pv 0) A6))⟩)) A6))))))
   (A4 (Ac (i:=8) DT (AK BY hr (by decide) rfl (A2 (pv 7) A6)))
   (A4 (Az (PW.pt (Bi (B9 (AL K (AS (AZ (K:=K) rfl) (by rfl) T.isinstance_ AG (A2 (pv 8) (A2 (BK (v:=.ty "str") rfl T.str_ DU rfl) A6))))) (Bi (AM Fw (pv 8) (pv 6) (AW _)) (Bm (AM (LB (K:=K) rfl (T4 (List Str) (List (Int × Int)) (List Int) (List (List Int))) hr (by decide)) (pv 7) (pv 2) (AW _)))))) (A4 (AQ C1)
   A5) A5)
   (A4 (Ac (i:=9) DT (AK Cd hr (by decide) rfl (A2 (pv 6) A6)))
   (A4 (Az (B9 (AL K (AK C7 hr (by decide) rfl (A2 (pv 9) (A2 (pv 2) A6))))) (A4 (AQ C1)
   A5) A5)
   (A4 (BN (BC K (AF K (pv 9) A7) Ap))
   (A4 (BN (BC K (AF K (pv 9) A7) (Ew (A2 A7 (A2 A7 A6)))))
   (A4 (BN (pe_bm0K (K:=K) rfl PySem.F.plainAttrs_list PySem.F.slot_list_clear PySem.F.type_list_clear mt_clear (AF K (pv 9) A7)))
   (A4 (BN (BC K (AF K (pv 9) A7) (C4 (A2 A7 A6))))
   (A4 (AQ (GI (AK C7 hr (by decide) rfl (A2 (AK Cd hr (by decide) rfl (A2 (pv 6) A6)) (A2 (pv 2) A6))) (HQ (HG CZ (AK BY hr (by decide) rfl (A2 (pv 7) A6)) (pv 6) (AW _)))))
   A5)))))))))))))),?_⟩
 clear 2 BF h10;refine Av (K:=K) (BO (m:=Ev) (BJ (Ag (m:=Ay) (A8 AA) Aw))) h10 xt.gh fun v5 G6 H7 x8 r9=>?_;clear 1 x8 AA;clear 2 machine_here_ h18;refine Av (K:=K) (Ag (m:=Er) (A8 AA) (A8 r9)) h18 xt.gh fun v13 G14 H15 x16 r17=>?_;clear 1 x16 AA r9;clear 2 b23 h24 s28 h29
 try (with_reducible refine nxt_ ?_;dsimp only)
 refine E9 (t:=Ie _ _ _) (fun S88 H87=>∃ (G86:Hp) (v31:V) (v33:Option V) (v35:Option V) (v37:Option V),Ext G0 H0 G86 H87/\Same G14 G86/\S88=[some Bg,some v5,some v31,v33,v35,v37,none,none,none,none]/\Rp.rel K G86 v31 (s28:(T4 (List Str) (List (Int × Int)) (List Int) (List (List Int))))) (fun nx kn39=>?_) ?_
 ·refine B2 (AN (K:=K) (DM (BJ (Ag (m:=Ay) (A8 AA) Aw)) Aw)) h24 xt.gh fun G25 H26 x27=>?_;clear 1 x27 AA r17;have mk30:Same G14 G25:=x27.gg;have hm:=h29
  cases b23 with
  | true =>
   clear 3;clear 2 K2 h48;refine Av (K:=K) (BJ (Ag (m:=Ay) (A8 AA) Aw)) h48 xt.gh fun v43 G44 H45 x46 r47=>?_;clear 1 x46 r17 3 mk30;clear 2 ways_ h60;refine Av (K:=K) (FV.ev (Bp (cap:=[3]) (fe:=fun (k_:Int)=>(some (((k_+K2) % (8:Int)),(((k_ * (3:Int))+(k_ / (8:Int))) % (8:Int))))) (DG Aw) fun xc53 k_ Gc50 sc51 rc52=>(JR (BJ (CF (A8 rc52) (A8 (Rp.mono sc51 r47)))) (BJ (CF (Fk (A8 rc52)) (Cv (A8 rc52))))))) h60 xt.gh fun v55 G56 H57 x58 r59=>?_;clear 1 x58 r17 r47 3 mk30;clear 2 JX h72;refine Av (K:=K) (FV.ev (Bp (cap:=[]) (fe:=fun (k_:Int)=>(some k_)) (DG Aw) fun xc65 k_ Gc62 sc63 rc64=>(A8 rc64))) h72 xt.gh fun v67 G68 H69 x70 r71=>?_;clear 1 x70 r17 r47 r59 3 mk30;clear 2 machine_here_ h85;refine Av (K:=K) (JH (FV.ev (fv_rep (FV.ev (Ez (FS (A8 r17)) EK (Fu (K:=K) Aw))) Aw)) (A8 r59) (FV.ev (DB (B8 Aw (B8 Aw (B8 Aw (B8 Aw (B8 Aw (B8 Aw (B8 Aw (B8 Aw (D4 (α:=Int)))))))))))) (FV.ev (DB (B8 (FV.ev (JM (FV.ev (Ez (A8 r71) (Fu (K:=K) (A8 r47)) EK)) (FV.ev (Ez (A8 r71) EK (Fu (K:=K) (A8 r47)))))) (B8 (FV.ev (DB (D4 (α:=Int)))) (B8 (FV.ev (MW (c:=-1) (A8 r71) EK EK (ev_neg Aw))) (D4 (α:=(List Int))))))))) h85 xt.gh fun v80 G81 H82 x83 r84=>?_;clear 1 x83 3 mk30;cases hm;exact kn39 _ _ ⟨G81,v80,_,_,_,xt,mk30,rfl,r84⟩
  | false =>
   clear 4;cases hm;exact kn39 _ _ ⟨G25,v13,_,_,_,xt,mk30,rfl,r17⟩
 ·rintro _ H87 ⟨G86,v31,v33,v35,v37,xt,mk30,rfl,r32⟩;clear 2 text_ h95;refine Av (K:=K) (BO (m:=DD) (A8 r32)) h95 xt.gh fun v90 G91 H92 x93 r94=>?_;clear 1 x93 r32;clear 2 HH h107;refine Av (K:=K) (JH (FV.ev (HL (FS (A8 r32)))) (FV.ev (HL (DP (A8 r32)))) (FV.ev (HL (GN (A8 r32)))) (FV.ev (Bp (cap:=[]) (fe:=fun (Co:(List Int))=>(some Co)) (BU (Dl (A8 r32))) fun xc99 Co Gc96 sc97 rc98=>(FV.ev (HL (A8 rc98)))))) h107 xt.gh fun v102 G103 H104 x105 r106=>?_;clear 1 x105 r32 r94;clear 2 found_ h114;refine Av (K:=K) (BO (m:=CO) (A8 r106)) h114 xt.gh fun v109 G110 H111 x112 r113=>?_;clear 1 x112 r32 r94 r106;clear 2 b115 h116;refine B2 (Cu (BB (Ce (K:=K) (Bl (b:=true) (by decide +kernel) (A8 r113)))) (Cu (AN (K:=K) (L5 (A8 r113) (A8 r94))) (AN (K:=K) (ev_ne (A8 r106) (A8 r32))))) h116 xt.gh fun G117 H118 x119=>?_;clear 1 x119 r32 r94 r106
  cases b115 with
  | true =>
   clear 3;exact AR (K:=K) (rest:=Bj) (σ:=[some Bg,some v5,some v31,v33,v35,v37,some v90,some v102,some v109,none]) Dd hm xt.gh fun v120 G121 H122 x123 r124=>q v120 G121 H122 (xt.trans x123) r124
  | false =>
   clear 4;clear 2 LM h131;have xtA:=xt;have aT:=r94;have aM:=r32;have aH:=r106;refine sv_set4 (K:=K) (Kc (m:=D7) (A8 r94)) h131 xt.gh fun v126 z1 z2 z3 z4 G127 H128 x129 r130 n5=>?_;have yt:=x129;clear 1 x129 r32;clear 2 b135 h136;refine B2 (BB (Ce (K:=K) (Ag (m:=Cf) (A8 r130) (A8 r32)))) h136 xt.gh fun G137 H138 x139=>?_;clear 1 x139;have yt:=yt.trans x139;have n5:=n5.mono x139.gg
   cases b135 with
   | true =>
    clear 3;exact AR (K:=K) (rest:=Bj) (σ:=[some Bg,some v5,some v31,v33,v35,v37,some v90,some v102,some v109,some v126]) Dd hm xt.gh fun v140 G141 H142 x143 r144=>q v140 G141 H142 (xt.trans x143) r144
   | false =>
    clear 4;clear 2 _ hk;have S:=okS1_spl hk n5 xt.gh;refine GK (K:=K) (i:=9) (j:=0) (n:=8) rfl S S rfl yt.hh (fun Q k=>k _ _ (Same.refl _)) fun HA S _ A3=>?_;refine GK (K:=K) (i:=9) (j:=1) (n:=7) rfl S S rfl A3 (fun Q k=>⟨by show 2<=sizeLine;decide,fun p hp=>k _ _ (Same.new hp)⟩) fun HB S _ B3=>?_;refine sp_clear (K:=K) (i:=9) (j:=2) (n:=6) rfl S S rfl B3 fun HC S _ C3=>?_;refine GK (K:=K) (i:=9) (j:=3) (n:=5) rfl S S rfl C3 (fun Q k=>⟨by show 1<=sizeLine;decide,fun p hp=>k _ _ (Same.new hp)⟩) fun HD S _ D3=>?_;have xt:=xtA.spoil D3;exact AR (K:=K) (GL (Ag (m:=Cf) (EV4.ev (Kc (m:=D7) (A8 aT))) (A8 aM)) (ER (BO (m:=CO) (A8 aH)) (A8 aT))) hm xt.gh fun v151 G152 H153 x154 r155=>q v151 G152 H153 (xt.trans x154) r155
end
def abcN:List Nat:=List.range' 97 26
def one (c:Nat):Str:=⟨#[c]⟩
theorem one_len (c:Nat):(one c).length=1:=rfl
theorem abc_cps:("abcdefghijklmnopqrstuvwxyz" : Str).cps.toList=abcN:=by decide +kernel
theorem Mh (x:Str):FY x=x.cps.toList.map one:=rfl
theorem abc_pw:abcN.Pairwise (· < ·):=List.pairwise_lt_range'
def Mom (x:Str):Prop:=x.cps.toList.Sublist abcN
theorem Mom.pw {x:Str}(h:Mom x):x.cps.toList.Pairwise (· < ·):=abc_pw.sublist h
theorem Mom.len {x:Str}(h:Mom x):x.length<=26:=by
 have:=List.Sublist.length_le h;exact this
theorem pw_eq {a b:List Nat}(ha:a.Pairwise (· < ·))(hb:b.Pairwise (· < ·))(h:∀ x,x∈a ↔ x∈b):a=b :=
 List.Perm.eq_of_pairwise (le:=(· < ·)) (fun x y _ _ h1 h2=>absurd h1 (Nat.lt_asymm h2)) ha hb ((List.perm_ext_iff_of_nodup (ha.imp fun h=>qoB h) (hb.imp fun h=>qoB h)).mpr h)
theorem leS_one {a b:Nat}(h:a<=b):leS (one a) (one b)=true:=by
 unfold leS one;rw [Bool.not_eq_true',decide_eq_false_iff_not];intro q;have:=(LT b a).mp q;omega
theorem sortS_eq {ys zs:List Str}(hp:zs.Perm ys)(hz:zs.Pairwise fun a b=>leS a b=true):Hu ys=zs :=
 (List.Perm.eq_of_pairwise (fun a b _ _ h1 h2=>Kg h1 h2) hz (List.pairwise_mergeSort GZ JC ys) (hp.trans (DK ys).symm)).symm
theorem Hq {n i:Nat}{a:Int}(h:((List.range n).map fun (i:Nat)=>(0:Int)+(i:Int))[i]? = some a):i<n/\a=(i:Int):=by
 have hi:i<n:=by simpa using (qsA.mp h).1
 refine ⟨hi,?_⟩;simp [hi] at h;omega
theorem HI (n:Nat):((List.range n).map fun (i:Nat)=>(0:Int)+(i:Int)).length=n:=by rw [qdA,qhA]
theorem CP (s:Scr)(k:Int)(h0:0<=k)(h1:k<=100){P:Int->Prop}(hp:∀ n,P n):OK (Af s k) P:=by
 unfold Af;simp only [qfB,AT,Ae];refine AX (fun h=>ok_at h0 (of_decide_eq_true h) fun x _=>hp x) fun _=>?_;refine Cb (P:=fun z:Int=>-(2 ^ 64)<z/\z<2 ^ 64) (AX (fun h=>?_) fun _=>AD (by omega)) fun z hz=>A9 (ok_mul (.inl hz) (AD (hp _)));have h:=of_decide_eq_true h;refine A9 (HP h (A9 (ok_at (qhB _ (by omega)) (qiB _ h) fun x _=>AD ?_)));have a0:=qhB (x * 48271+k * 7919) (b:=2147483647) (by decide);have a1:=qiB (x * 48271+k * 7919) (b:=2147483647) (by decide);omega
theorem memE_eq (x:Int × Int)(l:List (Int × Int)):memE x l=decide (x∈l):=decide_eq_decide.mpr Iff.rfl
theorem Ji (a b:Nat):decide ([a] < [b])=decide (a<b):=decide_eq_decide.mpr (LT a b)
theorem Gq {x:Str}(h:Mom x):Bh x=some true:=by
 refine OK.eq ?_;unfold Bh;simp only [qfB,AT,Ae,Bool.not_true,cond_false];have hp:=h.pw
 have hm:∀ c∈x.cps.toList,97<=c/\c<=122:=fun c hc=>by
  have:=(List.Sublist.subset h) hc;unfold abcN at this;have:=List.mem_range'_1.mp this;omega
 have a1:("a" : Str).cps.toList=[97]:=by decide +kernel
 have z1:("z" : Str).cps.toList=[122]:=by decide +kernel
 have e0:("" : Str).cps.toList=[]:=by decide +kernel
 rw [Mh];refine A9 (Dj (fun i (s:Str)=>(i=0/\s = "")\/∃ c,x.cps.toList[i - 1]? = some c/\s=one c/\0<i) (.inl ⟨rfl,rfl⟩) (fun i a s ha hI=>?_) fun s _=>AD rfl)
 obtain ⟨c,hc,rfl⟩:∃ c,x.cps.toList[i]? = some c/\a=one c:=by
  rw [List.getElem?_map] at ha;obtain ⟨c,h1,h2⟩:=Option.map_eq_some_iff.mp ha;exact ⟨c,h1,h2.symm⟩
 have hcb:=hm c (qrA hc);have oc:(one c).cps.toList=[c]:=rfl
 have hlast:decide (s.cps.toList<(one c).cps.toList)=true:=by
  rcases hI with ⟨_,rfl⟩ | ⟨d,hd,rfl,h0⟩
  ·rw [e0,oc]
   rfl
  ·show decide ([d] < [c])=true;rw [Ji,decide_eq_true_iff];obtain ⟨h1,h2⟩:=qsA.mp hc;obtain ⟨h3,h4⟩:=qsA.mp hd;have:=List.pairwise_iff_getElem.mp hp (i - 1) i h3 h1 (by omega);rw [h2,h4] at this;exact this
 rw [hlast,a1,z1,oc,Ji,Ji,decide_eq_false (by omega),decide_eq_false (by omega)];simp only [Bool.not_true,Bool.or_self,cond_false];exact AD ⟨_,rfl,.inr ⟨c,by simpa using hc,rfl,by omega⟩⟩
def Ltr (l:List Str):Prop:=∃ cs:List Nat,l=cs.map one/\cs.length=4/\cs.Nodup/\∀ c∈cs,c∈abcN
theorem abc_at (k:Int){P:Str->Prop}(hp:P (one (97+(k % 26).toNat))):OK ((atI ("abcdefghijklmnopqrstuvwxyz" : Str).cps.toList (k % 26)).bind fun z=>some (⟨#[z]⟩:Str)) P:=by
 have h0:=qhB k (b:=26) (by decide);have h1:=qiB k (b:=26) (by decide);rw [abc_cps];refine A9 (ok_at h0 (by unfold abcN;rw [List.length_range'];exact h1) fun z hz=>AD ?_);unfold abcN at hz;rw [List.getElem?_range' (by omega)] at hz;have e:=qaB hz;have e2:z=97+(k % 26).toNat:=by omega
 rw [e2];exact hp
theorem abc_mem (k:Int):97+(k % 26).toNat∈abcN:=by
 have h1:=qiB k (b:=26) (by decide);have h0:=qhB k (b:=26) (by decide);unfold abcN;exact List.mem_range'_1.mpr ⟨by omega,by omega⟩
theorem map4 {f:Int->Option Str}{g:Int->Nat}(hf:∀ k,f k=some (one (g k)))(l:List Int):C9 f l=some ((l.map g).map one):=by
 refine OK.eq (CS (g:=fun k=>one (g k)) (fun k _=>hf k) ?_);rw [List.map_map]
 rfl
theorem Kx (c:Int)(h0:0<=c){P:List Str->Prop}(hp:∀ l:List Str,Ltr l->P l):OK (Bt c) P:=by
 unfold Bt;simp only [qfB,AT,Ae];rw [map4 (g:=fun k=>97+(k % 26).toNat) fun k=>OK.eq (abc_at k rfl)];refine AD (hp _ ⟨_,rfl,rfl,?_,fun x hx=>?_⟩)
 ·simp only [quA,List.map_nil,List.nodup_cons,qkA,qpB,or_false,not_or,not_false_eq_true,List.nodup_nil,and_true];have a0:=qhB (c / 26) (b:=8) (by decide);have a1:=qiB (c / 26) (b:=8) (by decide);have b0:=qhB (c / 208) (b:=8) (by decide);have b1:=qiB (c / 208) (b:=8) (by decide);have d0:=qhB (c / 1664) (b:=9) (by decide);have d1:=qiB (c / 1664) (b:=9) (by decide);generalize c / 26 % 8=a at *;generalize c / 208 % 8=b at *;generalize c / 1664 % 9=d at *;omega
 ·obtain ⟨k,_,rfl⟩:=qmA.mp hx;exact abc_mem k
theorem srt_ex {cs:List Nat}(hn:cs.Nodup):∃ ds:List Nat,ds.Perm cs/\ds.Pairwise (· < ·):=by
 refine ⟨cs.mergeSort (fun a b=>decide (a<=b)),List.mergeSort_perm _ _,?_⟩;have h1:=List.pairwise_mergeSort (le:=fun a b:Nat=>decide (a<=b)) (fun a b c h1 h2=>by simp at *;omega) (fun a b=>by simp;omega) cs;have h2:(cs.mergeSort (fun a b=>decide (a<=b))).Nodup:=(List.mergeSort_perm cs _).nodup_iff.mpr hn;exact (h1.and (List.nodup_iff_pairwise_ne.mp h2)).imp fun ⟨a,b⟩=>by simp at a;omega
theorem lit_ok (letters:List Str)(hL:Ltr letters)(bits:Int):OK (Cq letters bits) Mom:=by
 have hs:sizeLine=16777216:=qeB;obtain ⟨cs,rfl,h4,hn,hm⟩:=hL;obtain ⟨ds,dp,dw⟩:=srt_ex hn;unfold Cq;simp only [qfB,AT,Ae];have hd:ds.length=4:=by rw [dp.length_eq,h4]
 have es:Hu (cs.map one)=ds.map one:=sortS_eq (dp.map one) (List.pairwise_map.mpr (dw.imp fun h=>leS_one (Nat.le_of_lt h)))
 have eo:Lm (cs.map one)=some (ds.map one):=by
  unfold Lm;rw [if_pos (by rw [qdA];omega),es]
 rw [eo];refine A9 (AD (A9 (Dj (fun i (s:Int × Str)=>s.2.cps.toList.Sublist (ds.take i)) (List.Sublist.refl _) (fun i a s ha hI=>?_) fun s hI=>AD ?_)))
 ·rw [List.getElem?_map] at ha;obtain ⟨c,hc,rfl⟩:=Option.map_eq_some_iff.mp ha;have hi:=(qsA.mp hc).1;have et:ds.take (i+1)=ds.take i++[c]:=by rw [List.take_add_one,hc];rfl
  have hlen:s.2.length<=4:=by
   have:=hI.length_le;rw [qiA,qnB] at this;show s.2.cps.size<=4;omega
  refine Cb (P:=fun z:Str=>z.cps.toList.Sublist (ds.take (i+1))) (AX (fun _=>ok_catS (by rw [one_len];omega) ?_) fun _=>AD (by rw [et];exact hI.trans (List.sublist_append_left _ _))) fun z hz=>AD ⟨_,rfl,hz⟩;show (s.2++one c).cps.toList.Sublist _;rw [et,show (s.2++one c).cps.toList=s.2.cps.toList++[c] from by show (s.2.cps++#[c]).toList=_;simp];exact hI.append (List.Sublist.refl _)
 ·rw [qdA,List.take_of_length_le (qxA _)] at hI
  have:ds=abcN.filter (fun c=>decide (c∈ds)):=pw_eq dw (abc_pw.sublist List.filter_sublist) fun x=>by
   rw [List.mem_filter];exact ⟨fun h=>⟨hm x (dp.mem_iff.mp h),decide_eq_true h⟩,fun h=>of_decide_eq_true h.2⟩
  exact hI.trans (this ▸ List.filter_sublist)
open Builtin Builtin.Str in
theorem Hd (x y:Str)(c0:Nat)(r:List Nat)(hy:y.cps.toList=c0::r):∀ (ps:List Str) (a:Nat) (cuts:List Nat) (f:Nat),ps ≠ []->(∀ p∈ps,c0 ∉ p.cps.toList)->x.cps.toList.drop a=(Str.join y ps).cps.toList ->
  StrLaws.ChainG x y x.length a cuts f->(∀ k,f<=k->¬ StrLaws.At x y x.length k)->StrLaws.partsFrom x y.length a cuts=ps
 | [],_,_,_,h,_,_,_,_=>absurd rfl h
 | [p],a,cuts,f,_,hf,hd,hG,hn=>by
  have hL:x.cps.toList.length=x.length:=qnB;have hd:x.cps.toList.drop a=p.cps.toList:=hd
  have no:∀ k,a<=k->¬ StrLaws.At x y x.length k:=fun k hk hA=>by
   have e:=eq_of_beq ((StrLaws.subAt_eq x y k).symm.trans hA.2);rw [hy] at e;have hyl:y.length=(c0::r).length:=by rw [<- hy];exact qnB.symm
   have e2:x.cps.toList.drop k=p.cps.toList.drop (k - a):=by rw [<- hd,List.drop_drop];congr 1;omega
   have hm:c0∈p.cps.toList:=by
    have:c0∈(x.cps.toList.drop k).take y.length:=by rw [e];exact qoA
    rw [e2] at this;exact List.mem_of_mem_drop (List.mem_of_mem_take this)
   exact hf p qoA hm
  cases cuts with
  | cons c cs=>exact absurd hG.2.1 (no c hG.1)
  | nil =>
   show [strSub x a x.length]=[p]
   congr 1
   apply Str.ext';apply Array.toList_inj.mp;rw [StrLaws.strSub_toList,hd];refine List.take_of_length_le ?_;rw [<- hd,List.length_drop,hL];omega
 | p::q::ps,a,cuts,f,_,hf,hd,hG,hn=>by
  have hL:x.cps.toList.length=x.length:=qnB;have hyl:y.length=(c0::r).length:=by rw [<- hy];exact qnB.symm
  have hyp:1<=y.length:=by rw [hyl,qfA];omega
  have hpl:p.cps.toList.length=p.length:=qnB
  have hd:x.cps.toList.drop a=p.cps.toList++((c0::r)++(Str.join y (q::ps)).cps.toList):=by
   rw [hd];show (p++y++Str.join y (q::ps)).cps.toList=_;simp only [Str.cps_append,Array.toList_append,hy,qvA]
  have hlen:x.length - a=p.length+(y.length+(Str.join y (q::ps)).cps.toList.length):=by
   have:=congrArg List.length hd;rw [List.length_drop,hL,qeA,qeA,hpl,<- hyl] at this;exact this
  have hc:StrLaws.At x y x.length (a+p.length):=by
   refine ⟨by omega,?_⟩;rw [StrLaws.subAt_eq,<- List.drop_drop,hd,<- hpl,List.drop_left,hyl,List.take_left,<- hy];exact beq_self_eq_true _
  have no:∀ k,a<=k->k<a+p.length->¬ StrLaws.At x y x.length k:=fun k hk hk2 hA=>by
   have e:=eq_of_beq ((StrLaws.subAt_eq x y k).symm.trans hA.2)
   have e2:x.cps.toList.drop k=p.cps.toList.drop (k - a)++((c0::r)++(Str.join y (q::ps)).cps.toList):=by
    rw [<- List.drop_append_of_le_length (by rw [hpl];omega),<- hd,List.drop_drop]
    congr 1
    omega
   rw [hy,e2,hyl] at e
   cases hz:p.cps.toList.drop (k - a) with
   | nil =>
    have:=congrArg List.length hz;rw [List.length_drop,hpl,List.length_nil] at this;omega
   | cons z zs =>
    rw [hz,List.cons_append,qfA,List.take_succ_cons] at e;have e3:=(List.cons.inj e).1;subst e3;exact hf p qoA (List.mem_of_mem_drop (hz ▸ qoA))
  cases cuts with
  | nil =>
   have e:f=a:=hG;exact absurd hc (hn _ (by omega))
  | cons c cs =>
   obtain ⟨h1,h2,h3,h4⟩:=hG
   have ec:c=a+p.length:=by
    by_cases h:c<a+p.length
    ·exact absurd h2 (no c h1 h)
    ·by_cases h':a+p.length<c
     ·exact absurd hc (h3 _ (by omega) h')
     ·omega
   subst ec;show strSub x a (a+p.length)::StrLaws.partsFrom x y.length (a+p.length+y.length) cs=_;rw [Hd x y c0 r hy (q::ps) _ cs f (fun z=>nomatch z) (fun z hz=>hf z (qpA _ hz)) ?_ h4 hn]
   ·congr 1
    apply Str.ext';apply Array.toList_inj.mp;rw [StrLaws.strSub_toList,hd,Nat.add_sub_cancel_left,<- hpl,List.take_left]
   ·rw [<- List.drop_drop,<- List.drop_drop,hd,<- hpl,List.drop_left,hyl,List.drop_left]
open Builtin Builtin.Str in
theorem LJ (y:Str)(c0:Nat)(r:List Nat)(hy:y.cps.toList=c0::r)(ps:List Str)(h0:ps ≠ [])(hf:∀ p∈ps,c0 ∉ p.cps.toList):Txt.split (Str.join y ps) y=ps:=by
 generalize hx:Str.join y ps=x;have hyl:y.length=(c0::r).length:=by rw [<- hy];exact qnB.symm
 obtain ⟨f,hG,hn⟩:=StrLaws.occ_tight x y (by rw [hyl,qfA];omega);have key:=Hd x y c0 r hy ps 0 _ f h0 hf (by rw [hx];rfl) hG hn
 have one:∀ {z:Bool},occurrences x y 0 x.length (x.length+1)=[]->[x]=ps:=fun e=>by
  rw [e] at key;rw [<- key];show [x]=[strSub x 0 x.length];rw [StrLaws.sub_whole]
 unfold Txt.split
 cases ho:occurrences x y 0 x.length (x.length+1) with
 | nil =>
  have o:=one (z:=true) ho;split
  ·exact o
  ·rw [if_pos (show ([]:List Nat).isEmpty=true from rfl)];exact o
 | cons c cs =>
  rw [ho] at hG;have hA:=hG.2.1
  have k1:¬ (decide (x.length<y.length) || decide (strKind x<strKind y))=true:=by
   rw [Bool.or_eq_true,decide_eq_true_eq,decide_eq_true_eq];rintro (h|h)
   ·have:=hA.1;omega
   ·have:=PySem.W.kind_le x y hA.2;omega
  rw [if_neg k1,if_neg (by simp),StrLaws.partsBetween_eq,<- ho];exact key
theorem JB {y:Str}{c0:Nat}{r:List Nat}(hy:y.cps.toList=c0::r){ps:List Str}(h0:ps ≠ [])(hf:∀ p∈ps,c0 ∉ p.cps.toList)(hl:(Str.join y ps).length<=100000):Hi (Str.join y ps) y=some ps:=by
 have hs:sizeLine=16777216:=qeB;have hyl:y.length=(c0::r).length:=by rw [<- hy];exact qnB.symm
 have e:=LJ y c0 r hy ps h0 hf;have l1:=split_le (Str.join y ps) y;unfold Hi;rw [e] at l1 ⊢;refine if_pos ⟨?_,by omega,?_,by omega,?_⟩
 ·rw [hyl,qfA];omega
 ·rw [len_partsBetween];have:=StrLaws.occ_length_le_len (Str.join y ps) y 0 (Str.join y ps).length ((Str.join y ps).length+1);omega
 ·refine List.all_eq_true.mpr fun z hz=>decide_eq_true ?_;have:=part_short (x:=Str.join y ps) (y:=y) (by rw [e];exact hz);omega
theorem K0 {z:Str}{ys:List Str}(h:(ys.map (·.length)).sum+ys.length * z.length<=16777216):Ee z ys=some (Str.join z ys):=by
 unfold Ee;rw [if_pos h];exact congrArg some (StrLaws.glued_eq_join z ys)
theorem join2 (y a b:Str)(r:List Str):Str.join y (a::b::r)=a++y++Str.join y (b::r):=rfl
theorem KQ {y:Str}{c:Nat}:∀ {ps:List Str},c∈(Str.join y ps).cps.toList->c∈y.cps.toList\/∃ p∈ps,c∈p.cps.toList
 | [],h=>by cases h
 | [p],h=>.inr ⟨p,qoA,h⟩
 | p::q::ps,h=>by
  rw [join2] at h;simp only [Str.cps_append,Array.toList_append,qjA] at h;rcases h with (h|h)|h
  ·exact .inr ⟨p,qoA,h⟩
  ·exact .inl h
  ·rcases KQ h with h | ⟨z,hz,h⟩
   ·exact .inl h
   ·exact .inr ⟨z,qpA _ hz,h⟩
theorem sum_le {l:List Str}{k:Nat}(h:∀ x∈l,x.length<=k):(l.map (·.length)).sum<=l.length * k:=by
 induction l with
 | nil=>exact qtB _
 | cons a l ih =>
  have h1:=h a qoA;have h2:=ih fun x hx=>h x (qpA _ hx);rw [quA,List.sum_cons,qfA,Nat.succ_mul];omega
theorem IM {y:Str}{l:List Str}{k n:Nat}(h:∀ x∈l,x.length<=k)(hn:l.length<=n):(l.map (·.length)).sum+l.length * y.length<=n * (k+y.length):=by
 have:=sum_le h
 have:l.length * k+l.length * y.length<=n * (k+y.length):=by
  rw [<- Nat.mul_add];exact Nat.mul_le_mul_right _ hn
 omega
abbrev Mac:=T4 (List Str) (List (Int × Int)) (List Int) (List (List Int))
def In (m:Nat)(k:Int):Prop:=0<=k/\k<(m:Int)
structure Gd (M:Mac):Prop where
 a1:1<=M.a.length
 a8:M.a.length<=8
 am:∀ x∈M.a,Mom x
 bn:M.b.Nodup
 b24:M.b.length<=24
 bm:∀ w∈M.b,In M.a.length w.1/\In M.a.length w.2
 cn:M.c.Nodup
 cm:∀ s∈M.c,In M.a.length s
 d3:M.d.length<=3
 dn:∀ m∈M.d,m.Nodup
 dm:∀ m∈M.d,∀ n∈m,In M.b.length n
theorem few {m:Nat}{l:List Int}(nd:l.Nodup)(h:∀ x∈l,In m x):l.length<=m:=by
 have:=FU (m:=(List.range m).map fun (i:Nat)=>(i:Int)) nd fun x hx=>by
  obtain ⟨h1,h2⟩:=h x hx;exact qmA.mpr ⟨x.toNat,qqA.mpr (by omega),by omega⟩
 rwa [qdA,qhA] at this
def nm (k:Int):Str:=Str.ofString (toString k)
def mo (x:Str):Str:=if x = "" then "-" else x
def Wd (w:Str):Prop:=32 ∉ w.cps.toList/\59 ∉ w.cps.toList/\w.length<=26
theorem nm_all:∀ k:Nat,k<24->BG (nm (k:Int))=some (k:Int)/\(¬ 32∈(nm (k:Int)).cps.toList)/\(¬ 59∈(nm (k:Int)).cps.toList)/\(nm (k:Int)).length<=26:=by decide +kernel
theorem EU {k:Int}{m:Nat}(h:In m k)(hm:m<=24):DE k=some (nm k)/\BG (nm k)=some k/\Wd (nm k):=by
 obtain ⟨n,rfl⟩:=qgB h.1;have h2:=h.2;have:=nm_all n (by omega);exact ⟨if_pos ⟨by omega,by omega⟩,this.1,this.2.1,this.2.2.1,this.2.2.2⟩
theorem mo_wd {x:Str}(h:Mom x):Wd (mo x):=by
 have hd:Wd ("-" : Str):=by unfold Wd;decide +kernel
 unfold mo;split
 ·exact hd
 ·refine ⟨fun hc=>?_,fun hc=>?_,h.len⟩
  ·have:=List.mem_range'_1.mp (h.subset hc);omega
  ·have:=List.mem_range'_1.mp (h.subset hc);omega
def rw1 (x:Str):List Str:=["state",mo x]
def rw2 (w:Int × Int):List Str:=["way",nm w.1,nm w.2]
def rw3 (s:Int):List Str:=["from",nm s]
def rw4 (m:List Int):List Str := "mark" :: m.map nm
def rows (M:Mac):List (List Str):=M.a.map rw1++(M.b.map rw2++(M.c.map rw3++M.d.map rw4))
def jn (r:List Str):Str:=Str.join " " r
def txt (M:Mac):Str:=Str.join "; " ((rows M).map jn)
theorem w_state:Wd ("state" : Str):=by unfold Wd;decide +kernel
theorem w_way:Wd ("way" : Str):=by unfold Wd;decide +kernel
theorem w_from:Wd ("from" : Str):=by unfold Wd;decide +kernel
theorem w_mark:Wd ("mark" : Str):=by unfold Wd;decide +kernel
def Wr (r:List Str):Prop:=r ≠ []/\r.length<=25/\∀ w∈r,Wd w
theorem wr1 {M:Mac}(g:Gd M){x:Str}(h:x∈M.a):Wr (rw1 x):=⟨(fun z=>nomatch z),by show 2<=25;decide,fun w hw=>by
 rcases qkA.mp hw with rfl|hw
 ·exact w_state
 ·rw [qnA.mp hw];exact mo_wd (g.am x h)⟩
theorem wr2 {M:Mac}(g:Gd M){x:Int × Int}(h:x∈M.b):Wr (rw2 x):=⟨(fun z=>nomatch z),by show 3<=25;decide,fun w hw=>by
 have a8:=g.a8;rcases qkA.mp hw with rfl|hw
 ·exact w_way
 ·rcases qkA.mp hw with rfl|hw
  ·exact (EU (g.bm x h).1 (by omega)).2.2
  ·rw [qnA.mp hw];exact (EU (g.bm x h).2 (by omega)).2.2⟩
theorem wr3 {M:Mac}(g:Gd M){x:Int}(h:x∈M.c):Wr (rw3 x):=⟨(fun z=>nomatch z),by show 2<=25;decide,fun w hw=>by
 have a8:=g.a8;rcases qkA.mp hw with rfl|hw
 ·exact w_from
 ·rw [qnA.mp hw];exact (EU (g.cm x h) (by omega)).2.2⟩
theorem wr4 {M:Mac}(g:Gd M){x:List Int}(h:x∈M.d):Wr (rw4 x):=⟨(fun z=>nomatch z),by
 have:=few (g.dn x h) (g.dm x h);have:=g.b24;show (x.map nm).length+1<=25;rw [qdA]
 omega,fun w hw=>by
 rcases qkA.mp hw with rfl|hw
 ·exact w_mark
 ·obtain ⟨k,hk,rfl⟩:=qmA.mp hw
  exact (EU (g.dm x h k hk) g.b24).2.2⟩
theorem JN {M:Mac}(g:Gd M):∀ r∈rows M,Wr r:=fun r hr=>by
 unfold rows at hr;rcases qjA.mp hr with h|h
 ·obtain ⟨x,hx,rfl⟩:=qmA.mp h;exact wr1 g hx
 rcases qjA.mp h with h|h
 ·obtain ⟨x,hx,rfl⟩:=qmA.mp h;exact wr2 g hx
 rcases qjA.mp h with h|h
 ·obtain ⟨x,hx,rfl⟩:=qmA.mp h;exact wr3 g hx
 ·obtain ⟨x,hx,rfl⟩:=qmA.mp h;exact wr4 g hx
theorem Kf {M:Mac}(g:Gd M):1<=(rows M).length/\(rows M).length<=43:=by
 have c8:=few g.cn g.cm;have:=g.a1;have:=g.a8;have:=g.b24;have:=g.d3;unfold rows;simp only [qeA,qdA];omega
theorem Jo:(" " : Str).length=1:=by decide +kernel
theorem sc_len:("; " : Str).length=2:=by decide +kernel
theorem sp_cps:(" " : Str).cps.toList=32::[]:=by decide +kernel
theorem sc_cps:("; " : Str).cps.toList=59::[32]:=by decide +kernel
theorem jn_eq {r:List Str}(h:Wr r):Ee " " r=some (jn r):=K0 (by
 have:=IM (y := " ") (fun x hx=>(h.2.2 x hx).2.2) h.2.1;rw [Jo] at this ⊢
 omega)
theorem jn_len {r:List Str}(h:Wr r):(jn r).length<=675:=by
 have h1:=StrLaws.join_length_le " " r;have h2:=IM (y := " ") (fun x hx=>(h.2.2 x hx).2.2) h.2.1;rw [Jo] at h1 h2;exact qyA h1 (by omega)
theorem jn_no {r:List Str}(h:Wr r):59 ∉ (jn r).cps.toList:=fun hc=>by
 rcases KQ hc with h1 | ⟨p,hp,h1⟩
 ·rw [sp_cps] at h1;rcases qkA.mp h1 with h1|h1
  ·exact absurd h1 (by decide)
  ·cases h1
 ·exact (h.2.2 p hp).2.1 h1
theorem jn_spl {r:List Str}(h:Wr r):Hi (jn r) " " = some r:=JB sp_cps h.1 (fun p hp=>(h.2.2 p hp).1) (qyA (jn_len h) (by decide))
theorem LU {M:Mac}(g:Gd M):(((rows M).map jn).map (·.length)).sum+((rows M).map jn).length * ("; " : Str).length<=43 * 677:=by
 have h2:=IM (y := "; ") (l:=(rows M).map jn) (k:=675) (n:=43) (fun x hx=>by
  obtain ⟨r,hr,rfl⟩:=qmA.mp hx
  exact jn_len (JN g r hr)) (by rw [qdA];exact (Kf g).2)
 rw [sc_len] at h2 ⊢;omega
theorem txt_eq {M:Mac}(g:Gd M):Ee "; " ((rows M).map jn)=some (txt M):=K0 (qyA (LU g) (by decide))
theorem txt_spl {M:Mac}(g:Gd M):Hi (txt M) "; " = some ((rows M).map jn):=JB sc_cps (fun e=>by
  have:=congrArg List.length e;rw [qdA,List.length_nil] at this;have:=(Kf g).1
  omega) (fun p hp=>by
  obtain ⟨r,hr,rfl⟩:=qmA.mp hp
  exact jn_no (JN g r hr)) (qyA (StrLaws.join_length_le _ _) (qyA (LU g) (by decide)))
theorem M1 {m:Nat}(hm:m<=24){l:List Int}(h:∀ k∈l,In m k):C9 (fun (BP:D)=>(IC BP).bind fun t7=>DE t7) (l.map D.int)=some (l.map nm):=by
 have e:=OK.eq (m:=C9 (fun (BP:D)=>(IC BP).bind fun t7=>DE t7) (l.map D.int)) (CS (g:=fun d:D=>match d with | .int k=>nm k|_ => "") (fun d hd=>by
  obtain ⟨k,hk,rfl⟩:=qmA.mp hd
  exact (EU (h k hk) hm).1) rfl)
 rw [e,List.map_map]
 rfl
theorem shown_l {m:Nat}(hm:m<=24){l:List Int}(h:∀ k∈l,In m k):Al (ToD.to l)=some (l.map nm):=by
 unfold Al;simp only [qfB,AT];exact M1 hm h
theorem shown_p {m:Nat}(hm:m<=24){w:Int × Int}(h:In m w.1/\In m w.2):Al (ToD.to w)=some [nm w.1,nm w.2]:=by
 unfold Al;simp only [qfB,AT]
 exact M1 (l:=[w.1,w.2]) hm fun k hk=>by
  rcases qkA.mp hk with rfl|hk
  ·exact h.1
  ·rw [qnA.mp hk];exact h.2
theorem mo_eq (x:Str):Bf x=some (mo x):=by
 unfold Bf mo;rw [AT];by_cases h:x = ""
 ·rw [if_pos h,decide_eq_true h];rfl
 ·rw [if_neg h,decide_eq_false h];rfl
theorem Kt {α:Type}{a b:List α}{P:List α->Prop}(hb:a.length+b.length<=sizeLine)(h:P (a++b)):OK (extO a b) P:=⟨_,if_pos hb,h⟩
theorem Lk {M:Mac}(g:Gd M):B0 M=some (txt M):=by
 have hs:sizeLine=16777216:=qeB;have c8:=few g.cn g.cm;have a8:=g.a8;have b24:=g.b24;have d3:=g.d3;refine OK.eq ?_;unfold B0;simp only [qfB,AT,Ae];refine A9 (CS (g:=rw1) (fun x _=>by rw [mo_eq];rfl) ?_);refine A9 (CS (g:=rw2) (fun w hw=>?_) ?_)
 ·rw [shown_p (by omega) (g.bm w hw)];exact OK.eq (HF (by show 1+2<=sizeLine;omega) rfl)
 refine A9 (Kt (by rw [qdA,qdA];omega) ?_);refine A9 (CS (g:=rw3) (fun w hw=>?_) ?_)
 ·rw [(EU (g.cm w hw) (by omega)).1];rfl
 refine A9 (Kt (by rw [qeA,qdA,qdA,qdA];omega) ?_);refine A9 (CS (g:=rw4) (fun w hw=>?_) ?_)
 ·rw [shown_l b24 (g.dm w hw)];have:=few (g.dn w hw) (g.dm w hw);exact OK.eq (HF (by rw [qdA];show 1+w.length<=sizeLine;omega) rfl)
 refine A9 (Kt (by simp only [qeA,qdA];omega) ?_);have er:M.a.map rw1++M.b.map rw2++M.c.map rw3++M.d.map rw4=rows M:=by unfold rows;simp only [qvA]
 rw [er];refine A9 (CS (g:=jn) (fun r hr=>jn_eq (JN g r hr)) ?_);rw [txt_eq g];exact AD rfl
theorem Fs {α β ρ:Type}{f:α->List β->Option (Fl (List β) ρ)}{h:α->β}{as:List α}{s0:List β}(hf:∀ a∈as,∀ s:List β,s.length<=1000->f a s=some (.nx (s++[h a])))(hl:s0.length+as.length<=1000){P:Fl (List β) ρ->Prop}(hp:P (.nx (s0++as.map h))):OK (Ck f as s0) P:=by
 refine Dj (fun i s=>s=s0++(as.take i).map h) (by simp) (fun i a s ha hI=>?_) fun s hI=>?_
 ·have hi:=(qsA.mp ha).1;rw [hf a (qrA ha) s (by rw [hI,qeA,qdA,qiA];omega)];refine AD ⟨_,rfl,?_⟩;rw [hI,List.take_add_one,ha,List.map_append,qvA]
  rfl
 ·rw [hI,List.take_of_length_le (qxA _)];exact hp
theorem t_state (x:Str):("state " : Str)++mo x=jn (rw1 x):=by
 show _=("state" : Str) ++ " " ++ mo x;rw [show (("state" : Str)++(" " : Str)) = "state " from by decide +kernel]
theorem t_from (x:Int):("from " : Str)++nm x=jn (rw3 x):=by
 show _=("from" : Str) ++ " " ++ nm x;rw [show (("from" : Str)++(" " : Str)) = "from " from by decide +kernel]
theorem FZ (a b c:Str):a++b++c=a++(b++c):=by
 apply Str.ext';simp only [Str.cps_append,Array.append_assoc]
theorem t_way (x:Int × Int):("way " : Str)++nm x.1 ++ " " ++ nm x.2=jn (rw2 x):=by
 show _=("way" : Str) ++ " " ++ (nm x.1 ++ " " ++ nm x.2);rw [show (("way" : Str)++(" " : Str)) = "way " from by decide +kernel,FZ,FZ,FZ]
theorem HK {β:Type}{s:List β}(h:s.length<=1000)(x:β):D1 s x=some (s++[x]):=by
 have hs:sizeLine=16777216:=qeB;exact if_pos (by omega)
theorem Ht {a b:Str}(h:a.length+b.length<=10000):Ja a b=some (a++b):=by
 have hs:sizeLine=16777216:=qeB;exact if_pos (by omega)
theorem text_ok {M:Mac}(g:Gd M):BA M=some (txt M):=by
 have hs:sizeLine=16777216:=qeB;have c8:=few g.cn g.cm;have a8:=g.a8;have b24:=g.b24;have d3:=g.d3;have l1:("state " : Str).length=6:=by decide +kernel
 have l2:("way " : Str).length=4:=by decide +kernel
 have l3:("from " : Str).length=5:=by decide +kernel
 refine OK.eq ?_;unfold BA;simp only [qfB,AT,Ae];refine A9 (Fs (h:=fun x=>jn (rw1 x)) (fun x hx s hl=>?_) (by rw [List.length_nil];omega) ?_)
 ·have em:(cond (!decide (x=("" : Str))) (some x) (some ("-" : Str)))=some (mo x):=by
   unfold mo;by_cases h:x = ""
   ·rw [if_pos h,decide_eq_true h];rfl
   ·rw [if_neg h,decide_eq_false h];rfl
  rw [em,AT,Ht (by have:=(mo_wd (g.am x hx)).2.2;omega),AT,HK hl,AT,t_state]
 refine A9 (Fs (h:=fun x=>jn (rw2 x)) (fun x hx s hl=>?_) (by rw [List.nil_append,qdA];omega) ?_)
 ·have n1:=EU (g.bm x hx).1 (by omega);have n2:=EU (g.bm x hx).2 (by omega);have w1:=n1.2.2.2.2;have w2:=n2.2.2.2.2;rw [n1.1,AT,Ht (by omega),AT,Ht (by rw [Str.length_append,Jo];omega),AT,n2.1,AT,Ht (by rw [Str.length_append,Str.length_append,Jo];omega),AT,HK hl,AT,t_way]
 refine A9 (Fs (h:=fun x=>jn (rw3 x)) (fun x hx s hl=>?_) (by rw [List.nil_append,qeA,qdA,qdA];omega) ?_)
 ·have n1:=EU (g.cm x hx) (by omega);have w1:=n1.2.2.2.2;rw [n1.1,AT,Ht (by omega),AT,HK hl,AT,t_from]
 refine A9 (Fs (h:=fun x=>jn (rw4 x)) (fun x hx s hl=>?_) (by simp only [List.nil_append,qeA,qdA];omega) ?_)
 ·have em:C9 (fun (k_:Int)=>DE k_) x=some (x.map nm):=OK.eq (CS (g:=nm) (fun k hk=>(EU (g.dm x hx k hk) b24).1) rfl);have:=few (g.dn x hx) (g.dm x hx);rw [em,AT,OK.eq (HF (a:=[("mark" : Str)]) (b:=x.map nm) (P:=fun z=>z=rw4 x) (by rw [qdA];show 1+x.length<=sizeLine;omega) rfl),AT,jn_eq (wr4 g hx),AT,HK hl,AT]
 have er:([]++M.a.map (fun x=>jn (rw1 x))++M.b.map (fun x=>jn (rw2 x))++M.c.map (fun x=>jn (rw3 x))++M.d.map (fun x=>jn (rw4 x)))=(rows M).map jn:=by
  unfold rows;simp only [List.map_append,List.map_map,List.nil_append,qvA]
  rfl
 show OK (Ee "; " _) _;rw [er,txt_eq g];exact AD rfl
theorem Jg {l:List Str}(h:∀ x∈l,Mom x)(h0:1<=l.length)(h8:l.length<=8):Bs l=some true:=by
 refine OK.eq ?_;unfold Bs;simp only [qfB,AT,Ae,Bool.not_true,Bool.false_or];refine AX (fun q=>?_) fun _=>?_
 ·rw [Bool.or_eq_true] at q;rcases q with q|q
  ·have:=of_decide_eq_true q;omega
  ·have:=of_decide_eq_true q;omega
 ·refine A9 (CS (g:=fun _=>true) (fun x hx=>Gq (h x hx)) (AD ?_));simp
theorem Fa {m:Nat}{k:Int}(h:In m k):Ai k (m:Int)=some true:=by
 unfold Ai;simp only [AT,cond_true,Bool.not_false];rw [decide_eq_true h.1,decide_eq_true h.2]
 rfl
theorem ded_len {l:List Int}(nd:l.Nodup):(Ic l).length=l.length:=((List.perm_ext_iff_of_nodup (L7 l) nd).mpr fun x=>mem_dedA).length_eq
theorem J1 {m:Nat}{l:List Int}(h:∀ k∈l,In m k)(nd:l.Nodup)(hm:m<=100):Ak l (m:Int)=some true:=by
 have hl:=few nd h;refine OK.eq ?_;unfold Ak;simp only [qfB,AT,Ae,Bool.not_true,cond_false];refine A9 (CS (g:=fun _=>true) (fun k hk=>Fa (h k hk)) ?_);rw [show (l.map fun _=>true).all id=true by simp];refine AX (fun q=>absurd q (by decide)) fun _=>?_;refine ok_bC _ (if_pos (by omega)) (AD ?_);rw [ded_len nd];exact decide_eq_true rfl
theorem way_true {m:Nat}{w:Int × Int}(h:In m w.1/\In m w.2):DN w (m:Int)=some true:=by
 unfold DN;simp only [AT,decide_true,Bool.not_true,Bool.or_self,cond_false,Fa h.1,Fa h.2,cond_true]
theorem is_ok {M:Mac}(g:Gd M):Bo M=some true:=by
 have a8:=g.a8;have b24:=g.b24;have d3:=g.d3
 have ew:Ct M.b (M.a.length:Int)=some true:=by
  refine OK.eq ?_;unfold Ct;simp only [qfB,AT,Ae,Bool.not_true,Bool.false_or];refine AX (fun q=>absurd (of_decide_eq_true q) (by omega)) fun _=>?_;refine A9 (CS (g:=fun _=>true) (fun w hw=>way_true (g.bm w hw)) ?_);rw [show (M.b.map fun _=>true).all id=true by simp];refine AX (fun _=>?_) fun q=>absurd q (by decide)
  rw [KG (fun p hp=>by
   have:=g.bm p hp;unfold In at this
   exact ⟨this.1.1,by omega,this.2.1,by omega⟩) g.bn (by omega)]
  exact A9 (AD (AD (decide_eq_true rfl)))
 have ed:CY M.d (M.b.length:Int)=some true:=by
  refine OK.eq ?_;unfold CY;simp only [qfB,AT,Ae,Bool.not_true,Bool.false_or];refine AX (fun q=>absurd (of_decide_eq_true q) (by omega)) fun _=>?_;refine A9 (CS (g:=fun _=>true) (fun m hm=>J1 (g.dm m hm) (g.dn m hm) (by omega)) (AD ?_));simp
 refine OK.eq ?_;unfold Bo;simp only [qfB,AT,Ae,decide_true,Bool.not_true,Bool.or_self,cond_false,Jg g.am g.a1 g.a8,ew,J1 g.cm g.cn (by omega),ed,cond_true];exact AD rfl
def Fl1 (d:D):Prop:=(∃ x,d = .str x)\/∃ i,d = .int i
theorem kL (l:List D):isK "list" (.lst l)=true:=by simp [isK,dk]
theorem kSs (x:Str):isK "str" (.str x)=true:=by simp [isK,dk]
theorem kSi (i:Int):isK "str" (.int i)=false:=by simp [isK,dk]
theorem kIi (i:Int):isK "int" (.int i)=true:=by simp [isK,dk]
theorem kBi (i:Int):isK "bool" (.int i)=false:=by simp [isK,dk]
theorem Ej (l:List D)(hl:l.length<=1000)(h:∀ d∈l,Fl1 d):Au (.lst l) (.lst l)=some true:=by
 have hs:sizeLine=16777216:=qeB;refine OK.eq ?_;unfold Au;simp only [qfB,AT,Ae,lenD,kL,Bool.not_true,cond_false];refine AX (fun q=>?_) fun _=>?_
 ·simp at q
 refine A9 (EM (n:=l.length) (by omega) (by omega) (by omega) ?_);refine A9 (Dj (fun _ _=>True) trivial (fun i a s ha _=>?_) fun s _=>AD rfl);obtain ⟨hi,rfl⟩:=Hq ha;have hd:l[i]? = some l[i]:=qtA hi;have ea:atD (.lst l) (i:Int)=some l[i]:=F8 hd;have hm:=h l[i] (List.getElem_mem hi);generalize l[i]=d at ea hm;simp only [ea,AT];rcases hm with ⟨x,rfl⟩ | ⟨k,rfl⟩
 ·simp only [kSs,cond_true,Bool.not_true,cond_false,L9,AT];refine AX (fun q=>?_) fun _=>AD ⟨_,rfl,trivial⟩;simp at q
 ·simp only [kSi,kIi,kBi,cond_true,Bool.not_true,cond_false,L9,AT];refine AX (fun q=>?_) fun _=>AD ⟨_,rfl,trivial⟩;simp at q
theorem Gh (l:List Int)(hl:l.length<=1000):Au (ToD.to l) (ToD.to l)=some true :=
 Ej _ (by rw [qdA];exact hl) fun d hd=>by
  obtain ⟨x,_,rfl⟩:=qmA.mp hd;exact .inr ⟨x,rfl⟩
theorem Jw (l:List Str)(hl:l.length<=1000):Au (ToD.to l) (ToD.to l)=some true :=
 Ej _ (by rw [qdA];exact hl) fun d hd=>by
  obtain ⟨x,_,rfl⟩:=qmA.mp hd;exact .inl ⟨x,rfl⟩
theorem KN (w:Int × Int):Au (ToD.to [(D.int w.1),(D.int w.2)]) (ToD.to [(D.int w.1),(D.int w.2)])=some true :=
 Ej [.int w.1,.int w.2] (by show 2<=1000;decide) fun d hd=>by
  rcases qkA.mp hd with rfl|hd
  ·exact .inr ⟨_,rfl⟩
  ·rw [qnA.mp hd];exact .inr ⟨_,rfl⟩
theorem due_ok {M:Mac}(g:Gd M):BE M M=some true:=by
 have hs:sizeLine=16777216:=qeB;have c8:=few g.cn g.cm;have a8:=g.a8;have b24:=g.b24;have d3:=g.d3;refine OK.eq ?_;unfold BE;simp only [qfB,AT,Ae];have fx:¬ (!true)=true:=Bool.noConfusion;refine AX (fun h=>absurd h (by decide)) fun _=>?_;refine A9 (OK.of (Jw M.a (by omega)) ?_);refine Cb (P:=fun b=>b=false) (AX (fun h=>absurd h fx) fun _=>A9 (OK.of (Gh M.c (by omega)) (AX (fun h=>absurd h fx) fun _=>AD (by simp)))) fun b hb=>?_;refine AX (fun h=>absurd (hb.symm.trans h) Bool.noConfusion) fun _=>?_;refine A9 (EM (n:=M.b.length) (by omega) (by omega) (by omega) ?_);refine A9 (Dj (fun _ _=>True) trivial (fun i a s ha _=>?_) fun s _=>?_)
 ·obtain ⟨hi,rfl⟩:=Hq ha;have ea:atI M.b (i:Int)=some M.b[i]:=F8 (qtA hi);generalize M.b[i]=w at ea;have et:JU (ToD.to w)=some (Tp.mk [.int w.1,.int w.2]):=rfl;refine A9 (OK.of ea (Cb (P:=fun b=>b=false) (AX (fun h=>absurd h fx) fun _=>?_) fun b hb=>AX (fun h=>absurd (hb.symm.trans h) Bool.noConfusion) fun _=>AD ⟨_,rfl,trivial⟩));exact A9 (OK.of ea (A9 (OK.of et (A9 (OK.of ea (A9 (OK.of et (A9 (OK.of (KN w) (AD rfl))))))))))
 ·refine AX (fun h=>absurd h (by decide)) fun _=>?_;refine A9 (EM (n:=M.d.length) (by omega) (by omega) (by omega) ?_);refine A9 (Dj (fun _ _=>True) trivial (fun i a s ha _=>?_) fun s _=>AD rfl);obtain ⟨hi,rfl⟩:=Hq ha;have ea:atI M.d (i:Int)=some M.d[i]:=F8 (qtA hi);have hm:=List.getElem_mem hi;generalize M.d[i]=w at ea hm;have:=few (g.dn w hm) (g.dm w hm);exact A9 (OK.of ea (A9 (OK.of ea (A9 (OK.of (Gh w (by omega)) (AX (fun h=>absurd h fx) fun _=>AD ⟨_,rfl,trivial⟩))))))
theorem HJ {α S ρ:Type}{f:α->S->Option (Fl S ρ)}(nb:∀ a s t,f a s≠some (.bk t)):∀ {as bs:List α}{s s':S},Ck f as s=some (.nx s')->Ck f (as++bs) s=Ck f bs s'
 | [],bs,s,s',h=>by
  have:Fl.nx s=(Fl.nx s':Fl S ρ):=qaB h;cases this
  rfl
 | a::as,bs,s,s',h=>by
  obtain ⟨fl,hf,h⟩:=qaA.mp h;show (f a s).bind _=_;rw [hf,AT]
  cases fl with
  | nx t=>exact HJ nb (as:=as) (bs:=bs) (s:=t) (s':=s') h
  | bk t=>exact absurd hf (nb _ _ _)
  | rt r=>cases h
theorem Fh {α β S ρ:Type}{f:α->S->Option (Fl S ρ)}{g:β->α}{put:S->List β->S}(p0:∀ s,put s []=s)(p1:∀ s x xs,put (put s [x]) xs=put s (x::xs)){z:S->Nat}(pz:∀ s x,z (put s [x])=z s+1):∀ {xs:List β}{s:S},(∀ x∈xs,∀ s,z s<=1000->f (g x) s=some (.nx (put s [x])))->z s+xs.length<=1000->Ck f (xs.map g) s=some (.nx (put s xs))
 | [],s,_,_=>by rw [p0];rfl
 | x::xs,s,h,hz=>by
  rw [qfA] at hz;show (f (g x) s).bind _=_;rw [h x qoA s (by omega),AT];exact (Fh (s:=put s [x]) p0 p1 pz (fun y hy=>h y (qpA _ hy)) (by rw [pz];omega)).trans (by rw [p1])
def sz (s:Mac):Nat:=s.a.length+s.b.length+s.c.length+s.d.length
def pt1 (s:Mac)(x:List Str):Mac:=T4.mk (s.a++x) s.b s.c s.d
def pt2 (s:Mac)(x:List (Int × Int)):Mac:=T4.mk s.a (s.b++x) s.c s.d
def pt3 (s:Mac)(x:List Int):Mac:=T4.mk s.a s.b (s.c++x) s.d
def pt4 (s:Mac)(x:List (List Int)):Mac:=T4.mk s.a s.b s.c (s.d++x)
theorem at0 (a:Str)(r:List Str):atI (a::r) (0:Int)=some a:=F8 (j:=0) rfl
theorem at1 (a b:Str)(r:List Str):atI (a::b::r) (1:Int)=some b:=F8 (j:=1) rfl
theorem cut1 (a:Str)(r:List Str):FD (a::r) (some (1:Int)) none=r:=by
 unfold FD;have h1:HT.sIx (a::r).length 0 (some (1:Int))=1:=(HT.sIx_nat (a::r).length 0 1).trans (by rw [qfA];omega);have h2:HT.sIx (a::r).length (a::r).length none=(a::r).length:=rfl;rw [h1,h2];exact List.take_of_length_le (by rw [List.length_drop];omega)
theorem rd_mo {x:Str}(h:Mom x):Bv (mo x)=some x:=by
 unfold Bv mo;simp only [qfB,AT,Ae];by_cases hx:x = ""
 ·rw [if_pos hx];refine OK.eq (AX (fun _=>AD hx.symm) fun q=>?_);exact absurd q (by decide)
 ·rw [if_neg hx]
  have hd:x≠("-" : Str):=fun e=>by
   have:(45:Nat)∈x.cps.toList:=by rw [e];decide +kernel
   have:=List.mem_range'_1.mp (h.subset this);omega
  refine OK.eq (AX (fun q=>absurd (of_decide_eq_true q) hd) fun _=>?_);refine Cb (P:=fun b=>b=false) (AX (fun q=>absurd (of_decide_eq_true q) hx) fun _=>A9 (OK.of (Gq h) (AD rfl))) fun b hb=>AX (fun q=>absurd (hb.symm.trans q) Bool.noConfusion) fun _=>AD rfl
theorem LW {m:Nat}(hm:m<=24){l:List Int}(h:∀ k∈l,In m k):BH (l.map nm)=some l:=by
 unfold BH;simp only [AT]
 induction l with
 | nil=>rfl
 | cons k l ih =>
  have e1:=(EU (h k qoA) hm).2.1;have e2:=ih fun x hx=>h x (qpA _ hx);show ((BG (nm k)).bind fun b=>(C9 _ (l.map nm)).bind fun bs=>some (b::bs))=_;rw [e1,AT,e2,AT]
theorem d_sw:decide (("way" : Str) = "state")=false:=by decide +kernel
theorem d_sf:decide (("from" : Str) = "state")=false:=by decide +kernel
theorem d_sm:decide (("mark" : Str) = "state")=false:=by decide +kernel
theorem d_wf:decide (("from" : Str) = "way")=false:=by decide +kernel
theorem d_wm:decide (("mark" : Str) = "way")=false:=by decide +kernel
theorem d_fm:decide (("mark" : Str) = "from")=false:=by decide +kernel
theorem MN {b:Bool}{α:Type}{x y:Option α}{P:α->Prop}(h:b=true)(k:OK x P):OK (cond b x y) P:=by subst h;exact k
theorem GS {b:Bool}{α:Type}{x y:Option α}{P:α->Prop}(h:b=false)(k:OK y P):OK (cond b x y) P:=by subst h;exact k
theorem lay1 {M:Mac}(g:Gd M){x:Str}(hx:x∈M.a){s:Mac}(hz:sz s<=1000):BW s (rw1 x)=some (pt1 s [x]):=by
 have hs:sizeLine=16777216:=qeB;unfold sz at hz;refine OK.eq ?_;unfold BW rw1;simp only [qfB,AT,Ae,at0,at1,rd_mo (g.am x hx)];exact Cb (P:=fun b=>b=true) (MN (decide_eq_true trivial) (AD rfl)) fun b hb=>MN hb (A9 (F2 (by omega) (AD rfl)))
theorem lay2 {M:Mac}(g:Gd M){x:Int × Int}(hx:x∈M.b){s:Mac}(hz:sz s<=1000):BW s (rw2 x)=some (pt2 s [x]):=by
 have hs:sizeLine=16777216:=qeB;unfold sz at hz;have a8:=g.a8
 have e:BH [nm x.1,nm x.2]=some [x.1,x.2]:=LW (l:=[x.1,x.2]) (m:=M.a.length) (by omega) fun k hk=>by
  rcases qkA.mp hk with rfl|hk
  ·exact (g.bm x hx).1
  ·rw [qnA.mp hk];exact (g.bm x hx).2
 refine OK.eq ?_;unfold BW rw2;simp only [qfB,AT,Ae,at0,cut1,e];exact Cb (P:=fun b=>b=false) (GS d_sw (AD rfl)) fun b hb=>GS hb (MN (decide_eq_true trivial) (A9 (OK.of (a:=x) rfl (A9 (F2 (by omega) (AD rfl))))))
theorem lay3 {M:Mac}(g:Gd M){x:Int}(hx:x∈M.c){s:Mac}(hz:sz s<=1000):BW s (rw3 x)=some (pt3 s [x]):=by
 have hs:sizeLine=16777216:=qeB;unfold sz at hz;have a8:=g.a8;refine OK.eq ?_;unfold BW rw3;simp only [qfB,AT,Ae,at0,at1,(EU (g.cm x hx) (by omega)).2.1];exact Cb (P:=fun b=>b=false) (GS d_sf (AD rfl)) fun b hb=>GS hb (GS d_wf (Cb (P:=fun b=>b=true) (MN (decide_eq_true trivial) (AD rfl)) fun b hb=>MN hb (A9 (F2 (by omega) (AD rfl)))))
theorem lay4 {M:Mac}(g:Gd M){x:List Int}(hx:x∈M.d){s:Mac}(hz:sz s<=1000):BW s (rw4 x)=some (pt4 s [x]):=by
 have hs:sizeLine=16777216:=qeB;unfold sz at hz;refine OK.eq ?_;unfold BW rw4;simp only [qfB,AT,Ae,at0,cut1,LW g.b24 (g.dm x hx)];exact Cb (P:=fun b=>b=false) (GS d_sm (AD rfl)) fun b hb=>GS hb (GS d_wm (Cb (P:=fun b=>b=false) (GS d_fm (AD rfl)) fun b hb=>GS hb (MN (decide_eq_true trivial) (A9 (F2 (by omega) (AD rfl))))))
theorem read_ok {M:Mac}(g:Gd M):BX (txt M)=some M:=by
 have hs:sizeLine=16777216:=qeB;have c8:=few g.cn g.cm;have a8:=g.a8;have b24:=g.b24;have d3:=g.d3;refine OK.eq ?_;unfold BX BI;simp only [qfB,AT,Ae];refine A9 (GS rfl (AD ?_));rw [txt_spl g,AT];generalize hf:(fun (row_:Str) (s10:Mac)=>(Hi row_ " ").bind fun c=>(EJ s10 (c,())).bind fun r=>some (Fl.nx r:Fl Mac Unit))=f
 have nb:∀ a s t,f a s≠some (.bk t):=fun a s t e=>by
  subst hf;obtain ⟨_,_,e⟩:=qaA.mp e;obtain ⟨_,_,e⟩:=qaA.mp e;cases e
 have step:∀ (r:List Str) (s s':Mac),Wr r->BW s r=some s'->f (jn r) s=some (.nx s'):=fun r s s' hr e=>by
  subst hf;show (Hi (jn r) " ").bind _=_;rw [jn_spl hr,AT];show (BW s r).bind _=_;rw [e,AT]
 have e1:∀ s,sz s+M.a.length<=1000->Ck f (M.a.map fun x=>jn (rw1 x)) s=some (.nx (pt1 s M.a)):=fun s h=>Fh (put:=pt1) (z:=sz) (fun s=>by unfold pt1;rw [qwA]) (fun s x xs=>by unfold pt1;simp only [qvA];rfl) (fun s x=>by unfold pt1 sz;simp only [qeA,qgA];omega) (fun x hx s hz=>step _ _ _ (wr1 g hx) (lay1 g hx hz)) h;have e2:∀ s,sz s+M.b.length<=1000->Ck f (M.b.map fun x=>jn (rw2 x)) s=some (.nx (pt2 s M.b)):=fun s h=>Fh (put:=pt2) (z:=sz) (fun s=>by unfold pt2;rw [qwA]) (fun s x xs=>by unfold pt2;simp only [qvA];rfl) (fun s x=>by unfold pt2 sz;simp only [qeA,qgA];omega) (fun x hx s hz=>step _ _ _ (wr2 g hx) (lay2 g hx hz)) h;have e3:∀ s,sz s+M.c.length<=1000->Ck f (M.c.map fun x=>jn (rw3 x)) s=some (.nx (pt3 s M.c)):=fun s h=>Fh (put:=pt3) (z:=sz) (fun s=>by unfold pt3;rw [qwA]) (fun s x xs=>by unfold pt3;simp only [qvA];rfl) (fun s x=>by unfold pt3 sz;simp only [qeA,qgA];omega) (fun x hx s hz=>step _ _ _ (wr3 g hx) (lay3 g hx hz)) h;have e4:∀ s,sz s+M.d.length<=1000->Ck f (M.d.map fun x=>jn (rw4 x)) s=some (.nx (pt4 s M.d)):=fun s h=>Fh (put:=pt4) (z:=sz) (fun s=>by unfold pt4;rw [qwA]) (fun s x xs=>by unfold pt4;simp only [qvA];rfl) (fun s x=>by unfold pt4 sz;simp only [qeA,qgA];omega) (fun x hx s hz=>step _ _ _ (wr4 g hx) (lay4 g hx hz)) h
 have er:(rows M).map jn=M.a.map (fun x=>jn (rw1 x))++(M.b.map (fun x=>jn (rw2 x))++(M.c.map (fun x=>jn (rw3 x))++M.d.map (fun x=>jn (rw4 x)))):=by
  unfold rows;simp only [List.map_append,List.map_map]
  rfl
 have key:Ck f ((rows M).map jn) (T4.mk [] [] [] [])=some (.nx M):=by
  rw [er,HJ nb (e1 _ (by show 0+0+0+0+_<=_;omega)),HJ nb (e2 _ (by unfold pt1 sz;simp only [qeA,List.length_nil];omega)),HJ nb (e3 _ (by unfold pt2 pt1 sz;simp only [qeA,List.length_nil];omega)),e4 _ (by unfold pt3 pt2 pt1 sz;simp only [qeA,List.length_nil];omega)]
  rfl
 rw [key];refine A9 (AD ?_);show OK ((Bo M).bind _) _;refine A9 (OK.of (is_ok g) ?_);refine Cb (P:=fun b=>b=false) (GS rfl (A9 (OK.of (Lk g) (AD (by rw [decide_eq_true rfl];rfl))))) fun b hb=>GS hb (AD rfl)
theorem J3 (c:Int)(m:Nat)(hm:m<=100){P:List Int->Prop}(hp:∀ l:List Int,l.Nodup->(∀ n∈l,In m n)->P l):OK (Bb c (m:Int)) P:=by
 have hs:sizeLine=16777216:=qeB;unfold Bb;simp only [qfB,AT,Ae];refine A9 (EM (n:=m) (by omega) (by omega) (by omega) ?_);refine A9 (Dj (fun i (s:Int × List Int)=>s.2.length<=i/\s.2.Nodup/\∀ n∈s.2,In i n) ⟨qxA _,List.nodup_nil,fun n hn=>(by cases hn)⟩ (fun i a s ha ⟨h1,h0,h2⟩=>?_) fun s ⟨h1,h0,h2⟩=>AD (hp _ h0 fun n hn=>by rw [HI] at h2;exact h2 n hn));obtain ⟨hi,rfl⟩:=Hq ha;have up:∀ n∈s.2,In (i+1) n:=fun n hn=>by have:=h2 n hn;unfold In at *;omega
 refine Cb (P:=fun z:List Int=>z.length<=i+1/\z.Nodup/\∀ n∈z,In (i+1) n) (AX (fun _=>F2 (by omega) ⟨?_,?_,fun n hn=>?_⟩) fun _=>AD ⟨by omega,h0,up⟩) fun z ⟨z1,z0,z2⟩=>AD ⟨_,rfl,z1,z0,z2⟩
 ·rw [qeA,qgA];omega
 ·refine List.nodup_append.mpr ⟨h0,(by simp),fun a ha b hb=>?_⟩;rw [qnA.mp hb];have:=h2 a ha;unfold In at this;omega
 ·rcases qjA.mp hn with h|h
  ·exact up n h
  ·rw [qnA.mp h];unfold In;omega
theorem M3 {l:List Int}{x:Int}(h:x∈(Gi l).reverse):x∈l:=(List.mergeSort_perm l leZ).mem_iff.mp (List.mem_reverse.mp h)
theorem sortR_nd {l:List Int}(h:l.Nodup):(Gi l).reverse.Nodup:=((List.reverse_perm _).trans (List.mergeSort_perm l leZ)).nodup_iff.mpr h
theorem Mm (c:Int){P:Int->Prop}(hp:∀ m:Nat,1<=m->m<=8->P (m:Int)):OK (CC c) P:=by
 unfold CC;simp only [AT];have a0:=qhB c (b:=8) (by decide);have a1:=qiB c (b:=8) (by decide);have b0:=qhB c (b:=4) (by decide);have b1:=qiB c (b:=4) (by decide);refine AX (fun _=>AD ?_) fun _=>AD ?_
 ·have:=hp (1+c % 8).toNat (by omega) (by omega)
  rwa [Int.toNat_of_nonneg (by omega)] at this
 ·have:=hp (1+c % 4).toNat (by omega) (by omega)
  rwa [Int.toNat_of_nonneg (by omega)] at this
theorem Kz (c:Int){m:Nat}(h:1<=m):In m (c % (m:Int)):=⟨qhB _ (by omega),qiB _ (by omega)⟩
theorem Kr (s:Scr)(letters:List Str)(hL:Ltr letters){P:Mac->Prop}(hp:∀ M:Mac,Gd M->P M):OK (Bw s letters) P:=by
 have hs:sizeLine=16777216:=qeB;unfold Bw;simp only [qfB,AT,Ae];refine A9 (CP s 1 (by decide) (by decide) fun c1=>A9 (Mm c1 fun m m1 m8=>A9 (CP s 2 (by decide) (by decide) fun c2=>?_)));refine Cb (P:=fun z:Int=>1<=z) (AX (fun _=>ok_mul (.inl ⟨by omega,by omega⟩) ?_) fun _=>AD (by omega)) fun most hmost=>?_
 ·have:(1:Int) * 1<=(m:Int) * (m:Int):=Int.mul_le_mul (by omega) (by omega) (by decide) (by omega);omega
 ·refine A9 (CP s 2 (by decide) (by decide) fun c2'=>?_);have hpos:(0:Int)<(if most<24 then most else 24)+1:=by split<;>omega
  have hle:(if most<24 then most else 24)+1<=(25:Int):=by split<;>omega
  refine A9 (HP hpos ?_);have a0:=qhB c2' (b:=(if most<24 then most else 24)+1) (by omega);have a1:=qiB c2' hpos;obtain ⟨n,hn⟩:=qgB a0;rw [hn] at a1 ⊢;refine A9 (EM (n:=n) (by omega) (by omega) (by omega) ?_);refine A9 (Dj (fun i (w:List (Int × Int))=>w.length<=i/\w.Nodup/\∀ p∈w,In m p.1/\In m p.2) ⟨qtB _,List.nodup_nil,fun p hp=>(by cases hp)⟩ (fun i a w ha ⟨hI,hN,hJ⟩=>?_) fun W ⟨hW,hN,hV⟩=>?_)
  ·obtain ⟨hi,rfl⟩:=Hq ha;refine A9 (CP s _ (by omega) (by omega) fun ck=>A9 (HP (by omega) (A9 (HP (by omega) ?_))));refine Cb (P:=fun z:Int × Int=>In m z.1/\In m z.2) (AX (fun hk=>A9 (HP (by omega) (AD ⟨⟨by omega,of_decide_eq_true hk⟩,Kz _ m1⟩))) fun _=>AD ⟨Kz _ m1,Kz _ m1⟩) fun way hway=>?_;rw [memE_eq];refine AX (fun hk=>A9 (F2 (by omega) (AD ⟨_,rfl,by rw [qeA,qgA];omega,?_,fun p hp=>?_⟩))) fun _=>AD ⟨_,rfl,by omega,hN,hJ⟩
   ·have hk:way ∉ w:=by simpa using hk
    refine List.nodup_append.mpr ⟨hN,(by simp),fun a ha b hb e=>hk ?_⟩;rw [qnA.mp hb] at e;exact e ▸ ha
   ·rcases qjA.mp hp with h|h
    ·exact hJ p h
    ·rw [qnA.mp h];exact hway
  ·rw [HI] at hW;refine A9 (EM (n:=m) (by omega) (by omega) (by omega) ?_);refine A9 (LY (R:=fun _ x=>Mom x) (fun a ha=>?_) fun lits hlits hmm _=>?_)
   ·obtain ⟨k,hk,rfl⟩:=qmA.mp ha;have:=qqA.mp hk;exact A9 (CP s _ (by omega) (by omega) fun ck=>lit_ok letters hL _)
   ·refine A9 (CP s 3 (by decide) (by decide) fun c3=>A9 (J3 c3 m (by omega) fun st s1 s2=>A9 (CP s 3 (by decide) (by decide) fun c3'=>?_)));have:=few s1 s2;refine Cb (P:=fun z:List Int=>z.Nodup/\∀ x∈z,In m x) (AX (fun _=>⟨_,if_pos (by omega),sortR_nd s1,fun x hx=>s2 x (M3 hx)⟩) fun _=>AD ⟨s1,s2⟩) fun starts hst=>?_;refine A9 (CP s 4 (by decide) (by decide) fun c4=>?_);have d0:=qhB c4 (b:=4) (by decide);have d1:=qiB c4 (b:=4) (by decide);obtain ⟨q,hq⟩:=qgB d0;rw [hq] at d1 ⊢;refine A9 (EM (n:=q) (by omega) (by omega) (by omega) ?_);rw [HI] at hlits;refine A9 (LY (R:=fun _ b=>b.Nodup/\∀ n∈b,In W.length n) (fun a ha=>?_) fun marks hml hm _=>AD (hp _ ⟨?_,?_,?_,hN,?_,?_,hst.1,?_,?_,?_,?_⟩))
    ·obtain ⟨k,hk,rfl⟩:=qmA.mp ha;have:=qqA.mp hk;exact A9 (CP s _ (by omega) (by omega) fun ck=>J3 ck W.length (by omega) fun l h1 h2=>⟨h1,h2⟩)
    ·show 1<=lits.length;omega
    ·show lits.length<=8;omega
    ·intro x hx;obtain ⟨_,_,h⟩:=hmm x hx;exact h
    ·show W.length<=24;omega
    ·intro w hw;show In lits.length w.1/\In lits.length w.2;rw [hlits];exact hV w hw
    ·intro w hw;show In lits.length w;rw [hlits];exact hst.2 w hw
    ·show marks.length<=3;rw [hml,HI];omega
    ·intro x hx;obtain ⟨_,_,h⟩:=hm x hx;exact h.1
    ·intro x hx;obtain ⟨_,_,h⟩:=hm x hx;exact h.2
def gW (t:Int):List (Int × Int):=((List.range 24).map fun (i:Nat)=>(0:Int)+(i:Int)).map fun k=>((k+t) % 8,(k * 3+k / 8) % 8)
def gE:List Int:=((List.range 24).map fun (i:Nat)=>(0:Int)+(i:Int)).map fun k=>k
def gS:List Int:=[7,0,6,1,5,2,4,3]
def gM (t:Int):List (List Int):=[FD gE (some t) none++FD gE none (some t),[],E3 gE none none (-1)]
def inB (m:Nat)(k:Int):Bool:=decide (0<=k) && decide (k<(m:Int))
theorem JJ {m:Nat}{k:Int}(h:inB m k=true):In m k:=by
 unfold inB at h;rw [quB] at h;exact ⟨of_decide_eq_true h.1,of_decide_eq_true h.2⟩
theorem g_all:∀ t:Nat,t<24->(gW (t:Int)).Nodup/\(gW (t:Int)).length=24/\((gW (t:Int)).all fun w=>inB 8 w.1 && inB 8 w.2)=true/\(gM (t:Int)).length=3/\((gM (t:Int)).all fun m=>decide m.Nodup && m.all fun k=>inB 24 k)=true:=by decide +kernel
theorem gS_all:gS.Nodup/\(gS.all fun k=>inB 8 k)=true:=by decide +kernel
theorem great_gd {x:Str}(h:Mom x)(t:Nat)(ht:t<24):Gd (T4.mk (List.replicate 8 x) (gW (t:Int)) gS (gM (t:Int))):=by
 obtain ⟨h1,h2,h3,h4,h5⟩:=g_all t ht;have e8:(List.replicate 8 x).length=8:=List.length_replicate;refine ⟨?_,?_,fun y hy=>?_,h1,?_,fun w hw=>?_,gS_all.1,fun w hw=>?_,?_,fun w hw=>?_,fun w hw n hn=>?_⟩
 ·show 1<=(List.replicate 8 x).length;omega
 ·show (List.replicate 8 x).length<=8;omega
 ·have:=List.eq_of_mem_replicate hy;rw [this];exact h
 ·show (gW (t:Int)).length<=24;omega
 ·have:=List.all_eq_true.mp h3 w hw;rw [quB] at this;show In (List.replicate 8 x).length w.1/\In (List.replicate 8 x).length w.2;rw [e8];exact ⟨JJ this.1,JJ this.2⟩
 ·show In (List.replicate 8 x).length w;rw [e8];exact JJ (List.all_eq_true.mp gS_all.2 w hw)
 ·show (gM (t:Int)).length<=3;omega
 ·have:=List.all_eq_true.mp h5 w hw;rw [quB] at this;exact of_decide_eq_true this.1
 ·have:=List.all_eq_true.mp h5 w hw;rw [quB] at this;show In (gW (t:Int)).length n;rw [h2];exact JJ (List.all_eq_true.mp this.2 n hn)
theorem okS1_ok {M:Mac}(g:Gd M):okS1 M=some ():=by
 have hs:sizeLine=16777216:=qeB;have c8:=few g.cn g.cm;have a8:=g.a8;have b24:=g.b24;have d3:=g.d3;unfold okS1;rw [if_pos];omega
theorem map_id' {l:List (List Int)}:C9 (fun (Co:List Int)=>some Co) l=some l:=OK.eq (CS (g:=fun m=>m) (fun _ _=>rfl) (by rw [List.map_id']))
theorem law_true (ns:List Int)(hl:ns.length<=63):Kj ⟨ns⟩=some true:=by
 have hs:sizeLine=16777216:=qeB;refine OK.eq ?_;unfold Kj;simp only [qfB,AT,Ae];refine A9 (CP _ 0 (by decide) (by decide) fun c0=>A9 (Kx _ (qhB _ (by decide)) fun ls hL=>A9 (Kr _ ls hL fun M g=>A9 (CP _ 40 (by decide) (by decide) fun c40=>?_))));refine Cb (P:=Gd) (AX (fun _=>A9 (CP _ 41 (by decide) (by decide) fun c41=>?_)) fun _=>AD g) fun N gN=>?_
 ·have a0:=qhB c41 (b:=24) (by decide);have a1:=qiB c41 (b:=24) (by decide);obtain ⟨t,ht⟩:=qgB a0;rw [ht] at a1 ⊢;refine A9 (EM (n:=24) (by omega) (by omega) (by omega) ?_);refine A9 (CS (g:=fun k=>((k+(t:Int)) % 8,(k * 3+k / 8) % 8)) (fun _ _=>rfl) ?_);refine A9 (EM (n:=24) (by omega) (by omega) (by omega) ?_);refine A9 (CS (g:=fun k=>k) (fun _ _=>rfl) ?_)
  obtain ⟨x,r,e⟩:∃ x r,M.a=x::r:=by
   cases h:M.a with
   | nil =>
    have:=g.a1;rw [h] at this;exact absurd this (by decide)
   | cons x r=>exact ⟨x,r,rfl⟩
  have ec:FD M.a none (some (1:Int))=[x]:=by
   rw [e];unfold FD;have h1:HT.sIx (x::r).length (x::r).length (some (1:Int))=1:=(HT.sIx_nat (x::r).length _ 1).trans (by rw [qfA];omega);rw [h1]
   rfl
  rw [ec];refine A9 (ok_rep (k:=8) (by show 1 * 8<=sizeLine;omega) (by decide) ?_);refine A9 (HF ?_ (AD ?_))
  ·have h1:∀ lo hi,(FD gE lo hi).length<=24:=fun lo hi=>by
    unfold FD;rw [qiA,List.length_drop];have:gE.length=24:=by decide +kernel
    omega
   have h2:=h1 (some (t:Int)) none;have h3:=h1 none (some (t:Int));unfold gE at h2 h3;omega
  ·have:(List.replicate 8 [x]).flatten=List.replicate 8 x:=rfl;rw [this];exact great_gd (g.am x (by rw [e];exact qoA)) t (by omega)
 ·rw [text_ok gN,AT,map_id',AT];show OK ((B0 N).bind _) _;rw [Lk gN,AT];refine AX (fun h=>?_) fun _=>?_
  ·simp at h
  rw [read_ok gN];refine A9 (AD (A9 (OK.of (due_ok gN) (AX (fun h=>absurd h (by decide)) fun _=>A9 (OK.of (okS1_ok gN) (A9 (AD (A9 (OK.of (due_ok gN) (AX (fun _=>?_) fun h=>absurd h (by decide)))))))))));exact A9 (AD (AD (decide_eq_true rfl)))
theorem law_imp {K:FZ9}{vs:List V}{H:Hp}{Q:VK}{E:XK}(h:JY K vs H Q E):spM K mm_law vs H Q E:=by
 obtain ⟨a,ns,rfl,hS,hl,q⟩:=h;exact ⟨H,(⟨ns⟩,()),true,Same.refl H,⟨.ref a,[],rfl,⟨a,rfl,hS⟩,rfl⟩,law_true ns hl,fun v G2 H2 x r=>by cases r;exact q H2⟩
set_option maxHeartbeats 1000000 in
theorem all_mk {l:PySem.W.OpenLaw}{w:World}{K:FZ9}{h:Heap}{mg:Str->Option Value}{fa:Addr}(X:K.In h)(G:h.Ns mainGlobals mg)(hfa:mg "law" = some (.ref fa))
  (Z:DIn K mg "is_moment" Eo/\DIn K mg "is_number_below" Cg/\DIn K mg "are_numbers_once" CT/\DIn K mg "is_way" IL/\DIn K mg "are_moments" Dr/\DIn K mg "are_ways" Fc/\DIn K mg "are_marks" Ek/\DIn K mg "is_machine" EG/\DIn K mg "show_moment" Dn/\DIn K mg "show_numbers" DR/\DIn K mg "show_machine" DZ/\DIn K mg "refuse_other_kinds" C2/\DIn K mg "read_moment" Dy/\DIn K mg "read_number" Dz/\DIn K mg "read_numbers" DW/\DIn K mg "lay_row" GH/\DIn K mg "read_machine" Dc/\DIn K mg "_law_cell" Fb/\DIn K mg "_law_letters" Dw/\DIn K mg "_law_lit" GR/\DIn K mg "_law_chosen" ED/\DIn K mg "_law_states" ET/\DIn K mg "_law_machine" Dm/\DIn K mg "_law_machine_text" CU/\DIn K mg "_law_listed" EE/\DIn K mg "_law_is_machine" Cs/\DIn K mg "law" s_law)
  {tk0 tk1 tk2 tk3 tk4:Tok}
  (gv0:PySem.W.nsIn K mainGlobals "MOST_STATES" = some (some (.int 8 tk0)))
  (gv1:PySem.W.nsIn K mainGlobals "MOST_WAYS" = some (some (.int 24 tk1)))
  (gv2:PySem.W.nsIn K mainGlobals "MOST_MARKS" = some (some (.int 3 tk2)))
  (gv3:PySem.W.nsIn K mainGlobals "FIGURES" = some (some (.str "0123456789" tk3)))
  (gv4:PySem.W.nsIn K mainGlobals "MOST_FIGURES" = some (some (.int 60 tk4)))
  (zs:Nn K "ValueError" /\ Nn K "all" /\ Nn K "bool" /\ Nn K "int" /\ Nn K "isinstance" /\ Nn K "len" /\ Nn K "list" /\ Nn K "min" /\ Nn K "range" /\ Nn K "set" /\ Nn K "sorted" /\ Nn K "str" /\ Nn K "tuple") :
  ∃ fd:FuncData,(∀ (s:Shared) (v:Value),BindsTo s fd ⟨[v],[]⟩ [("_law_script",v)])/\∀ base:Heap,K.In base->base.Ns mainGlobals mg->FnOk l.prog w K mg base CX0 6 fa fd ["_law_script"] (JY K):=by
 obtain ⟨z0,z1,z2,z3,z4,z5,z6,z7,z8,z9,z10,z11,z12,z13,z14,z15,z16,z17,z18,z19,z20,z21,z22,z23,z24,z25,z26⟩:=Z;obtain ⟨y0,y1,y2,y3,y4,y5,y6,y7,y8,y9,y10,y11,y12⟩:=zs;obtain ⟨f,fd,a,F⟩:=z26.ex;cases hfa.symm.trans a;have T:Txt mg:=⟨PySem.W.mg_none_of X G y0,PySem.W.mg_none_of X G y1,PySem.W.mg_none_of X G y2,PySem.W.mg_none_of X G y3,PySem.W.mg_none_of X G y4,PySem.W.mg_none_of X G y5,PySem.W.mg_none_of X G y6,PySem.W.mg_none_of X G y7,PySem.W.mg_none_of X G y8,PySem.W.mg_none_of X G y9,PySem.W.mg_none_of X G y10,PySem.W.mg_none_of X G y11,PySem.W.mg_none_of X G y12,⟨_,PySem.W.mg_of X G gv0⟩,⟨_,PySem.W.mg_of X G gv1⟩,⟨_,PySem.W.mg_of X G gv2⟩,⟨_,PySem.W.mg_of X G gv3⟩,⟨_,PySem.W.mg_of X G gv4⟩⟩;refine ⟨fd,?_,fun base _ _=>?_⟩
 ·obtain ⟨_,_,_,_,_,_,_,_,_,rfl,_⟩:=F.ex;exact fun s v=>.of_eq rfl
 have Do:=@Hw l.prog w K mg base z18 T;have EF:=@Ib l.prog w K mg base z21 T;have DH:=@IV l.prog w K mg base z20 T;have Aq:=@KL l.prog w K mg base z17 T;have GQ:=@LF l.prog w K mg base z19 T;have Dk:=@HV l.prog w K mg base z22 T EF DH Aq GQ;have CV:=@F9 l.prog w K mg base z23 T;have Dv:=@HY l.prog w K mg base z8 T;have Ch:=@Gw l.prog w K mg base z9 T;have BY:=@Gy l.prog w K mg base z10 T Dv Ch;have C0:=@EY l.prog w K mg base z11 T;have Ca:=@JG l.prog w K mg base z0 T;have Du:=@II l.prog w K mg base z12 T Ca;have Bu:=@ID l.prog w K mg base z13 T;have Cc:=@Gv l.prog w K mg base z14 T Bu;have GW:=@LA l.prog w K mg base z15 T Du Cc Bu;have B1:=@FW l.prog w K mg base z1 T;have BD:=@FA l.prog w K mg base z2 T B1;have Ey:=@Jj l.prog w K mg base z6 T BD;have Dp:=@HZ l.prog w K mg base z4 T Ca;have IH:=@MZ l.prog w K mg base z3 T B1;have FX:=@KR l.prog w K mg base z5 T IH;have EA:=@IR l.prog w K mg base z7 T BD Ey Dp FX;have Cd:=@Gs l.prog w K mg base z16 T C0 GW EA BY;have C5:=@IY l.prog w K mg base z24 T;have C7:=@Fx l.prog w K mg base z25 T C5;exact (ok_law F T Do Dk CV BY Cd C7 Aq).imp fun _ _ _ _ h=>law_imp h
theorem walk {l:PySem.W.OpenLaw}{q:Program}{loose:List Str}{XP:(Str->Option Value)->Heap->Prop}{YP:World->Heap->Prop}{d:DefRec}{K:Params->FZ9}(hn:l.most=some 63)(hdf:d.params.defaults=[])
  (hY:∀ (w:World) (h:Heap),YP w h->(K w.params).In h)
  (F:∀ (w:World) (mg:Str->Option Value) (fa:Addr) (h:Heap),(K w.params).In h->h.Ns mainGlobals mg->mg d.name=some (.ref fa) ->
   ∃ fd:FuncData,(∀ (s:Shared) (u:Value),BindsTo s fd ⟨[u],[]⟩ [("_law_script",u)])/\∀ base:Heap,(K w.params).In base->base.Ns mainGlobals mg->FnOk l.prog w (K w.params) mg base CX0 6 fa fd ["_law_script"] (JY (K w.params))) :
  PySem.W.WalkO q loose XP YP l.row.toRowW d [] (fun f vs=>PySem.call f vs) :=
 L2.walk_of (n:=63) (k:=6) (x := "_law_script") (CX:=fun _=>CX0) (sp:=fun w=>JY (K w.params)) hn (by decide) hdf ⟨rfl,by decide,by decide⟩ hY F (fun _ _ a ns hl _ hS=>⟨a,ns,rfl,hS,hl,fun _=>rfl⟩) fun _ _ _ _ _ z=>z
end My
open PySem PySem.W PyProof.Rows
theorem PySem.W.Fast.tw10164234966222274192:True:=trivial
theorem PySem.W.Fast.tw14051894619056615123:True:=trivial
theorem PySem.W.Fast.tw17369358835918934767:True:=trivial
theorem PySem.W.Fast.tw5437328570152827556:True:=trivial
theorem PySem.W.Fast.tw17822916797338653169:True:=trivial
theorem PySem.W.Fast.tw12447699676361429110:True:=trivial
theorem PySem.W.Fast.tw2709492526802452656:True:=trivial
theorem PySem.W.Fast.tw10826127618640053102:True:=trivial
theorem PySem.W.Fast.tw17530780297289656600:True:=trivial
theorem PySem.W.Fast.tw5291203177532499675:True:=trivial
theorem PySem.W.Fast.tw12585850657069437365:True:=trivial
theorem PySem.W.Fast.tw7756843031825344106:True:=trivial
theorem PySem.W.Fast.tw3188782528366565083:True:=trivial
set_option maxRecDepth 100000 in
set_option maxHeartbeats 0 in
theorem PySem.Challenge.cw_lassoscribe_k88_machines_written_holds : PySem.Challenge.rw_lassoscribe_k88_machines_written.Holds := by
 w_on; o_law; k_head; (case hw => w_witness2)
 k_fill
 refine My.walk (l := PySem.Challenge.rw_lassoscribe_k88_machines_written) rfl rfl (fun w h Y => PySem.W.kIn_of Y) ?F
 case F =>
  intro w mg fa h KX G hmg;refine' My.all_mk KX G hmg ?zz ?gv0 ?gv1 ?gv2 ?gv3 ?gv4 ?zy
  (case zz =>
   refine ⟨?_, ?_, ?_, ?_, ?_, ?_, ?_, ?_, ?_, ?_, ?_, ?_, ?_, ?_, ?_, ?_, ?_, ?_, ?_, ?_, ?_, ?_, ?_, ?_, ?_, ?_, ?_⟩
   all_goals (refine' L2.din KX G ?a ?l ?c ?k; (case a => k_is); (case l => k_is); (case c => k_is); (case k => k_is)))
  (case gv0 => k_is)
  (case gv1 => k_is)
  (case gv2 => k_is)
  (case gv3 => k_is)
  (case gv4 => k_is)
  (case zy => refine ⟨?_, ?_, ?_, ?_, ?_, ?_, ?_, ?_, ?_, ?_, ?_, ?_, ?_⟩ <;> (unfold L2.Nn; k_is))
end
