import PyProof.Rows.All
import Wide.All
import OpenK.AllK
import Wide.FinOn
import Lean
import PyProof.EqAt
import PyProof.EqKinds
import PyProof.TupleCall
import PyProof.P3Eq
import PyProof.NeData
import PyProof.P3In
import PyProof.Rows.EnumRows
import PyProof.ZipIter
import PySem.Challenge.RW_evenhues_k25_reasons_looked_at
set_option genSizeOf false
set_option genSizeOfSpec false
set_option bootstrap.genMatcherCode false
set_option Elab.async false
set_option linter.all false
set_option maxRecDepth 100000
set_option maxHeartbeats 4000000
section
namespace Hd
open PySem
inductive G where
 |int (i:Int)|str (x:Str)|ctup (ns:List Int)
noncomputable def args(s:Stmt):Arguments:=match s with
 |.FunctionDef _ a _ _ _ _ _ _ _ _=>a
 |_=>{posonlyargs:=[],args:=[],vararg:=none,kwonlyargs:=[],kw_defaults:=[],kwarg:=none,defaults:=[]}
noncomputable def body(s:Stmt):List Stmt:=match s with
 |.FunctionDef _ _ b _ _ _ _ _ _ _=>b
 |_=>[]
noncomputable def scope(s:Stmt):Scope:=match s with
 |.FunctionDef _ _ _ _ _ _ sc _ _ _=>sc
 |_=>{kind:=.function,names:=[],isGenerator:=false,isCoroutine:=false}
noncomputable def posOf(s:Stmt):Pos:=match s with
 |.FunctionDef _ _ _ _ _ _ _ _ _ p=>p
 |_=>⟨0,0,0,0⟩
noncomputable def aE(x:Str)(st:Stmt):DefRec:=⟨x,args st,body st,scope st,posOf st⟩
noncomputable def WG:List Str:=["len","all","any","tuple","list","sorted","repr","max","min","sum","int","isinstance","divmod","str","bool","dict","set","range","enumerate","zip"]
noncomputable def oI:List Value→Option (List Int)
 |[]=>some []
 |.int i _::r=>(oI r).map (i::·)
 |_=>none
noncomputable def nsH(h:Heap)(x:Str):Option (Option Value):=match h.get? mainGlobals with
 |some o=>PySem.W.nsIn [(mainGlobals,o)] mainGlobals x
 |none=>none
noncomputable def YS(fd:FuncData):FuncData:={fd with kwdefaults:=.none,doc:=.none,pyModule:=.none,annotations:=none,code:=.none,closureTuple:=.none}
noncomputable def iR(h:Heap)(cd:Value)(x:Str):Bool:=match cd with
 |.ref c=>(match h.get? c with
  |some o=>PySem.W.codeIn [(c,o)] (.ref c) x
  |none=>false)
 |_=>false
noncomputable def dA(h:Heap)(x:Str):Option FuncData:=match nsH h x with
 |some (some (.ref f))=>(match h.get? f with
  |some ⟨_,_,.func fd,_⟩=>if iR h fd.code x then some (YS fd) else none
  |_=>none)
 |_=>none
noncomputable def bE(p:Str × Stmt):Option FuncData:=some (PySem.W.fnOf p.1 p.1 (args p.2) (body p.2) (scope p.2) .none .none .none .none none .none .none)
noncomputable def glB(h:Heap)(x:Str):G→Bool
 |.int i=>(match nsH h x with|some (some (.int j _))=>decide (i=j)|_=>false)
 |.str y=>(match nsH h x with|some (some (.str z _))=>decide (y=z)|_=>false)
 |.ctup ns=>(match nsH h x with
  |some (some (.ref a))=>(match h.get? a with
   |some ⟨.type n,_,.seq us _,_⟩=>decide (n="tuple")&&decide (us.toList.length≤1000)&&decide (oI us.toList=some ns)
   |_=>false)
  |_=>false)
noncomputable def blB(h:Heap)(x:Str):Bool:=match nsH h x with|some none=>true|_=>false
noncomputable def ZO(D:List (Str × Stmt))(gl:List (Str × G))(s:Shared):List (Option FuncData) × Bool:=(D.map fun p=>dA s.heap p.1,gl.all (fun p=>glB s.heap p.1 p.2)&&WG.all fun x=>blB s.heap x)
noncomputable def YJ(D:List (Str × Stmt)):List (Option FuncData) × Bool:=(D.map bE,true)
end Hd
end
section
set_option maxHeartbeats 0
open PySem PySem.W PyProof.Rows
namespace P25
noncomputable def top(i:Nat):Stmt:=PySem.Challenge.pw_evenhues_k25_reasons_looked_at.main.body.getD i (.Pass ⟨0,0,0,0⟩)
noncomputable def D:List (Str × Stmt):=(("is_whole":Str),top 10)::(("are_wholes":Str),top 11)::(("need_whole":Str),top 12)::(("need_size":Str),top 13)::(("need_length":Str),top 14)::(("most_step":Str),top 16)::(("rows_at":Str),top 17)::(("is_one_hue":Str),top 20)::(("are_sizes":Str),top 22)::(("need_sizes":Str),top 23)::(("is_draft":Str),top 26)::(("need_draft":Str),top 27)::(("is_blank":Str),top 28)::(("is_hue":Str),top 29)::(("with_hue":Str),top 30)::(("barring_rows":Str),top 31)::(("is_bar":Str),top 33)::(("are_rows_for":Str),top 34)::(("is_reason":Str),top 35)::(("are_reasons":Str),top 36)::(("_law_cell_at":Str),top 38)::(("_law_pen":Str),top 39)::(("_law_draw":Str),top 40)::(("_law_rows":Str),top 41)::(("_law_places":Str),top 42)::(("_law_sizes":Str),top 43)::(("_law_draft":Str),top 44)::(("_law_ended":Str),top 45)::(("_law_put":Str),top 46)::(("_law_bars":Str),top 47)::(("_law_open":Str),top 48)::(("_law_whole":Str),top 49)::(("_law_narrow":Str),top 50)::(("_law_made":Str),top 51)::(("_law_rows_are":Str),top 52)::(("_law_are":Str),top 53)::(("_law_bent":Str),top 54)::(("law":Str),top 55)::[]
noncomputable def gl:List (Str × Hd.G):=[("MOST_PLACES",.int 40),("LEAST_SIZE",.int 2),("MOST_SIZE",.int 8),("HUES",.ctup [0,1,2,3]),("BLANK",.int (-1))]
noncomputable def q:Program:={PySem.Challenge.pw_evenhues_k25_reasons_looked_at with main:={PySem.Challenge.pw_evenhues_k25_reasons_looked_at.main with body:=[1,2,3,4,5,7,8,9,10,11,12,13,14,16,17,18,20,22,23,25,26,27,28,29,30,31,33,34,35,36,38,39,40,41,42,43,44,45,46,47,48,49,50,51,52,53,54,55].map top}}
noncomputable def dd:DefRec:=Hd.aE "law" (top 55)
theorem left:PySem.W.LeftO PySem.Challenge.rw_evenhues_k25_reasons_looked_at.row.prog q [] (fun s=>PySem.W.recOk PySem.Challenge.rw_evenhues_k25_reasons_looked_at.row.records s) (Hd.ZO D gl) (fun _=>Hd.YJ D) 100000:=by
 intro w
 kernel_rfl
theorem Z3:PySem.Challenge.rw_evenhues_k25_reasons_looked_at.wellSaid=true:=by kernel_rfl
theorem aM:PySem.W.defOf q PySem.Challenge.rw_evenhues_k25_reasons_looked_at.row.name=some (dd,[]):=by kernel_rfl
theorem hp:PySem.Challenge.rw_evenhues_k25_reasons_looked_at.row.prog.theDef PySem.Challenge.rw_evenhues_k25_reasons_looked_at.row.name=some (dd.params,dd.body,dd.scope):=by kernel_rfl
theorem hk:PySem.W.kwWritten? dd.params.kwonlyargs dd.params.kw_defaults=some []:=by kernel_rfl
theorem hwr:(!PySem.Challenge.rw_evenhues_k25_reasons_looked_at.row.writes||PySem.Challenge.rw_evenhues_k25_reasons_looked_at.row.records.isEmpty)=true:=by kernel_rfl
theorem ok:(PySem.W.chainsOk q&&PySem.W.opensWell PySem.Challenge.rw_evenhues_k25_reasons_looked_at.row.prog&&(PySem.W.frees PySem.Challenge.rw_evenhues_k25_reasons_looked_at.row.toRowW&&PySem.Challenge.rw_evenhues_k25_reasons_looked_at.row.within.isEmpty))=true:=by kernel_rfl
theorem hdf:dd.params.defaults=[]:=by kernel_rfl
theorem bare:PySem.Challenge.rw_evenhues_k25_reasons_looked_at.row.prog.bare:=⟨rfl,rfl,rfl,rfl,rfl,by decide +kernel⟩
theorem hw:PySem.Challenge.rw_evenhues_k25_reasons_looked_at.row.toRowW.promised:=by w_witness2
end P25
end
section
namespace L2
open PySem PySem.Spec PyProof.Rows
noncomputable abbrev Key:=Sum Int Str
noncomputable def bP:Key→Value→Bool
 |.inl k,v=>Value.isInt k v
 |.inr x,v=>Value.isStrOf x v
noncomputable def WK(w:World):Key→Int
 |.inl k=>hashInt k
 |.inr x=>hashStr w x
theorem yE:∀{k:Key} {v:Value},bP k v=true→(∃i t,k=Sum.inl i∧v=Value.int i t)∨(∃x t,k=Sum.inr x∧v=Value.str x t)
 |.inl i,v,h=>by
  obtain⟨t,e⟩:=Value.isInt_shape (k:=i) (v:=v) h
  exact .inl ⟨i,t,rfl,e⟩
 |.inr x,v,h=>by
  obtain⟨t,e⟩:=Value.isStrOf_shape (x:=x) (v:=v) h
  exact .inr ⟨x,t,rfl,e⟩
theorem ZG(a b:Int):decide ((Sum.inl a:Key)=Sum.inl b)=(a == b):=by
 by_cases e:a=b
 . subst e;simp
 . have h:¬(Sum.inl a:Key)=Sum.inl b:=fun q=>e (Sum.inl.inj q)
   rw[decide_eq_false h]
   exact(beq_eq_false_iff_ne.mpr e).symm
theorem ZJ(a b:Str):decide ((Sum.inr a:Key)=Sum.inr b)=decide (a=b):=by
 by_cases e:a=b
 . subst e;simp
 . have h:¬(Sum.inr a:Key)=Sum.inr b:=fun q=>e (Sum.inr.inj q)
   rw[decide_eq_false h,decide_eq_false e]
theorem ZH(a:Int)(b:Str):decide ((Sum.inl a:Key)=Sum.inr b)=false:=decide_eq_false (fun q=>nomatch q)
theorem ZI(a:Str)(b:Int):decide ((Sum.inr a:Key)=Sum.inl b)=false:=decide_eq_false (fun q=>nomatch q)
noncomputable def pD(prog:Program)(w:World):PySem.KeyKind prog w Key where
 is:=bP
 hash:=WK w
 inj:=fun v a b ha hb=>by
  rcases yE ha with⟨i,t,rfl,rfl⟩|⟨x,t,rfl,rfl⟩
  . rcases yE hb with⟨j,u,rfl,e⟩|⟨y,u,rfl,e⟩
    . injection e with e1 _;rw[e1]
    . exact nomatch e
  . rcases yE hb with⟨j,u,rfl,e⟩|⟨y,u,rfl,e⟩
    . exact nomatch e
    . injection e with e1 _;rw[e1]
 byValue:=fun k v h=>by
  rcases yE h with⟨i,t,rfl,rfl⟩|⟨x,t,rfl,rfl⟩<;>rfl
 pyHash:=fun hv h=>by
  rcases yE hv with⟨i,t,rfl,rfl⟩|⟨x,t,rfl,rfl⟩
  . exact wpAny_pyHash_int h
  . exact wpAny_pyHash_str h
 eqBool:=fun hu hv h=>by
  rcases yE hu with⟨i,t,rfl,rfl⟩|⟨x,t,rfl,rfl⟩
  . rcases yE hv with⟨j,u,rfl,rfl⟩|⟨y,u,rfl,rfl⟩
    . rw[ZG]at h;exact wpAny_eqBool_int h
    . rw[ZH]at h;exact SeqAt.EqAt.int_str i t y u _ _ _ _ h
  . rcases yE hv with⟨j,u,rfl,rfl⟩|⟨y,u,rfl,rfl⟩
    . rw[ZI]at h;exact SeqAt.EqAt.str_int x t j u _ _ _ _ h
    . rw[ZJ]at h;exact wpAny_eqBool_str h
 «strs»:=fun k x t v h=>by
  rcases yE h with⟨i,u,rfl,e⟩|⟨y,u,rfl,e⟩
  . exact nomatch e
  . injection e with e1 _
    subst e1
    cases v<;>rfl
end L2
namespace L2
open PySem PySem.Spec PyProof.Rows
inductive V where
 |non|bl (b:Bool)|int (i:Int)|str (x:Str)|byt (b:Array UInt8)|flt (b:UInt64)|ref (a:Addr)|ty (n:String)
 deriving DecidableEq
noncomputable def RelV:V→Value→Prop
 |.non,u=>u=Value.none
 |.bl b,u=>u=Value.bool b
 |.int i,u=>∃t,u=Value.int i t
 |.str x,u=>∃t,u=Value.str x t
 |.byt b,u=>∃t,u=Value.bytes b t
 |.flt b,u=>∃t,u=Value.float b t
 |.ref a,u=>u=Value.ref a
 |.ty n,u=>u=Value.type n
noncomputable abbrev Vals:List V→List Value→Prop:=Paired RelV
theorem Vals.length{xs:List V}{us:List Value}(r:Vals xs us):xs.length=us.length:=Paired.length r
theorem Vals.get:∀{xs:List V} {us:List Value} {i:Nat} {x:V},Vals xs us→xs[i]?=some x→∃u,us[i]?=some u∧RelV x u
 |_,_,_,_,.nil,e=>by simp at e
 |_,_,0,_,.cons r _,e=>by simp at e;subst e;exact⟨_,rfl,r⟩
 |_,_,i+1,x,.cons _ t,e=>by
  obtain⟨u,h1,h2⟩:=Vals.get (i:=i) (x:=x) t (by simpa using e)
  exact⟨u,by simpa using h1,h2⟩
theorem Vals.set{x:V}{u:Value}(r:RelV x u):∀{xs:List V} {us:List Value} (i:Nat),Vals xs us→Vals (xs.set i x) (us.set i u)
 |_,_,_,.nil=>.nil
 |_,_,0,.cons _ t=>.cons r t
 |_,_,i+1,.cons q t=>.cons q (Vals.set r i t)
theorem Vals.append:∀{xs ys:List V} {us ws:List Value},Vals xs us→Vals ys ws→Vals (xs++ys) (us++ws)
 |_,_,_,_,.nil,s=>s
 |_,_,_,_,.cons r t,s=>.cons r (Vals.append t s)
theorem Vals.take:∀{xs:List V} {us:List Value} (n:Nat),Vals xs us→Vals (xs.take n) (us.take n)
 |_,_,0,_=>.nil
 |_,_,_+1,.nil=>.nil
 |_,_,n+1,.cons r t=>.cons r (Vals.take n t)
theorem Vals.drop:∀{xs:List V} {us:List Value} (n:Nat),Vals xs us→Vals (xs.drop n) (us.drop n)
 |_,_,0,r=>r
 |_,_,_+1,.nil=>.nil
 |_,_,n+1,.cons _ t=>Vals.drop n t
theorem Vals.none_of:∀{xs:List V} {us:List Value} {i:Nat},Vals xs us→xs[i]?=none→us[i]?=none:=fun{xs us i} r e=>by
 have h1:=r.length
 have h2:xs.length≤i:=List.getElem?_eq_none_iff.mp e
 exact List.getElem?_eq_none_iff.mpr (by omega)
noncomputable def bt:Option V→Option Value→Prop
 |some v,some u=>RelV v u
 |none,none=>True
 |_,_=>False
noncomputable def KV{κ:Type}:List (κ × V)→List (κ × Value)→Prop:=Paired fun(p:κ × V) (q:κ × Value)=>p.1=q.1∧RelV p.2 q.2
noncomputable def kV:Key→V
 |.inl i=>.int i
 |.inr x=>.str x
inductive HO where
 /-- a list -/
 |lst (xs:List V)
 /-- a tuple (never changes) -/
 |tup (xs:List V)
 /-- a dict whose keys are ints and texts;one whose keys are tuples of ints and texts (the empty one is both) -/
 |dK (kvs:List (Key × V))|dT (kvs:List (List Key × V))
 /-- a set of ints: its members,its size -/
 |set (S:Int→Bool) (n:Nat)
 /-- an instance of the class at C,its dict at dx,its attributes -/
 |ins (C dx:Addr) (fs:List (Str × V))
 /-- the dict of the instance at x -/
 |own (x:Addr)
 /-- the dict of an exception -/
 |xd (fs:List (Str × V))
 /-- a bound method,f of x -/
 |met (f x:Addr)
 /-- a range object lo,lo+1,.. below hi -/
 |rng (lo hi:Int)
 /-- a thing that is known to the object (the script;a dict while a loop walks it): read,never written while it is so -/
 |frz (o:Obj) (u:HO)
 /-- a code object's table -/
 |tbl (ps:Array Value)
 /-- any other thing,by what is true of its one object (a def of one's own: SetO a S n:=HO.ext fun h=>..) -/
 |ext (φ:Heap→Prop)
noncomputable abbrev Hp:=Addr→Option HO
def uu(h:Heap)(a:Addr)(items:Array Value):Prop:=∃o,h.get? a=some o∧o.cls=.type "tuple"∧∃n,o.data=.seq items n∧o.dict=none
theorem uu.tup{h:Heap}{a:Addr}{items:Array Value}(x:uu h a items):IsTup h a items:=let ⟨o,e,c,n,d,_⟩:=x;⟨o,e,c,n,d⟩
theorem uu.lt{h:Heap}{a:Addr}{items:Array Value}(x:uu h a items):a<h.objs.size:=let ⟨_,e,_⟩:=x;Heap.lt_size e
theorem uu.new(h:Heap)(items:Array Value):uu (h.push {cls:=.type "tuple",data:=.seq items}) h.objs.size items:=⟨_,Heap.get?_push_size _ rfl,rfl,_,rfl,rfl⟩
noncomputable def upd(H:Hp)(a:Addr)(o:HO):Hp:=fun b=>if b=a then some o else H b
theorem zt{H:Hp}{a:Addr}{o:HO}:upd H a o a=some o:=by unfold upd;rw[if_pos rfl]
theorem zS{H:Hp}{a b:Addr}{o:HO}(h:b≠a):upd H a o b=H b:=by unfold upd;rw[if_neg h]
theorem zV{H:Hp}{a b:Addr}{o:HO}(h:H a=some o)(h':H b=none):a≠b:=by
 intro e;subst e;rw[h]at h';cases h'
section
variable (P:Program)(w:World)
noncomputable def zy(H:Hp)(h:Heap)(a:Addr):HO→Prop
 |.lst xs=>xs.length≤sizeLine∧∃(its:List Value) (n:Nat),Vals xs its∧h.get? a=some {cls:=.type "list",data:=.seq its.toArray n}
 |.tup xs=>xs.length≤sizeLine∧∃its:List Value,Vals xs its∧uu h a its.toArray
 |.dK kvs=>kvs.length≤sizeLine∧(a == sysModules)=false∧∃vs,KV kvs vs∧h.DictOf (pD P w) a vs
 |.dT kvs=>kvs.length≤sizeLine∧(a == sysModules)=false∧∃xs:List (List Key × Addr × Value),
  Paired (fun(p:List Key × V) (q:List Key × Addr × Value)=>p.1=q.1∧H q.2.1=some (.tup (p.1.map kV))∧RelV p.2 q.2.2) kvs xs ∧
  ∃o es ep,h.get? a=some o∧o.ExactDict∧o.data=.dict es ep∧es.toList=xs.map (entryOfKey (tupleKind (pD P w)))∧(xs.map (·.1)).Nodup
 |.set S n=>h.SetOf (intKind P w) a S n
 |.ins C dx fs=>H dx=some (.own a)∧fs.length≤1000∧dx≠a∧h.get? a=some (PySem.W.instObj C dx) ∧
  ∃mA,h.Ns1 dx mA∧(∀f,bt (fs.lookup f) (mA f))∧PySem.Within mA (fs.map (·.1))
 |.own _=>∃o,h.get? a=some o
 |.xd fs=>∃mA,h.Ns1 a mA∧∀f,bt (fs.lookup f) (mA f)
 |.rng lo hi=>∃t u v,h.get? a=some {cls:=.type "range",data:=.fields #[.int lo t,.int hi u,.int 1 v]}
 |.frz o u=>h.get? a=some o∧zy H h a u
 |.tbl ps=>h.get? a=some {cls:=.none,data:=.fields ps}
 |.met f x=>h.get? a=some (PySem.W.methodObj (.ref f) (.ref x))
 |.ext φ=>φ h∧(∃o,h.get? a=some o)∧∀h1 h2:Heap,φ h1→(∀o,h1.get? a=some o→h2.get? a=some o)→φ h2
def HOk(H:Hp)(h:Heap):Prop:=∀a o,H a=some o→zy P w H h a o
end
section
variable {P:Program}{w:World}{H H':Hp}{h h':Heap}{a:Addr}{o:HO}
theorem zy.lt(x:zy P w H h a o):a<h.objs.size:=by
 cases o with
 |lst xs=>obtain⟨_,_,_,_,e⟩:=x;exact Heap.lt_size e
 |tup xs=>obtain⟨_,_,_,p⟩:=x;exact p.lt
 |dK kvs=>obtain⟨_,_,_,_,o,_,_,e,_⟩:=x;exact Heap.lt_size e
 |dT kvs=>obtain⟨_,_,_,_,o,_,_,e,_⟩:=x;exact Heap.lt_size e
 |set S n=>obtain⟨o,_,_,_,e,_⟩:=x;exact Heap.lt_size e
 |ins C dx fs=>obtain⟨_,_,_,e,_⟩:=x;exact Heap.lt_size e
 |own y=>obtain⟨_,e⟩:=x;exact Heap.lt_size e
 |xd fs=>obtain⟨_,⟨_,_,_,e,_⟩,_⟩:=x;exact Heap.lt_size e
 |rng lo hi=>obtain⟨_,_,_,e⟩:=x;exact Heap.lt_size e
 |frz ob u=>obtain⟨e,_⟩:=x;exact Heap.lt_size e
 |tbl ps=>exact Heap.lt_size (show h.get? a=some _ from x)
 |met f y=>exact Heap.lt_size (show h.get? a=some _ from x)
 |ext φ=>obtain⟨_,⟨_,e⟩,_⟩:=x;exact Heap.lt_size e
theorem Paired.Y0{α β:Type}{F G:α→β→Prop}:∀{l₁:List α} {l₂:List β},Paired F l₁ l₂→(∀a b,F a b→G a b)→Paired G l₁ l₂
 |_,_,.nil,_=>.nil
 |_,_,.cons r t,f=>.cons (f _ _ r) (Paired.Y0 t f)
theorem zy.mX(x:zy P w H h a o)(k:∀b u,(b=a∨H b=some (.own a))→h.get? b=some u→h'.get? b=some u)
 (ho:∀b,H b=some (.own a)→H' b=some (.own a)) (ht:∀b xs,H b=some (.tup xs)→H' b=some (.tup xs)):zy P w H' h' a o:=by
 induction o with
 |lst xs=>obtain⟨z,its,n,r,e⟩:=x;exact⟨z,its,n,r,k _ _ (.inl rfl) e⟩
 |tup xs=>obtain⟨z,its,r,ob,e,c⟩:=x;exact⟨z,its,r,ob,k _ _ (.inl rfl) e,c⟩
 |dK kvs=>obtain⟨z,y,vs,r,ob,es,ep,e,c⟩:=x;exact⟨z,y,vs,r,ob,es,ep,k _ _ (.inl rfl) e,c⟩
 |dT kvs=>
  obtain⟨z,y,xs,r,ob,es,ep,e,c⟩:=x
  exact⟨z,y,xs,Paired.Y0 r fun p q z=>⟨z.1,ht _ _ z.2.1,z.2.2⟩,ob,es,ep,k _ _ (.inl rfl) e,c⟩
 |set S n=>obtain⟨ob,es,ep,t,e,c⟩:=x;exact⟨ob,es,ep,t,k _ _ (.inl rfl) e,c⟩
 |ins C dx fs=>
  obtain⟨d,z,ne,e,mA,⟨od,es,ep,e2,c⟩,r⟩:=x
  exact⟨ho _ d,z,ne,k _ _ (.inl rfl) e,mA,⟨od,es,ep,k _ _ (.inr d) e2,c⟩,r⟩
 |own y=>obtain⟨ob,e⟩:=x;exact⟨ob,k _ _ (.inl rfl) e⟩
 |xd fs=>obtain⟨mA,⟨od,es,ep,e,c⟩,r⟩:=x;exact⟨mA,⟨od,es,ep,k _ _ (.inl rfl) e,c⟩,r⟩
 |rng lo hi=>obtain⟨t,u,v,e⟩:=x;exact⟨t,u,v,k _ _ (.inl rfl) e⟩
 |frz ob u ih=>obtain⟨e,q⟩:=x;exact⟨k _ _ (.inl rfl) e,ih q⟩
 |tbl ps=>
  have e:h.get? a=some {cls:=.none,data:=.fields ps}:=x
  show h'.get? a=some {cls:=.none,data:=.fields ps}
  exact k a _ (.inl rfl) e
 |met f y=>
  have e:h.get? a=some (PySem.W.methodObj (.ref f) (.ref y)):=x
  show h'.get? a=some (PySem.W.methodObj (.ref f) (.ref y))
  exact k a _ (.inl rfl) e
 |ext φ=>obtain⟨p,⟨o,e⟩,st⟩:=x;exact⟨st _ _ p fun o q=>k _ _ (.inl rfl) q,⟨o,k _ _ (.inl rfl) e⟩,st⟩
theorem HOk.lt(x:HOk P w H h)(e:H a=some o):a<h.objs.size:=(x a o e).lt
theorem HOk.fresh(x:HOk P w H h)(e:h.objs.size≤a):H a=none:=by
 cases q:H a with
 |none=>rfl
 |some u=>exact absurd (Nat.lt_of_lt_of_le (x.lt q) e) (Nat.lt_irrefl _)
theorem HOk.kept(x:HOk P w H h)(k:∀b u,h.get? b=some u→h'.get? b=some u):HOk P w H h':=fun a o e=>
 (x a o e).mX (fun b u _ q=>k b u q) (fun _ q=>q) fun _ _ q=>q
theorem HOk.laid(x:HOk P w H h)(k:∀b u,h.get? b=some u→h'.get? b=some u)(hp:h.objs.size≤a)(new:zy P w (upd H a o) h' a o):HOk P w (upd H a o) h':=fun b u e=>by
 have hn:=x.fresh hp
 by_cases hb:b=a
 . subst hb;rw[zt]at e;cases e;exact new
 . rw[zS hb]at e
   exact(x b u e).mX (fun c v _ q=>k c v q) (fun c q=>by rw[zS (zV q hn)];exact q) fun c xs q=>by rw[zS (zV q hn)];exact q
end
def Rd(H:Hp)(a:Addr)(u:HO):Prop:=H a=some u∨∃o,H a=some (.frz o u)
theorem Rd.ok{P:Program}{w:World}{H:Hp}{h:Heap}{a:Addr}{u:HO}(r:Rd H a u)(x:HOk P w H h):zy P w H h a u:=by
 rcases r with r|⟨o,r⟩
 . exact x a u r
 . obtain⟨_,q⟩:=x a _ r
   exact q
noncomputable def Mut:Option HO→Prop
 |some (.lst _)=>True
 |some (.dK _)=>True
 |some (.dT _)=>True
 |some (.set _ _)=>True
 |some (.ins _ _ _)=>True
 |some (.ext _)=>True
 |_=>False
section
variable {P:Program}{w:World}{H:Hp}{h h':Heap}{x e:Addr}{o':HO}
theorem HOk.write(ok:HOk P w H h)(mu:Mut (H x))(he:e=x∨H e=some (.own x))(k:∀b u,b≠e→h.get? b=some u→h'.get? b=some u)(heo:∃u,h'.get? e=some u)
 (new:zy P w (upd H x o') h' x o'):HOk P w (upd H x o') h':=fun b u q=>by
 have nown:∀c y,H c=some (.own y)→c≠x:=fun c y r z=>by subst z;rw[r]at mu;exact mu
 have ntup:∀c xs,H c=some (.tup xs)→c≠x:=fun c xs r z=>by subst z;rw[r]at mu;exact mu
 by_cases hb:b=x
 . subst hb;rw[zt]at q;cases q;exact new
 . rw[zS hb]at q
   by_cases hbe:b=e
   . have q':H b=some (.own x):=by
      rcases he with z|z
      . exact absurd (hbe.trans z) hb
      . rw[hbe];exact z
     rw[q]at q';cases q'
     obtain⟨v,hv⟩:=heo
     exact⟨v,by rw[hbe];exact hv⟩
   . refine(ok b u q).mX (fun c v hc r=>k c v ?_ r) (fun c r=>by rw[zS (nown c b r)];exact r) fun c xs r=>by rw[zS (ntup c xs r)];exact r
     rcases hc with rfl|hc
     . exact hbe
     . rintro rfl
       rcases he with z|z
       . exact nown c b hc z
       . rw[hc]at z;cases z;exact hb rfl
end
structure Un(fs ex:List Addr)(H H':Hp)(h h':Heap):Prop where
 keep:∀b o,h.get? b=some o→H b=none→b ∉ fs→b ∉ ex→h'.get? b=some o
 slot:∀b o,h.get? b=some o→H b=none→b∈fs→b ∉ ex→∃sl,h'.get? b=some {o with slots:=sl}
 free:∀b o,h.get? b=some o→H b=none→b ∉ ex→H' b=none
 there:∀b o,h.get? b=some o→b ∉ ex→∃o',h'.get? b=some o'
 um:∀b xs,H b=some (.tup xs)→H' b=some (.tup xs)
 frzs:∀b o u,H b=some (.frz o u)→H' b=some (.frz o u)
 tbls:∀b ps,H b=some (.tbl ps)→∃more,H' b=some (.tbl (ps++more))
section
variable {fs fs' ex ex':List Addr}{H H1 H2:Hp}{h h1 h2 h':Heap}{a x e:Addr}{o:HO}
theorem Un.any(u:Un fs ex H H1 h h1){b:Addr}{ob:Obj}(q:h.get? b=some ob)(n:H b=none)(hx:b ∉ ex):∃sl,h1.get? b=some {ob with slots:=sl}:=by
 by_cases hb:b∈fs
 . exact u.slot b ob q n hb hx
 . exact⟨ob.slots,u.keep b ob q n hb hx⟩
theorem Un.kept(k:∀b u,h.get? b=some u→h'.get? b=some u):Un fs ex H H h h':=
 ⟨fun b ob q _ _ _=>k b ob q,fun b ob q _ _ _=>⟨ob.slots,k b ob q⟩,fun _ _ _ n _=>n,fun b ob q _=>⟨ob,k b ob q⟩,fun _ _ q=>q,fun _ _ _ q=>q,fun _ ps q=>⟨#[],by rw[q];simp⟩⟩
theorem Un.refl:Un fs ex H H h h:=Un.kept fun _ _ q=>q
theorem Un.laid(k:∀b u,h.get? b=some u→h'.get? b=some u)(hp:h.objs.size≤a)(hn:H a=none):Un fs ex H (upd H a o) h h' where
 keep:=fun b u q _ _ _=>k b u q
 slot:=fun b u q _ _ _=>⟨u.slots,k b u q⟩
 free:=fun b u q n _=>by rw[zS (Nat.ne_of_lt (Nat.lt_of_lt_of_le (Heap.lt_size q) hp))];exact n
 there:=fun b u q _=>⟨u,k b u q⟩
 um:=fun b xs q=>by rw[zS (zV q hn)];exact q
 frzs:=fun b u xs q=>by rw[zS (zV q hn)];exact q
 tbls:=fun b ps q=>⟨#[],by rw[zS (zV q hn),q];simp⟩
theorem Un.write(mu:Mut (H x))(he:e=x∨H e=some (.own x))(k:∀b u,b≠e→h.get? b=some u→h'.get? b=some u)(heo:∃u,h'.get? e=some u):Un fs ex H (upd H x o) h h':=by
 have hx:∀b,H b=none→b≠x:=fun b n z=>by subst z;rw[n]at mu;exact mu
 have hb:∀b,H b=none→b≠e:=fun b n z=>by
  subst z
  rcases he with r|r
  . exact hx b n r
  . rw[n]at r;cases r
 have hm:∀b u,H b=some u→¬Mut (some u)→b≠x:=fun b u q nm z=>by subst z;rw[q]at mu;exact nm mu
 refine⟨fun b u q n _ _=>k b u (hb b n) q,fun b u q n _ _=>⟨u.slots,k b u (hb b n) q⟩,fun b u q n _=>by rw[zS (hx b n)];exact n,fun b u q _=>?_,
  fun b xs q=>by rw[zS (hm b _ q fun z=>z)];exact q,fun b u xs q=>by rw[zS (hm b _ q fun z=>z)];exact q,fun b ps q=>⟨#[],by rw[zS (hm b _ q fun z=>z),q];simp⟩⟩
 by_cases hbe:b=e
 . subst hbe;exact heo
 . exact⟨u,k b u hbe q⟩
end
noncomputable def trk(h:Heap)(H:Hp):List Addr:=(List.range h.objs.size).filter fun a=>(H a).isSome
noncomputable def q0(h:Heap)(H:Hp):Heap:=PySem.W.hideAll h (trk h H)
theorem kc(h:Heap)(H:Hp):(q0 h H).objs.size=h.objs.size:=PySem.W.hideAll_size _ _
theorem ik{h:Heap}{H:Hp}{b:Addr}{o:Obj}(e:h.get? b=some o)(n:H b=none):(q0 h H).get? b=some o:=
 PySem.W.hideAll_get _ e fun hm=>by
  have q:(H b).isSome=true:=(List.mem_filter.mp hm).2
  rw[n]at q;simp at q
theorem dB{h:Heap}{H:Hp}{b:Addr}{o:Obj}(e:(q0 h H).get? b=some o):h.get? b=some o∧H b=none:=by
 have e':h.get? b=some o:=PySem.W.of_hideAll (trk h H) e
 refine⟨e',?_⟩
 cases q:H b with
 |none=>rfl
 |some x=>
  have hm:b∈trk h H:=List.mem_filter.mpr ⟨List.mem_range.mpr (Heap.lt_size e'),by simp[q]⟩
  have z:(q0 h H).get? b=none:=PySem.W.hideAll_none (trk h H) hm
  rw[z]at e;cases e
noncomputable def uJ(g h:Heap)(L:Addr):List (Addr × Obj):=(List.range h.objs.size).filterMap fun a=>if a=L∨(g.get? a).isSome=true then none else (h.get? a).map fun o=>(a,o)
theorem oP{g h:Heap}{L a:Addr}{o:Obj}(h1:a≠L)(h2:g.get? a=none)(h3:h.get? a=some o):(a,o)∈uJ g h L:=
 List.mem_filterMap.mpr ⟨a,List.mem_range.mpr (Heap.lt_size h3),by simp[h1,h2,h3]⟩
theorem sy{g h:Heap}{L:Addr}{p:Addr × Obj}(hp:p∈uJ g h L):p.1≠L∧g.get? p.1=none∧h.get? p.1=some p.2:=by
 obtain⟨b,_,e⟩:=List.mem_filterMap.mp hp
 split at e
 . cases e
 . rename_i hn
   cases q:h.get? b with
   |none=>rw[q]at e;simp at e
   |some u=>
    rw[q]at e
    simp only[Option.map_some,Option.some.injEq]at e
    subst e
    refine⟨fun z=>hn (.inl z),?_,q⟩
    show g.get? b=none
    cases r:g.get? b with
    |none=>rfl
    |some v=>exact(hn (.inr (by simp[r]))).elim
theorem gQ{g h:Heap}{L:Addr}:News g L h (uJ g h L):=fun p hp=>let ⟨a,b,c⟩:=sy hp;⟨c,a,b⟩
end L2
namespace L2
open PySem PySem.Spec PyProof.Rows
structure Mod(K:PySem.W.Frag)(mg:Str→Option Value)(base:Heap):Prop where
 kin:K.In base
 glob:base.Ns mainGlobals mg
 blt:∃mb,base.Ns builtinsNs mb∧∀x:Str,x≠"__name__"→mb x=bootBuiltins x
 nolimit:base.NoLimit
structure Cx where
 prog:Program
 w:World
 K:PySem.W.Frag
 mg:Str→Option Value
 base:Heap
 A:Around
 N:List Str
 s₀:Shared
 H₀:Hp
 env:Env
 outer:List Env
 stack:List Env
 ex:List Addr
 fn:Str→Bool
 calm:Bool
 pn:List (Addr × Obj)
 xe:Value→Shared→Prop
noncomputable def frs(l:List Env):List Addr:=l.filterMap (·.frame)
noncomputable abbrev Cx.fs(X:Cx):List Addr:=frs X.outer
def Vis(sc:Scope)(x:Str):Prop:=sc.names.lookup x=some .local∨sc.names.lookup x=some .cell∨sc.names.lookup x=some .free
def Loc(sc:Scope)(x:Str):Prop:=sc.names.lookup x=some .local∨sc.names.lookup x=some .cell
def Look(env:Env)(h:Heap)(m:Str→Option Value)(x:Str)(u:Value):Prop:=
 (env.kindOf x=some .local∧m x=some u)∨((env.kindOf x=some .cell∨env.kindOf x=some .free)∧∃c,env.cells.lookup x=some c∧h.IsCell c (some u))
structure Cx.Ok(X:Cx):Prop where
 mod:Mod X.K X.mg X.base
 kind:X.env.scope.kind=.function
 glob:X.env.globals=mainGlobals
 blt:X.env.builtins=builtinsNs
 above:X.s₀.heap.objs.size≤X.env.locals
 inj:∀x y c,X.env.cells.lookup x=some c→X.env.cells.lookup y=some c→x=y
 has:∀x,(X.env.kindOf x=some .cell∨X.env.kindOf x=some .free)→∃c,X.env.cells.lookup x=some c
 cab:∀x c,X.fn x=true→X.env.cells.lookup x=some c→X.s₀.heap.objs.size≤c
 hd:X.calm=true→X.A.handled=none
 frames:X.A.frames=some X.stack
 stk:X.stack=X.outer∨(X.stack=X.env::X.outer∧X.env.frame=some X.env.locals)
 exf:∀b∈X.ex,b≠X.env.locals∧∀x c,X.env.cells.lookup x=some c→c≠b
 bs:∀b o,X.base.get? b=some o→X.s₀.heap.get? b=some o∧X.H₀ b=none
 bsz:X.base.objs.size≤X.s₀.heap.objs.size
 noex:∀b o,X.base.get? b=some o→b ∉ X.ex
 exfs:∀b∈X.ex,b ∉ X.fs
 sT:X.s₀.heap.FunFrames X.base X.outer
 frf:∀b∈X.fs,X.H₀ b=none
structure Inv(X:Cx)(pins:List (Addr × Obj))(σ:List (Option V))(H:Hp)(s:Shared):Prop where
 ok:X.Ok
 os:s.os=X.s₀.os
 bare:AllBare s.gens
 base:Un X.fs X.ex X.H₀ H X.s₀.heap s.heap
 loc:∃m,s.heap.Ns X.env.locals m∧∀(i:Nat) (x:Str) (v:V),X.N[i]?=some x→σ[i]?=some (some v)→Vis X.env.scope x→∃u,RelV v u∧Look X.env s.heap m x u
 cell:∀x c,X.env.cells.lookup x=some c→∃v,s.heap.IsCell c v
 free:H X.env.locals=none
 freeC:∀x c,X.env.cells.lookup x=some c→H c=none
 pin:∀p∈X.pn++pins,s.heap.get? p.1=some p.2∧H p.1=none∧p.1≠X.env.locals∧p.1 ∉ X.fs∧∀v,p.2.data≠.cell v
 hok:HOk X.prog X.w H s.heap
 len:σ.length=X.N.length
section
variable {X:Cx}{pins:List (Addr × Obj)}{σ:List (Option V)}{H H':Hp}{s:Shared}{h':Heap}
theorem Cx.Ok.WL(ok:X.Ok){b:Addr}{o:Obj}(e:X.base.get? b=some o):b ∉ X.fs:=fun hb=>by
 have:=(ok.sT.mem hb).1
 rw[e]at this;cases this
theorem Inv.bs(I:Inv X pins σ H s):∀b o,X.base.get? b=some o→s.heap.get? b=some o∧H b=none:=fun b o e=>
 ⟨I.base.keep b o (I.ok.bs b o e).1 (I.ok.bs b o e).2 (I.ok.WL e) (I.ok.noex b o e),I.base.free b o (I.ok.bs b o e).1 (I.ok.bs b o e).2 (I.ok.noex b o e)⟩
theorem Inv.bk(I:Inv X pins σ H s):∀b o,X.base.get? b=some o→s.heap.get? b=some o:=fun b o e=>(I.bs b o e).1
theorem Inv.mod(I:Inv X pins σ H s):Mod X.K X.mg X.base:=I.ok.mod
theorem Inv.kIn(I:Inv X pins σ H s):X.K.In s.heap:=I.ok.mod.kin.keeps I.bk
theorem Inv.lt(I:Inv X pins σ H s):X.env.locals<s.heap.objs.size:=let ⟨_,hn,_⟩:=I.loc;hn.lt
theorem Inv.sz(I:Inv X pins σ H s):X.s₀.heap.objs.size≤s.heap.objs.size:=Nat.le_trans I.ok.above (Nat.le_of_lt I.lt)
theorem Inv.WM(I:Inv X pins σ H s){a:Addr}(h:s.heap.objs.size≤a):a ∉ X.fs:=fun hb=>by
 obtain⟨_,o,ho,_⟩:=I.ok.sT.mem hb
 exact absurd (Nat.lt_of_lt_of_le (Heap.lt_size ho) (Nat.le_trans I.sz h)) (Nat.lt_irrefl _)
theorem Inv.cne(I:Inv X pins σ H s):∀x c,X.env.cells.lookup x=some c→c≠X.env.locals:=fun x c e z=>by
 obtain⟨v,o,ho,hd⟩:=I.cell x c e
 obtain⟨m,⟨o',es,ep,ho',hd',_⟩,_⟩:=I.loc
 rw[z,ho']at ho;cases ho;rw[hd']at hd;cases hd
theorem Inv.sT(I:Inv X pins σ H s):s.heap.FunFrames X.base X.outer:=by
 have all:∀(l:List Env),(∀b∈frs l,b∈X.fs)→X.s₀.heap.FunFrames X.base l→s.heap.FunFrames X.base l:=by
  intro l
  induction l with
  |nil=>intro _ _;trivial
  |cons env r ih=>
   intro hs hl
   obtain⟨hk,⟨L,o,hf,hn,ho,hd⟩,hr⟩:=hl
   have hL:L∈X.fs:=hs L (by unfold frs;rw[List.filterMap_cons,hf];exact List.mem_cons_self)
   obtain⟨sl,e⟩:=I.base.slot L o ho (I.ok.frf L hL) hL fun z=>I.ok.exfs L z hL
   exact⟨hk,⟨L,_,hf,hn,e,hd⟩,ih (fun b hb=>hs b (by unfold frs;rw[List.filterMap_cons,hf];exact List.mem_cons_of_mem _ hb)) hr⟩
 exact all X.outer (fun _ hb=>hb) I.ok.sT
theorem Inv.stack(I:Inv X pins σ H s):s.heap.FunFrames X.base X.stack:=by
 rcases I.ok.stk with e|⟨e,hf⟩
 . rw[e];exact I.sT
 . rw[e]
   obtain⟨m,hn,_⟩:=I.loc
   refine .cons (by rw[I.ok.kind];decide) hf hn ?_ I.sT
   exact Heap.get?_none_of_le (Nat.le_trans I.ok.bsz I.ok.above)
theorem Inv.mY(I:Inv X pins σ H s):∀b∈frs X.stack,b∈X.env.locals::X.fs:=fun b hb=>by
 rcases I.ok.stk with e|⟨e,hf⟩
 . rw[e]at hb;exact List.mem_cons_of_mem _ hb
 . rw[e]at hb
   unfold frs at hb
   rw[List.filterMap_cons,hf]at hb
   exact hb
theorem Inv.kC(I:Inv X pins σ H s):∀b∈frs X.stack,H b=none:=fun b hb=>by
 rcases List.mem_cons.mp (I.mY b hb) with e|hb
 . rw[e];exact I.free
 . obtain⟨_,o,ho,_⟩:=I.ok.sT.mem hb
   exact I.base.free b o ho (I.ok.frf b hb) fun z=>I.ok.exfs b z hb
theorem Inv.step{g':Array GenState}{t':Nat}{d':Drawn}{ch:List Addr}(I:Inv X pins σ H s)
 (hch:∀b∈ch,(b∈X.ex∨X.s₀.heap.objs.size≤b)∧b≠X.env.locals∧(∀x c,X.env.cells.lookup x=some c→c≠b)∧∀p∈X.pn++pins,p.1≠b)
 (keep:∀b o,b≠X.env.locals→b ∉ X.fs→b ∉ ch→s.heap.get? b=some o→H b=none→h'.get? b=some o)
 (slot:∀b o,b≠X.env.locals→b∈X.fs→b ∉ ch→s.heap.get? b=some o→H b=none→∃sl,h'.get? b=some {o with slots:=sl}) (free:∀b o,b ∉ ch→s.heap.get? b=some o→H b=none→H' b=none)
 (there:∀b o,b ∉ ch→s.heap.get? b=some o→∃o',h'.get? b=some o')
 (um:∀b xs,H b=some (.tup xs)→H' b=some (.tup xs)) (frzs:∀b o u,H b=some (.frz o u)→H' b=some (.frz o u)) (tbls:∀b ps,H b=some (.tbl ps)→∃more,H' b=some (.tbl (ps++more)))
 (ns:∀m,s.heap.Ns X.env.locals m→h'.Ns X.env.locals m) (hok:HOk X.prog X.w H' h') (hg:AllBare g') :
 Inv X pins σ H' {s with heap:=h',gens:=g',drawn:=d',toks:=t'}:=by
 have neL:∀b o,X.s₀.heap.get? b=some o→b≠X.env.locals:=fun b o e=>Nat.ne_of_lt (Nat.lt_of_lt_of_le (Heap.lt_size e) I.ok.above)
 have neC:∀b o,X.s₀.heap.get? b=some o→b ∉ X.ex→b ∉ ch:=fun b o e hx hb=>by
  rcases (hch b hb).1 with z|z
  . exact hx z
  . exact absurd (Nat.lt_of_lt_of_le (Heap.lt_size e) z) (Nat.lt_irrefl _)
 have cellK:∀x c,X.env.cells.lookup x=some c→∀v,s.heap.IsCell c v→h'.IsCell c v:=fun x c e v ⟨o,ho,hd⟩=>by
  have nch:c ∉ ch:=fun z=>(hch c z).2.2.1 x c e rfl
  by_cases hc:c∈X.fs
  . obtain⟨sl,q⟩:=slot c o (I.cne x c e) hc nch ho (I.freeC x c e)
    exact⟨_,q,hd⟩
  . exact⟨o,keep c o (I.cne x c e) hc nch ho (I.freeC x c e),hd⟩
 refine⟨I.ok,I.os,hg,⟨fun b o e n hb hx=>?_,fun b o e n hb hx=>?_,fun b o e n hx=>?_,fun b o e hx=>?_,fun b xs e=>um b xs (I.base.um b xs e),fun b o xs e=>frzs b o xs (I.base.frzs b o xs e),fun b ps e=>?_⟩,?_,fun x c e=>?_,?_,fun x c e=>?_,fun p hp=>?_,hok,I.len⟩
 . exact keep b o (neL b o e) hb (neC b o e hx) (I.base.keep b o e n hb hx) (I.base.free b o e n hx)
 . obtain⟨sl,e1⟩:=I.base.slot b o e n hb hx
   obtain⟨sl',e2⟩:=slot b _ (neL b o e) hb (neC b o e hx) e1 (I.base.free b o e n hx)
   exact⟨sl',e2⟩
 . obtain⟨o',e1⟩:=I.base.there b o e hx
   exact free b o' (neC b o e hx) e1 (I.base.free b o e n hx)
 . obtain⟨o',e1⟩:=I.base.there b o e hx
   exact there b o' (neC b o e hx) e1
 . obtain⟨m1,e1⟩:=I.base.tbls b ps e
   obtain⟨m2,e2⟩:=tbls b _ e1
   exact⟨m1++m2,by rw[e2,Array.append_assoc]⟩
 . obtain⟨m,hn,hl⟩:=I.loc
   refine⟨m,ns m hn,fun i x v e1 e2 e3=>?_⟩
   obtain⟨u,r,l⟩:=hl i x v e1 e2 e3
   refine⟨u,r,?_⟩
   rcases l with l|⟨k,c,e,z⟩
   . exact .inl l
   . exact .inr ⟨k,c,e,cellK x c e _ z⟩
 . obtain⟨v,z⟩:=I.cell x c e
   exact⟨v,cellK x c e v z⟩
 . obtain⟨m,⟨o,_,_,ho,_⟩,_⟩:=I.loc
   exact free _ o (fun z=>(hch _ z).2.1 rfl) ho I.free
 . obtain⟨v,o,ho,hd⟩:=I.cell x c e
   exact free c o (fun z=>(hch c z).2.2.1 x c e rfl) ho (I.freeC x c e)
 . obtain⟨e,n,ne,nf,d⟩:=I.pin p hp
   have nch:p.1 ∉ ch:=fun z=>(hch p.1 z).2.2.2 p hp rfl
   exact⟨keep p.1 p.2 ne nf nch e n,free p.1 p.2 nch e n,ne,nf,d⟩
theorem Inv.un{t':Nat}(I:Inv X pins σ H s)(u:Un X.fs [] H H' s.heap h')(hok:HOk X.prog X.w H' h'):Inv X pins σ H' {s with heap:=h',toks:=t'}:=by
 obtain⟨m,⟨o,es,ep,ho,r⟩,_⟩:=id I.loc
 obtain⟨sl,hL⟩:=u.any ho I.free (by simp)
 exact I.step (g':=s.gens) (d':=s.drawn) (ch:=[]) (fun _ z=>nomatch z) (fun b o _ hb _ e n=>u.keep b o e n hb (by simp)) (fun b o _ hb _ e n=>u.slot b o e n hb (by simp)) (fun b o _ e n=>u.free b o e n (by simp)) (fun b o _ e=>u.there b o e (by simp)) u.um u.frzs u.tbls (fun m' hm=>by
  obtain⟨o',es',ep',ho',r'⟩:=hm
  rw[ho]at ho';cases ho'
  exact⟨_,es',ep',hL,r'⟩) hok I.bare
theorem Inv.call{g':Array GenState}{t':Nat}{d':Drawn}{ch:List Addr}(I:Inv X pins σ H s)(u:Un (frs X.stack) ch H H' s.heap h')(hok:HOk X.prog X.w H' h')(hg:AllBare g')
 (hch:∀b∈ch,(b∈X.ex∨X.s₀.heap.objs.size≤b)∧b≠X.env.locals∧(∀x c,X.env.cells.lookup x=some c→c≠b)∧∀p∈X.pn++pins,p.1≠b) :
 Inv X pins σ H' {s with heap:=h',gens:=g',drawn:=d',toks:=t'}:=by
 obtain⟨m,⟨o,es,ep,ho,r⟩,_⟩:=id I.loc
 obtain⟨sl,hL⟩:=u.any ho I.free fun z=>(hch _ z).2.1 rfl
 exact I.step (ch:=ch) hch (fun b o hL hb hc e n=>u.keep b o e n (fun z=>(List.mem_cons.mp (I.mY b z)).elim hL hb) hc) (fun b o _ _ hc e n=>u.any e n hc) (fun b o hc e n=>u.free b o e n hc) (fun b o hc e=>u.there b o e hc) u.um u.frzs u.tbls (fun m' hm=>by
  obtain⟨o',es',ep',ho',r'⟩:=hm
  rw[ho]at ho';cases ho'
  exact⟨_,es',ep',hL,r'⟩) hok hg
theorem Inv.turned{t':Nat}{it:Addr}(I:Inv X pins σ H s)(k:∀b o,b≠it→s.heap.get? b=some o→h'.get? b=some o)(hn:H it=none)(hL:it≠X.env.locals)
 (h1:it∈X.ex∨X.s₀.heap.objs.size≤it) (h2:∀x c,X.env.cells.lookup x=some c→c≠it) (h3:∀p∈X.pn++pins,p.1≠it):Inv X pins σ H {s with heap:=h',toks:=t'}:=by
 have nit:∀b u,H b=some u→b≠it:=fun b u e z=>by rw[z,hn]at e;cases e
 refine I.step (g':=s.gens) (d':=s.drawn) (ch:=[it]) (fun b hb=>?_) (fun b o _ _ hc e _=>k b o (fun z=>hc (by simp[z])) e) (fun b o _ _ hc e _=>⟨o.slots,k b o (fun z=>hc (by simp[z])) e⟩) (fun _ _ _ _ n=>n)
  (fun b o hc e=>⟨o,k b o (fun z=>hc (by simp[z])) e⟩) (fun _ _ e=>e) (fun _ _ _ e=>e) (fun b ps e=>⟨#[],by rw[e];simp⟩) (fun m hm=>?_) (fun b u e=>?_) I.bare
 . have e:b=it:=by simpa using hb
   subst e
   exact⟨h1,hL,h2,h3⟩
 . obtain⟨o,es,ep,ho,r⟩:=hm
   exact⟨o,es,ep,k _ o (Ne.symm hL) ho,r⟩
 . refine(I.hok b u e).mX (fun c v hc q=>k c v ?_ q) (fun _ q=>q) fun _ _ q=>q
   rcases hc with z|z
   . rw[z];exact nit b u e
   . exact nit c _ z
theorem Inv.tok(I:Inv X pins σ H s)(t:Nat):Inv X pins σ H {s with toks:=t}:=I.un (h':=s.heap) (t':=t) Un.refl I.hok
theorem Inv.kept{t':Nat}(I:Inv X pins σ H s)(k:∀b u,s.heap.get? b=some u→h'.get? b=some u):Inv X pins σ H {s with heap:=h',toks:=t'}:=I.un (Un.kept k) (I.hok.kept k)
theorem Inv.laid{a:Addr}{o:HO}{t':Nat}(I:Inv X pins σ H s)(k:∀b u,s.heap.get? b=some u→h'.get? b=some u)(hp:s.heap.objs.size≤a)(new:zy X.prog X.w (upd H a o) h' a o) :
 Inv X pins σ (upd H a o) {s with heap:=h',toks:=t'}:=I.un (Un.laid k hp (I.hok.fresh hp)) (I.hok.laid k hp new)
theorem Inv.write{x e:Addr}{o:HO}{t':Nat}(I:Inv X pins σ H s)(mu:Mut (H x))(he:e=x∨H e=some (.own x))(k:∀b u,b≠e→s.heap.get? b=some u→h'.get? b=some u)(heo:∃u,h'.get? e=some u)
 (new:zy X.prog X.w (upd H x o) h' x o):Inv X pins σ (upd H x o) {s with heap:=h',toks:=t'}:=I.un (Un.write mu he k heo) (I.hok.write mu he k heo new)
theorem Inv.l5{pins':List (Addr × Obj)}(I:Inv X pins σ H s)(h:∀p∈pins',s.heap.get? p.1=some p.2∧H p.1=none∧p.1≠X.env.locals∧p.1 ∉ X.fs∧∀v,p.2.data≠.cell v):Inv X pins' σ H s:=
 ⟨I.ok,I.os,I.bare,I.base,I.loc,I.cell,I.free,I.freeC,fun p hp=>(List.mem_append.mp hp).elim (fun z=>I.pin p (List.mem_append_left _ z)) (h p),I.hok,I.len⟩
theorem oS{N:List Str}(hN:N.Nodup){i j:Nat}{x:Str}(a:N[i]?=some x)(b:N[j]?=some x):i=j:=by
 obtain⟨h1,e1⟩:=List.getElem?_eq_some_iff.mp a
 obtain⟨h2,e2⟩:=List.getElem?_eq_some_iff.mp b
 exact(List.getElem_inj hN).mp (e1.trans e2.symm)
theorem qW{M:Model}{A:Around}{E:Value→Shared→Prop}{i:Nat}{x:Str}{v:V}{u:Value}{Q:Unit→Shared→Prop}(I:Inv X pins σ H s)(hN:X.N.Nodup)(hi:X.N[i]?=some x)(hx:Loc X.env.scope x)(r:RelV v u)
 (h:∀s',Inv X pins (σ.set i (some v)) H s'→(∃a,Heap.SameBut a s.heap s'.heap∧(a=X.env.locals∨X.env.cells.lookup x=some a))→Q () s') (hf:X.fn x=true∨X.env.scope.names.lookup x=some .local:=by first|exact .inl rfl|exact .inr rfl|assumption):wpAny M A (storeName X.env x u) Q E s:=by
 obtain⟨m,hn,hl⟩:=id I.loc
 have hcls:(X.env.scope.kind == .class||(X.env.scope.kind == .module&&X.env.locals != X.env.globals))=false:=by rw[I.ok.kind];rfl
 have hiσ:i<σ.length:=by rw[I.len];exact(List.getElem?_eq_some_iff.mp hi).1
 have cne:=I.cne
 have tracked:∀{a:Addr} {h':Heap},(∃o,s.heap.get? a=some o∧H a=none)→Heap.SameBut a s.heap h'→HOk X.prog X.w H h':=fun{a h'} ha hs b ob e=>by
  obtain⟨_,_,hfree⟩:=ha
  refine(I.hok b ob e).mX (fun c w' hc q=>(hs.2 c ?_).trans q) (fun _ q=>q) fun _ _ q=>q
  rintro rfl
  rcases hc with rfl|hc
  . rw[hfree]at e;cases e
  . rw[hfree]at hc;cases hc
 rcases hx with hk|hk
 . refine wpAny_storeName_local hk hn (fun h' hn' hs=>?_) hcls
   obtain⟨oL,_,_,hoL,_⟩:=id hn
   refine h _ ⟨I.ok,I.os,I.bare,⟨fun b o e n hb hx=>?_,fun b o e n hb hx=>?_,I.base.free,fun b o e hx=>?_,I.base.um,I.base.frzs,I.base.tbls⟩,⟨_,hn',fun j y v' e1 e2 e3=>?_⟩,fun y c e=>?_,I.free,I.freeC,fun p hp=>?_,tracked ⟨oL,hoL,I.free⟩ hs,by simpa using I.len⟩ ⟨_,hs,.inl rfl⟩
   . exact(hs.2 b (Nat.ne_of_lt (Nat.lt_of_lt_of_le (Heap.lt_size e) I.ok.above))).trans (I.base.keep b o e n hb hx)
   . obtain⟨sl,e1⟩:=I.base.slot b o e n hb hx
     exact⟨sl,(hs.2 b (Nat.ne_of_lt (Nat.lt_of_lt_of_le (Heap.lt_size e) I.ok.above))).trans e1⟩
   . obtain⟨o',e1⟩:=I.base.there b o e hx
     exact⟨o',(hs.2 b (Nat.ne_of_lt (Nat.lt_of_lt_of_le (Heap.lt_size e) I.ok.above))).trans e1⟩
   . by_cases hj:j=i
     . subst hj
       rw[hi]at e1;cases e1
       rw[List.getElem?_set_self hiσ]at e2
       cases e2
       exact⟨u,r,.inl ⟨hk,by simp⟩⟩
     . rw[List.getElem?_set_ne (Ne.symm hj)]at e2
       obtain⟨u',r',q⟩:=hl j y v' e1 e2 e3
       refine⟨u',r',?_⟩
       rcases q with⟨k,e⟩|⟨k,c,e,z⟩
       . refine .inl ⟨k,?_⟩
         have:y≠x:=fun e=>hj (oS hN e1 (e▸hi))
         simp[this,e]
       . exact .inr ⟨k,c,e,z.sameBut hs (cne y c e)⟩
   . obtain⟨w',z⟩:=I.cell y c e
     exact⟨w',z.sameBut hs (cne y c e)⟩
   . obtain⟨e,n,ne,nf,d⟩:=I.pin p hp
     exact⟨(hs.2 p.1 ne).trans e,n,ne,nf,d⟩
 . have hfn:X.fn x=true:=by
    rcases hf with z|z
    . exact z
    . rw[z]at hk;cases hk
   obtain⟨c,hc⟩:=I.ok.has x (.inl hk)
   obtain⟨w',z⟩:=I.cell x c hc
   refine wpAny_storeName_cell I.ok.kind hk hc z (fun h' hc' hs=>?_)
   obtain⟨oc,hoc,hocd⟩:=id z
   refine h {s with heap:=h'} ⟨I.ok,I.os,I.bare,⟨fun b o e n hb hx=>?_,fun b o e n hb hx=>?_,I.base.free,fun b o e hx=>?_,I.base.um,I.base.frzs,I.base.tbls⟩,⟨m,hn.sameBut hs (Ne.symm (cne x c hc)),fun j y v' e1 e2 e3=>?_⟩,fun y c' e=>?_,I.free,I.freeC,fun p hp=>?_,tracked ⟨oc,hoc,I.freeC x c hc⟩ hs,by simpa using I.len⟩ ⟨c,hs,.inr hc⟩
   . exact(hs.2 b (Nat.ne_of_lt (Nat.lt_of_lt_of_le (Heap.lt_size e) (I.ok.cab x c hfn hc)))).trans (I.base.keep b o e n hb hx)
   . obtain⟨sl,e1⟩:=I.base.slot b o e n hb hx
     exact⟨sl,(hs.2 b (Nat.ne_of_lt (Nat.lt_of_lt_of_le (Heap.lt_size e) (I.ok.cab x c hfn hc)))).trans e1⟩
   . obtain⟨o',e1⟩:=I.base.there b o e hx
     exact⟨o',(hs.2 b (Nat.ne_of_lt (Nat.lt_of_lt_of_le (Heap.lt_size e) (I.ok.cab x c hfn hc)))).trans e1⟩
   . by_cases hj:j=i
     . subst hj
       rw[hi]at e1;cases e1
       rw[List.getElem?_set_self hiσ]at e2
       cases e2
       exact⟨u,r,.inr ⟨.inl hk,c,hc,hc'⟩⟩
     . rw[List.getElem?_set_ne (Ne.symm hj)]at e2
       obtain⟨u',r',q⟩:=hl j y v' e1 e2 e3
       refine⟨u',r',?_⟩
       rcases q with q|⟨k,c',e,z'⟩
       . exact .inl q
       . refine .inr ⟨k,c',e,z'.sameBut hs ?_⟩
         rintro rfl
         exact hj (oS hN e1 (I.ok.inj _ _ _ e hc▸hi))
   . by_cases hcc:c'=c
     . subst hcc;exact⟨_,hc'⟩
     . obtain⟨w2,z2⟩:=I.cell y c' e
       exact⟨w2,z2.sameBut hs hcc⟩
   . obtain⟨e,n,ne,nf,d⟩:=I.pin p hp
     refine⟨(hs.2 p.1 ?_).trans e,n,ne,nf,d⟩
     intro q
     rw[q,hoc]at e
     have q':oc=p.2:=Option.some.inj e
     exact d w' (by rw[←q'];exact hocd)
theorem xn{M:Model}{A:Around}{E:Value→Shared→Prop}{i:Nat}{x:Str}{v:V}{u:Value}{Q:Unit→Shared→Prop}(I:Inv X pins σ H s)(hN:X.N.Nodup)(hi:X.N[i]?=some x)(hx:Loc X.env.scope x)(r:RelV v u)
 (h:∀s',Inv X pins (σ.set i (some v)) H s'→Q () s') (hf:X.fn x=true∨X.env.scope.names.lookup x=some .local:=by first|exact .inl rfl|exact .inr rfl|assumption):wpAny M A (storeName X.env x u) Q E s:=
 qW I hN hi hx r (fun s' I' _=>h s' I') hf
theorem Inv.YV{s':Shared}{ch:List Addr}(I:Inv X pins σ H s)(ho:s'.os=s.os)(u:Un (frs X.stack) ch H H' s.heap s'.heap)(hok:HOk X.prog X.w H' s'.heap)(hg:AllBare s'.gens)
 (hch:∀b∈ch,(b∈X.ex∨X.s₀.heap.objs.size≤b)∧b≠X.env.locals∧(∀x c,X.env.cells.lookup x=some c→c≠b)∧∀p∈X.pn++pins,p.1≠b):Inv X pins σ H' s':=by
 obtain⟨h',g',d',t',o'⟩:=s'
 have e:o'=s.os:=ho
 subst e
 exact I.call (g':=g') (t':=t') (d':=d') u hok hg hch
end
noncomputable abbrev XK:=Value→Option Addr→Hp→Prop
noncomputable abbrev St:=List (Option V)
noncomputable abbrev VK:=V→Hp→Prop
noncomputable abbrev TE:=St→Hp→VK→Prop
noncomputable abbrev TT:=St→Hp→(Bool→Hp→Prop)→Prop
noncomputable abbrev TA:=St→Hp→(List V→Hp→Prop)→Prop
structure Ends where
 nx:St→Hp→Prop
 rt:VK
 bk:St→Hp→Prop:=fun _ _=>False
 ct:St→Hp→Prop:=fun _ _=>False
noncomputable abbrev TS:=Ends→St→Hp→Prop
def EP(X:Cx)(pins:List (Addr × Obj))(σ:St)(Q:VK)(u:Value)(s':Shared):Prop:=∃v H',Inv X pins σ H' s'∧RelV v u∧Q v H'
def TP(X:Cx)(pins:List (Addr × Obj))(σ:St)(Q:Bool→Hp→Prop)(b:Bool)(s':Shared):Prop:=∃H',Inv X pins σ H' s'∧Q b H'
def AP(X:Cx)(pins:List (Addr × Obj))(σ:St)(Q:List V→Hp→Prop)(us:List Value)(s':Shared):Prop:=∃vs H',Inv X pins σ H' s'∧Vals vs us∧Q vs H'
def SP(X:Cx)(pins:List (Addr × Obj))(D:Ends)(f:Flow)(s':Shared):Prop:=
 match f with
 |.next=>∃σ' H',Inv X pins σ' H' s'∧D.nx σ' H'
 |.brk=>∃σ' H',Inv X pins σ' H' s'∧D.bk σ' H'
 |.cont=>∃σ' H',Inv X pins σ' H' s'∧D.ct σ' H'
 |.ret u=>∃v σ' H',Inv X pins σ' H' s'∧RelV v u∧D.rt v H'
def PE(X:Cx)(e:Expr)(t:TE):Prop:=
 ∀(pins:List (Addr × Obj)) (s:Shared) (σ:St) (H:Hp) (Q:VK),Inv X pins σ H s→t σ H Q→wpAny (model X.prog X.w) X.A (eval e X.env) (EP X pins σ Q) X.xe s
def PT(X:Cx)(e:Expr)(t:TT):Prop:=
 ∀(pins:List (Addr × Obj)) (s:Shared) (σ:St) (H:Hp) (Q:Bool→Hp→Prop),Inv X pins σ H s→t σ H Q→wpAny (model X.prog X.w) X.A (isTrue e X.env (eval e X.env)) (TP X pins σ Q) X.xe s
def PW(X:Cx)(e:Expr)(t:TT):Prop:=
 ∀(whole:Sem Value) (pins:List (Addr × Obj)) (s:Shared) (σ:St) (H:Hp) (Q:Bool→Hp→Prop),Inv X pins σ H s→t σ H Q→wpAny (model X.prog X.w) X.A (isTrue e X.env whole) (TP X pins σ Q) X.xe s
theorem PW.pt{X:Cx}{e:Expr}{t:TT}(h:PW X e t):PT X e t:=h _
def PA(X:Cx)(es:List Expr)(t:TA):Prop:=
 ∀(pos:Pos) (pins:List (Addr × Obj)) (s:Shared) (σ:St) (H:Hp) (Q:List V→Hp→Prop),Inv X pins σ H s→t σ H Q→wpAny (model X.prog X.w) X.A (spliced (backTo pos (starEach es X.env))) (AP X pins σ Q) X.xe s
def PS(X:Cx)(st:Stmt)(t:TS):Prop:=
 ∀(pins:List (Addr × Obj)) (s:Shared) (σ:St) (H:Hp) (D:Ends),Inv X pins σ H s→t D σ H→wpAny (model X.prog X.w) X.A (exec st X.env) (SP X pins D) X.xe s
def PSs(X:Cx)(st:List Stmt)(t:TS):Prop:=
 ∀(pins:List (Addr × Obj)) (s:Shared) (σ:St) (H:Hp) (D:Ends),Inv X pins σ H s→t D σ H→wpAny (model X.prog X.w) X.A (execs st X.env) (SP X pins D) X.xe s
theorem thn{α:Type}{t:Sem α}{Q Q':α→Shared→Prop}{M:Model}{A:Around}{E:Value→Shared→Prop}{s:Shared}(h:wpAny M A t Q E s)(hQ:∀a s,Q a s→Q' a s):wpAny M A t Q' E s:=wpAny_mono h hQ fun _ _ x=>x
end L2
namespace L2
open PySem PySem.Spec PyProof.Rows
section
variable {X:Cx}
theorem bin{a b:Expr}{ta tb:TE}(ha:PE X a ta)(hb:PE X b tb){pins:List (Addr × Obj)}{s:Shared}{σ:St}{H:Hp}{R:V→V→Hp→Prop}(I:Inv X pins σ H s)(h:ta σ H fun x H1=>tb σ H1 fun y H2=>R x y H2)
 {α:Type} {Q:α→Shared→Prop} {f:Value→Value→Sem α}
 (hf:∀v u s2 x y H2,Inv X pins σ H2 s2→RelV x v→RelV y u→R x y H2→wpAny (model X.prog X.w) X.A (f v u) Q X.xe s2) :
 wpAny (model X.prog X.w) X.A (eval a X.env) (fun v s₁=>wpAny (model X.prog X.w) X.A (eval b X.env) (fun u s₂=>wpAny (model X.prog X.w) X.A (f v u) Q X.xe s₂) X.xe s₁) X.xe s:=by
 refine thn (ha pins s σ H _ I h) fun v s1 ⟨x,H1,I1,r1,q1⟩=>?_
 refine thn (hb pins s1 σ H1 _ I1 q1) fun u s2 ⟨y,H2,I2,r2,q2⟩=>?_
 exact hf v u s2 x y H2 I2 r1 r2 q2
noncomputable def Wk(i:Nat):TE:=fun σ H Q=>∃v,σ[i]?=some (some v)∧Q v H
noncomputable def tC(v:V):TE:=fun _ H Q=>Q v H
theorem Zt{i:Nat}{x:Str}{pos:Pos}(hN:X.N[i]?=some x)(hv:Vis X.env.scope x)(hd:(x == ("__debug__":Str))=false:=by decide)(hcd:(x == ("__classdict__":Str))=false:=by decide):PE X (.Name x pos) (Wk i):=by
 intro pins s σ H Q I h
 obtain⟨v,e,h⟩:=h
 obtain⟨m,hn,hl⟩:=I.loc
 obtain⟨u,r,l⟩:=hl i x v hN e hv
 have fin:EP X pins σ Q u s:=⟨v,H,I,r,h⟩
 rcases l with⟨hk,hm⟩|⟨hk,c,hc,hcell⟩
 . exact wpAny_Name (wpAny_loadName_local I.ok.kind hk hn hm fin) hd
 . rcases hk with hk|hk
   . exact wpAny_Name (wpAny_loadName_cell I.ok.kind hk hc hcell fin) hd
   . exact wpAny_Name (wpAny_loadName_free I.ok.kind hk hc hcell fin hcd) hd
theorem Zm{i j pos}:PE X (.Constant (.int i) j pos) (tC (.int i)):=fun _ _ _ H _ I h=>wpAny_Constant_int ⟨.int i,H,I.tok _,⟨_,rfl⟩,h⟩
theorem XS{b j pos}:PE X (.Constant (.bool b) j pos) (tC (.bl b)):=fun _ _ _ H _ I h=>Constant_bool ⟨.bl b,H,I,rfl,h⟩
theorem Zo{j pos}:PE X (.Constant .none j pos) (tC .non):=fun _ _ _ H _ I h=>Constant_none ⟨.non,H,I,rfl,h⟩
theorem Zr{x j pos}:PE X (.Constant (.str x) j pos) (tC (.str x)):=fun _ _ _ H _ I h=>Calls.Constant_str ⟨.str x,H,I.tok _,⟨_,rfl⟩,h⟩
def Gl(X:Cx)(x:Str):Prop:=X.env.kindOf x=some .globalImplicit
theorem pC{E:Value→Shared→Prop}{pins:List (Addr × Obj)}{s:Shared}{σ:St}{H:Hp}{x:Str}{u:Value}{pos:Pos}{Q:Value→Shared→Prop}(I:Inv X pins σ H s)(hg:Gl X x)(hm:X.mg x=some u)(h:Q u s)
 (hd:(x == ("__debug__":Str))=false:=by decide):wpAny (model X.prog X.w) X.A (eval (.Name x pos) X.env) Q E s:=
 Calls.Name_function_global I.ok.kind hg (Calls.loadGlobal_global (by rw[I.ok.glob];exact I.mod.glob.keeps I.bk) hm h) hd
theorem tB{E:Value→Shared→Prop}{pins:List (Addr × Obj)}{s:Shared}{σ:St}{H:Hp}{x:Str}{u:Value}{pos:Pos}{Q:Value→Shared→Prop}(I:Inv X pins σ H s)(hg:Gl X x)(hm:X.mg x=none)(hv:bootBuiltins x=some u)(h:Q u s)
 (hn:x≠"__name__":=by decide) (hd:(x == ("__debug__":Str))=false:=by decide):wpAny (model X.prog X.w) X.A (eval (.Name x pos) X.env) Q E s:=by
 obtain⟨mb,h1,h2⟩:=I.mod.blt
 exact Calls.Name_function_global I.ok.kind hg (Calls.loadGlobal_builtin (by rw[I.ok.glob];exact I.mod.glob.keeps I.bk) hm (by rw[I.ok.blt];exact h1.keeps I.bk) ((h2 x hn).trans hv) h) hd
theorem dg{x:Str}{v:V}{u:Value}{pos:Pos}(hg:Gl X x)(hm:X.mg x=some u)(r:RelV v u)(hd:(x == ("__debug__":Str))=false:=by decide):PE X (.Name x pos) (tC v):=
 fun _ _ _ H _ I h=>pC I hg hm ⟨v,H,I,r,h⟩ hd
theorem dX{x:Str}{v:V}{u:Value}{pos:Pos}(hg:Gl X x)(hm:X.mg x=none)(hv:bootBuiltins x=some u)(r:RelV v u)(hn:x≠"__name__":=by decide)(hd:(x == ("__debug__":Str))=false:=by decide):PE X (.Name x pos) (tC v):=
 fun _ _ _ H _ I h=>tB I hg hm hv ⟨v,H,I,r,h⟩ hn hd
variable {a b:Expr}{ta tb:TE}{pos:Pos}
variable {tA tB':TT}{rest:List Expr}
noncomputable def Wf(t:TT):TT:=fun σ H Q=>t σ H fun c H1=>Q (!c) H1
theorem Zz(ha:PT X a tA):PT X (.UnaryOp .Not a pos) (Wf tA):=by
 intro pins s σ H Q I h
 exact isTrue_not (ha pins s σ H (fun c H1=>Q (!c) H1) I h)
noncomputable def Xx(ta tb:TE):TE:=fun σ H Q=>ta σ H fun x H1=>∃c,x=.bl c∧if c=true then tb σ H1 Q else Q (.bl false) H1
noncomputable def X0(ta:TE):TE:=fun σ H Q=>ta σ H fun x H1=>∃c,x=.bl c∧Q (.bl (!c)) H1
theorem pL{op}{t:TE}(h:PE X a t):PE X (.BoolOp op [a] pos) t:=fun pins s σ H Q I hw=>BoolOp_one (h pins s σ H Q I hw)
theorem Zl(ha:PE X a ta)(hb:PE X (.BoolOp .And (b::rest) pos) tb):PE X (.BoolOp .And (a::b::rest) pos) (Xx ta tb):=by
 intro pins s σ H Q I h
 refine BoolOp_and (thn (ha pins s σ H _ I h) fun v s1 ⟨x,H1,I1,r1,q1⟩=>?_)
 obtain⟨c,rfl,q1⟩:=q1
 cases r1
 refine wpAny_truthy_bool ?_
 cases c with
 |true=>exact hb pins s1 σ H1 Q I1 q1
 |false=>exact⟨.bl false,H1,I1,rfl,q1⟩
theorem Zp(ha:PE X a ta):PE X (.UnaryOp .Not a pos) (X0 ta):=by
 intro pins s σ H Q I h
 refine UnaryOp_ (thn (ha pins s σ H _ I h) fun v s1 ⟨x,H1,I1,r1,q1⟩=>?_)
 obtain⟨c,rfl,q1⟩:=q1
 cases r1
 exact not_of (wpAny_truthy_bool ⟨.bl (!c),H1,I1,rfl,q1⟩)
noncomputable def tIf(t:TT)(ta tb:TE):TE:=fun σ H Q=>t σ H fun c H1=>if c=true then ta σ H1 Q else tb σ H1 Q
theorem gn{c:Expr}(hc:PT X c tA)(ha:PE X a ta)(hb:PE X b tb):PE X (.IfExp c a b pos) (tIf tA ta tb):=by
 intro pins s σ H Q I h
 refine wpAny_IfExp (thn (hc pins s σ H _ I h) fun d s1 ⟨H1,I1,q1⟩=>?_)
 cases d with
 |true=>exact ha pins s1 σ H1 Q I1 q1
 |false=>exact hb pins s1 σ H1 Q I1 q1
end
end L2
namespace L2
open PySem PySem.Spec PyProof.Rows
def SqL(K:PySem.W.Frag)(H:Hp)(a:Addr)(xs:List V):Prop:=
 Rd H a (.lst xs) ∨
  ∃(o:Obj) (its:Array Value) (n:Nat),K.lookup a=some o∧o.cls=.type "list"∧o.dict=none∧o.data=.seq its n∧its.size≤sizeLine∧Vals xs its.toList
def SqT(K:PySem.W.Frag)(H:Hp)(a:Addr)(xs:List V):Prop:=
 Rd H a (.tup xs) ∨
  ∃(o:Obj) (its:Array Value) (n:Nat),K.lookup a=some o∧o.cls=.type "tuple"∧o.data=.seq its n∧its.size≤sizeLine∧Vals xs its.toList
noncomputable def WE:Value→Option V
 |.none=>some .non
 |.bool b=>some (.bl b)
 |.int i _=>some (.int i)
 |.str x _=>some (.str x)
 |.bytes b _=>some (.byt b)
 |.float b _=>some (.flt b)
 |.ref a=>some (.ref a)
 |.type n=>some (.ty n)
 |_=>none
theorem RelV.abs{x:V}{u:Value}(r:RelV x u):WE u=some x:=by
 cases x with
 |non=>cases r;rfl
 |bl _=>cases r;rfl
 |int _=>obtain⟨t,rfl⟩:=r;rfl
 |str _=>obtain⟨t,rfl⟩:=r;rfl
 |byt _=>obtain⟨t,rfl⟩:=r;rfl
 |flt _=>obtain⟨t,rfl⟩:=r;rfl
 |ref _=>cases r;rfl
 |ty _=>cases r;rfl
theorem RelV.inj{x y:V}{u:Value}(r:RelV x u)(q:RelV y u):x=y:=Option.some.inj (r.abs.symm.trans q.abs)
theorem Vals.inj:∀{xs ys:List V} {us:List Value},Vals xs us→Vals ys us→xs=ys
 |_,_,_,.nil,.nil=>rfl
 |_,_,_,.cons r t,.cons r' t'=>by rw[r.inj r',Vals.inj t t']
section
variable {X:Cx}{pins:List (Addr × Obj)}{σ:St}{H:Hp}{s:Shared}{a:Addr}{xs ys:List V}
theorem SqL.of{K:PySem.W.Frag}(h:H a=some (.lst xs)):SqL K H a xs:=.inl (.inl h)
theorem SqT.of{K:PySem.W.Frag}(h:H a=some (.tup xs)):SqT K H a xs:=.inl (.inl h)
theorem Inv.list(I:Inv X pins σ H s)(h:SqL X.K H a xs):∃its:List Value,Vals xs its∧PlainL s.heap a its.toArray∧xs.length≤sizeLine:=by
 rcases h with h|⟨o,its,n,hk,hc,hd,hs,hz,r⟩
 . obtain⟨z,its,n,r,e⟩:=h.ok I.hok
   exact⟨its,r,⟨_,n,e,rfl,rfl,rfl⟩,z⟩
 . refine⟨its.toList,r,⟨o,n,I.kIn a o hk,hc,hd,by simpa using hs⟩,?_⟩
   have e:=r.length
   simp only[Array.length_toList]at e
   omega
theorem Inv.tuple(I:Inv X pins σ H s)(h:SqT X.K H a xs):∃its:List Value,Vals xs its∧IsTup s.heap a its.toArray∧xs.length≤sizeLine:=by
 rcases h with h|⟨o,its,n,hk,hc,hs,hz,r⟩
 . obtain⟨z,its,r,p⟩:=h.ok I.hok
   exact⟨its,r,p.tup,z⟩
 . refine⟨its.toList,r,⟨o,I.kIn a o hk,hc,n,by simpa using hs⟩,?_⟩
   have e:=r.length
   simp only[Array.length_toList]at e
   omega
theorem Inv.oN(I:Inv X pins σ H s)(h:SqL X.K H a xs)(h':SqL X.K H a ys):xs=ys:=by
 obtain⟨its,r,⟨o,n,e,_,_,d⟩,_⟩:=I.list h
 obtain⟨its',r',⟨o',n',e',_,_,d'⟩,_⟩:=I.list h'
 rw[e]at e';cases e'
 rw[d]at d'
 injection d' with d1 _
 have:its=its':=by simpa using congrArg Array.toList d1
 subst this
 exact r.inj r'
theorem Inv.qY(I:Inv X pins σ H s)(h:SqT X.K H a xs)(h':SqT X.K H a ys):xs=ys:=by
 obtain⟨its,r,⟨o,e,_,n,d⟩,_⟩:=I.tuple h
 obtain⟨its',r',⟨o',e',_,n',d'⟩,_⟩:=I.tuple h'
 rw[e]at e';cases e'
 rw[d]at d'
 injection d' with d1 _
 have:its=its':=by simpa using congrArg Array.toList d1
 subst this
 exact r.inj r'
end
noncomputable abbrev Cx.rj(X:Cx)(E:Value→Shared→Prop):Cx:={X with xe:=E}
noncomputable abbrev Cx.nox(X:Cx):Cx:=X.rj fun _ _=>False
theorem Cx.Ok.rj{X:Cx}(ok:X.Ok)(E:Value→Shared→Prop):(X.rj E).Ok:=
 ⟨ok.mod,ok.kind,ok.glob,ok.blt,ok.above,ok.inj,ok.has,ok.cab,ok.hd,ok.frames,ok.stk,ok.exf,ok.bs,ok.bsz,ok.noex,ok.exfs,ok.sT,ok.frf⟩
theorem Cx.Ok.vW{X:Cx}{E:Value→Shared→Prop}(ok:(X.rj E).Ok):X.Ok:=
 ⟨ok.mod,ok.kind,ok.glob,ok.blt,ok.above,ok.inj,ok.has,ok.cab,ok.hd,ok.frames,ok.stk,ok.exf,ok.bs,ok.bsz,ok.noex,ok.exfs,ok.sT,ok.frf⟩
section
variable {X:Cx}{pins:List (Addr × Obj)}{σ:St}{H:Hp}{s:Shared}{E:Value→Shared→Prop}
theorem Inv.rj(I:Inv X pins σ H s)(E:Value→Shared→Prop):Inv (X.rj E) pins σ H s:=⟨I.ok.rj E,I.os,I.bare,I.base,I.loc,I.cell,I.free,I.freeC,I.pin,I.hok,I.len⟩
theorem Inv.vW(I:Inv (X.rj E) pins σ H s):Inv X pins σ H s:=⟨I.ok.vW,I.os,I.bare,I.base,I.loc,I.cell,I.free,I.freeC,I.pin,I.hok,I.len⟩
theorem SP.vW{D:Ends}{f:Flow}{s':Shared}(h:SP (X.rj E) pins D f s'):SP X pins D f s':=by
 cases f with
 |next=>obtain⟨σ',H',I,q⟩:=h;exact⟨σ',H',I.vW,q⟩
 |brk=>obtain⟨σ',H',I,q⟩:=h;exact⟨σ',H',I.vW,q⟩
 |cont=>obtain⟨σ',H',I,q⟩:=h;exact⟨σ',H',I.vW,q⟩
 |ret u=>obtain⟨v,σ',H',I,r,q⟩:=h;exact⟨v,σ',H',I.vW,r,q⟩
theorem PSs.nox{st:List Stmt}{t:TS}(h:PSs X.nox st t):PSs X st t:=fun pins s σ H D I hw=>
 wpAny_mono (h pins s σ H D (I.rj _) hw) (fun _ _ q=>q.vW) fun _ _ z=>False.elim z
end
section
variable {X:Cx}{st:Stmt}{rest:List Stmt}{t u:TS}{e:Expr}{te:TE}{pos:Pos}
noncomputable def Xz:TS:=fun D σ H=>D.nx σ H
noncomputable def Wi(t u:TS):TS:=fun D σ H=>t {D with nx:=u D} σ H
theorem d6:PSs X [] Xz:=fun _ _ σ H _ I h=>wpAny_execs_nil ⟨σ,H,I,h⟩
theorem g9(h1:PS X st t)(h2:PSs X rest u):PSs X (st::rest) (Wi t u):=by
 intro pins s σ H D I h
 refine wpAny_execs_cons (thn (h1 pins s σ H {D with nx:=u D} I h) fun f s1 q=>?_)
 cases f with
 |next=>
  obtain⟨σ',H',I',q⟩:=q
  exact h2 pins s1 σ' H' D I' q
 |ret v=>exact q
 |brk=>exact q
 |cont=>exact q
theorem Inv.quiet{pins:List (Addr × Obj)}{σ:St}{H:Hp}{s:Shared}(I:Inv X pins σ H s):interactive X.env=false:=by simp[interactive,I.ok.kind]
noncomputable def Xy(te:TE):TS:=fun D σ H=>te σ H fun _ H1=>D.nx σ H1
theorem d4(he:PE X e te)(hs:swapsWith e none pos.line X.env=pure false:=by rfl):PS X (.Expr e pos) (Xy te):=by
 intro pins s σ H D I h
 exact wpAny_Expr_any (thn (he pins s σ H _ I h) fun v s1 ⟨x,H1,I1,r1,q1⟩=>⟨σ,H1,I1,q1⟩) I.quiet hs
noncomputable def Wh(te:TE):TS:=fun D σ H=>te σ H D.rt
theorem Zy(he:PE X e te):PS X (.Return (some e) pos) (Wh te):=by
 intro pins s σ H D I h
 exact wpAny_Return_some (thn (he pins s σ H _ I h) fun v s1 ⟨x,H1,I1,r1,q1⟩=>⟨x,σ,H1,I1,r1,q1⟩)
noncomputable def Wd(c:TT)(t u:TS):TS:=fun D σ H=>c σ H fun b H1=>if b=true then t D σ H1 else u D σ H1
theorem Xd{c:Expr}{a b:List Stmt}{tc:TT}(hc:PT X c tc)(ha:PSs X a t)(hb:PSs X b u):PS X (.If c a b pos) (Wd tc t u):=by
 intro pins s σ H D I h
 refine wpAny_If (thn (hc pins s σ H _ I h) fun d s1 ⟨H1,I1,q1⟩=>?_)
 cases d with
 |true=>exact ha pins s1 σ H1 D I1 q1
 |false=>exact hb pins s1 σ H1 D I1 q1
end
noncomputable abbrev TG:=V→St→Hp→(St→Hp→Prop)→Prop
noncomputable abbrev TGs:=List V→St→Hp→(St→Hp→Prop)→Prop
def PG(X:Cx)(target:Expr)(t:TG):Prop:=
 ∀(pins:List (Addr × Obj)) (s:Shared) (σ:St) (H:Hp) (v:V) (u:Value) (Q:St→Hp→Prop),Inv X pins σ H s→RelV v u→t v σ H Q →
  wpAny (model X.prog X.w) X.A (assign target X.env u) (fun _ s'=>∃σ' H',Inv X pins σ' H' s'∧Q σ' H') X.xe s
def PGs(X:Cx)(ts:List Expr)(t:TGs):Prop:=
 ∀(pins:List (Addr × Obj)) (s:Shared) (σ:St) (H:Hp) (vs:List V) (us:List Value) (Q:St→Hp→Prop),Inv X pins σ H s→Vals vs us→t vs σ H Q →
  wpAny (model X.prog X.w) X.A (assignInOrder ((assignEach ts X.env).map (·.2)) us) (fun _ s'=>∃σ' H',Inv X pins σ' H' s'∧Q σ' H') X.xe s
noncomputable abbrev bw:=V→V→V→Hp→(Hp→Prop)→Prop
def YO(X:Cx)(t:bw):Prop:=
 ∀(pins:List (Addr × Obj)) (s:Shared) (σ:St) (H:Hp) (o i v:V) (ov iv u:Value) (Q:Hp→Prop),Inv X pins σ H s→RelV o ov→RelV i iv→RelV v u→t o i v H Q →
  wpAny (model X.prog X.w) X.A (setItem ov iv u) (fun _ s'=>∃H',Inv X pins σ H' s'∧Q H') X.xe s
noncomputable abbrev TIp:=V→V→Hp→VK→Prop
def PIp(X:Cx)(op:Operator)(t:TIp):Prop:=
 ∀(pins:List (Addr × Obj)) (s:Shared) (σ:St) (H:Hp) (x y:V) (v u:Value) (Q:VK),Inv X pins σ H s→RelV x v→RelV y u→t x y H Q →
  wpAny (model X.prog X.w) X.A (inplaceOp op v u) (EP X pins σ Q) X.xe s
section
variable {X:Cx}{pos:Pos}
noncomputable def vM(i:Nat):TG:=fun v σ H Q=>Q (σ.set i (some v)) H
theorem dj{i:Nat}{x:Str}(hN:X.N.Nodup)(hi:X.N[i]?=some x)(hx:Loc X.env.scope x)(hf:X.fn x=true∨X.env.scope.names.lookup x=some .local:=by first|exact .inl rfl|exact .inr rfl|assumption):PG X (.Name x pos) (vM i):=by
 intro pins s σ H v u Q I r h
 exact wpAny_assign_Name (xn I hN hi hx r (fun s' I'=>⟨_,H,I',h⟩) hf)
noncomputable def YX:TGs:=fun vs σ H Q=>vs=[]∧Q σ H
noncomputable def bK(t:TG)(u:TGs):TGs:=fun vs σ H Q=>∃v r,vs=v::r∧t v σ H fun σ' H'=>u r σ' H' Q
theorem dk:PGs X [] YX:=by
 intro pins s σ H vs us Q I r h
 obtain⟨e,h⟩:=h
 subst e
 cases r
 exact assignInOrder_nil ⟨σ,H,I,h⟩
theorem gq{e:Expr}{es:List Expr}{t:TG}{u:TGs}(h1:PG X e t)(h2:PGs X es u)
 (hs:(assignEach (e::es) X.env).map (·.2)=assign e X.env::(assignEach es X.env).map (·.2):=by rfl):PGs X (e::es) (bK t u):=by
 intro pins s σ H vs us Q I r h
 obtain⟨v,vr,e1,h⟩:=h
 subst e1
 cases r with
 |cons r rr=>
  rw[hs]
  refine assignInOrder_cons (thn (h1 pins s σ H _ _ _ I r h) fun _ s1 ⟨σ1,H1,I1,q1⟩=>?_)
  exact h2 pins s1 σ1 H1 _ _ Q I1 rr q1
noncomputable def YZ(K:PySem.W.Frag)(n:Nat)(t:TGs):TG:=fun v σ H Q=>∃a xs,v=.ref a∧SqT K H a xs∧xs.length=n∧t xs σ H Q
theorem uA{es:List Expr}{k:Nat}{t:TGs}{n:Nat}(hc:X.calm=true)(h:PGs X es t)
 (hn:(assignEach es X.env).length=n:=by rfl) (hst:(assignEach es X.env).findIdx? (·.1)=none:=by rfl):PG X (.Tuple es k pos) (YZ X.K n t):=by
 intro pins s σ H v u Q I r hw
 obtain⟨a,xs,e1,hq,hl,hw⟩:=hw
 subst e1
 cases r
 obtain⟨its,rv,ht,hz⟩:=I.tuple hq
 refine assign_Tuple_tuple (I.ok.hd hc) ht (by simp[hn,←hl,rv.length]) hst fun h' hx=>?_
 have I1:Inv X pins σ H {s with heap:=h'}:=I.kept (t':=s.toks) fun b o e=>hx b o (Nat.ne_of_lt (Heap.lt_size e)) e
 exact h pins _ σ H xs _ Q I1 (by simpa using rv) hw
noncomputable def YY(to ti:TE)(t:bw):TG:=fun v σ H Q=>to σ H fun o H1=>ti σ H1 fun i H2=>t o i v H2 fun H3=>Q σ H3
theorem Zu{o i:Expr}{to ti:TE}{t:bw}(ho:PE X o to)(hi:PE X i ti)(hs:YO X t)
 (ha:∀v,assign (.Subscript o i pos) X.env v=(do
  let ov ←holding [v] (eval o X.env)
  let iv ←holding [v,ov] (eval i X.env)
  standAt pos
  holding [v,ov,iv] (setItem ov iv v)
  release [v,ov,iv] []):=by intro _;rfl):PG X (.Subscript o i pos) (YY to ti t):=by
 intro pins s σ H v u Q I r h
 rw[ha]
 refine wpAny_bind (wpAny_holding (thn (ho pins s σ H _ I h) fun ov s1 ⟨x,H1,I1,r1,q1⟩=>?_))
 refine wpAny_bind (wpAny_holding (thn (hi pins s1 σ H1 _ I1 q1) fun iv s2 ⟨y,H2,I2,r2,q2⟩=>?_))
 refine wpAny_bind (wpAny_standAt (wpAny_bind (wpAny_holding (thn (hs pins s2 σ H2 x y v ov iv u _ I2 r1 r2 r q2) fun _ s3 ⟨H3,I3,q3⟩=>?_))))
 exact wpAny_release ⟨σ,H3,I3,q3⟩
noncomputable def rh(te:TE)(g:TG):TS:=fun D σ H=>te σ H fun x H1=>g x σ H1 D.nx
theorem mH{tg e:Expr}{te:TE}{g:TG}(he:PE X e te)(hg:PG X tg g)(hs:swapsWithSole [tg] e pos.line X.env=pure false:=by rfl)(hw:swappedStores [tg] e X.env=pure none:=by rfl)
 (h1:(assignEach [tg] X.env).map (·.2)=[assign tg X.env]:=by rfl):PS X (.Assign [tg] e pos) (rh te g):=by
 intro pins s σ H D I h
 refine wpAny_Assign_stores (thn (he pins s σ H _ I h) fun v s1 ⟨x,H1,I1,r1,q1⟩=>?_) hs hw
 rw[h1]
 exact thn (hg pins s1 σ H1 x v _ I1 r1 q1) fun _ s2 q=>q
theorem mI{i:Nat}{x:Str}{e:Expr}{te:TE}{pos':Pos}(hN:X.N.Nodup)(hi:X.N[i]?=some x)(hx:Loc X.env.scope x)(he:PE X e te)(hs:swapsWith e (some (.Name x pos')) pos.line X.env=pure false:=by rfl)(hf:X.fn x=true∨X.env.scope.names.lookup x=some .local:=by first|exact .inl rfl|exact .inr rfl|assumption) :
 PS X (.Assign [.Name x pos'] e pos) (rh te (vM i)):=by
 intro pins s σ H D I h
 refine wpAny_Assign_Name (thn (he pins s σ H _ I h) fun v s1 ⟨y,H1,I1,r1,q1⟩=>?_) hs
 exact xn I1 hN hi hx r1 (fun s2 I2=>⟨_,H1,I2,q1⟩) hf
noncomputable def X2(i j:Nat)(ta:TA):TS:=fun D σ H=>ta σ H fun vs H1=>∃v w,vs=[v,w]∧D.nx ((σ.set i (some v)).set j (some w)) H1
theorem Zx{i j:Nat}{x y:Str}{a b:Expr}{ta:TA}{px py pt:Pos}{kt k2 pt2}(hc:X.calm=true)(hN:X.N.Nodup)(hi:X.N[i]?=some x)(hj:X.N[j]?=some y)(hij:i≠j)
 (hx:X.env.scope.names.lookup x=some .local) (hy:X.env.scope.names.lookup y=some .local) (ha:PA X [a,b] ta)
 (hw:swappedStores [.Tuple [.Name x px,.Name y py] kt pt] (.Tuple [a,b] k2 pt2) X.env=pure (some [x,y]))
 (hs:swapsWithSole [.Tuple [.Name x px,.Name y py] kt pt] (.Tuple [a,b] k2 pt2) pos.line X.env=pure false:=by rfl) :
 PS X (.Assign [.Tuple [.Name x px,.Name y py] kt pt] (.Tuple [a,b] k2 pt2) pos) (X2 i j ta):=by
 intro pins s σ H D I h
 rw[exec_Assign_arm]
 refine wpAny_bind (wpAny_standAt ?_)
 rw[hs]
 refine wpAny_bind (wpAny_pure ?_)
 rw[if_neg (by decide)]
 refine wpAny_bind (Tuple_ (thn (ha _ pins s σ H _ I h) fun us s1 ⟨vs,H1,I1,r1,q1⟩=>?_))
 obtain⟨v,w,e1,q1⟩:=q1
 subst e1
 obtain⟨u1,u2,rfl,rv,rw'⟩:∃u1 u2,us=[u1,u2]∧RelV v u1∧RelV w u2:=by
  cases r1 with
  |cons p q=>
   cases q with
   |cons p' q'=>
    cases q'
    exact⟨_,_,rfl,p,p'⟩
 refine wpAny_newObj_type ?_ (by show 2≤sizeLine;decide)
 have I2:Inv X pins σ H1 {s1 with heap:=s1.heap.push {cls:=.type "tuple",data:=.seq [u1,u2].toArray}}:=I1.kept (t':=s1.toks) fun b o e=>Heap.get?_push_of_some _ e
 rw[hw]
 refine wpAny_bind (wpAny_pure ?_)
 show wpAny (model X.prog X.w) X.A (do rule "assign.swapped-stores";let items ←unpackItems (.ref s1.heap.objs.size) 2 none;assignInOrder [fun v=>bindName X.env y v,fun v=>bindName X.env x v] items.reverse;pure Flow.next) _ _ _
 refine wpAny_bind (wpAny_rule (wpAny_bind (unpackItems_tuple (items:=#[u1,u2]) (I.ok.hd hc) (IsTup.new s1.heap _) fun h' hx'=>?_)))
 have I3:=I2.kept (h':=h') (t':=s1.toks) fun b o e=>hx' b o (Nat.ne_of_lt (Heap.lt_size e)) e
 show wpAny _ _ (assignInOrder [fun v=>bindName X.env y v,fun v=>bindName X.env x v] [u2,u1] >>= fun _=>pure Flow.next) _ _ _
 refine wpAny_bind (assignInOrder_cons (wpAny_bindName (xn I3 hN hj (.inl hy) rw' (fun s2 I4=>?_) (.inr hy))))
 refine assignInOrder_cons (wpAny_bindName (xn I4 hN hi (.inl hx) rv (fun s3 I5=>assignInOrder_nil (wpAny_pure ?_)) (.inr hx)))
 rw[List.set_comm _ _ (Ne.symm hij)]at I5
 exact⟨_,H1,I5,q1⟩
noncomputable def Wa(i:Nat)(te:TE)(ti:TIp):TS:=fun D σ H=>∃x,σ[i]?=some (some x)∧te σ H fun y H1=>ti x y H1 fun z H2=>D.nx (σ.set i (some z)) H2
theorem Zv{i:Nat}{x:Str}{e:Expr}{te:TE}{op:Operator}{ti:TIp}{pos':Pos}(hN:X.N.Nodup)(hi:X.N[i]?=some x)(hx:Loc X.env.scope x)(he:PE X e te)(ho:PIp X op ti)(hf:X.fn x=true∨X.env.scope.names.lookup x=some .local:=by first|exact .inl rfl|exact .inr rfl|assumption) :
 PS X (.AugAssign (.Name x pos') op e pos) (Wa i te ti):=by
 intro pins s σ H D I h
 obtain⟨v,e1,h⟩:=h
 obtain⟨m,hn,hl⟩:=I.loc
 have vis:Vis X.env.scope x:=by rcases hx with k|k;exact .inl k;exact .inr (.inl k)
 obtain⟨u,r,l⟩:=hl i x v hi e1 vis
 refine wpAny_AugAssign_Name ?_
 have go:wpAny (model X.prog X.w) X.A (eval e X.env) (fun w s₂=>wpAny (model X.prog X.w) X.A (inplaceOp op u w) (fun r s₃=>wpAny (model X.prog X.w) X.A (storeName X.env x r) (fun _=>SP X pins D .next) X.xe s₃) X.xe s₂) X.xe s:=by
  refine thn (he pins s σ H _ I h) fun w s1 ⟨y,H1,I1,r1,q1⟩=>?_
  refine thn (ho pins s1 σ H1 v y u w _ I1 r r1 q1) fun z s2 ⟨zv,H2,I2,r2,q2⟩=>?_
  exact xn I2 hN hi hx r2 (fun s3 I3=>⟨_,H2,I3,q2⟩) hf
 rcases l with⟨hk,hm⟩|⟨hk,c,hc,hcell⟩
 . exact wpAny_loadName_local I.ok.kind hk hn hm go
 . rcases hk with hk|hk
   . exact wpAny_loadName_cell I.ok.kind hk hc hcell go
   . rcases hx with k|k
     . have:X.env.scope.names.lookup x=some .free:=hk
       rw[k]at this;cases this
     . have:X.env.scope.names.lookup x=some .free:=hk
       rw[k]at this;cases this
end
section
variable {X:Cx}{pos:Pos}
noncomputable def fS(c:TT)(tb:TS):TS:=fun D σ H=>∃W:Nat→St→Hp→Prop,(∃m,W m σ H)∧∀m σ H,W m σ H →
 c σ H fun b H1=>if b=true then ∃N:St→Hp→Prop,(∀σ' H',N σ' H'→∃m',m'<m∧W m' σ' H')∧tb {D with nx:=N,ct:=N,bk:=D.nx} σ H1 else D.nx σ H1
theorem g8{c:Expr}{body:List Stmt}{tc:TT}{tb:TS}(hp:PassesOwn (model X.prog X.w) X.A X.env X.xe)(hc:PT X c tc)(hb:PSs X body tb):PS X (.While c body [] pos) (fS tc tb):=by
 intro pins s σ H D I h
 obtain⟨W,⟨m0,w0⟩,turn⟩:=h
 refine wpAny_While (codeAny_whileLoop (fun n s'=>∃σ' H',Inv X pins σ' H' s'∧W n σ' H') ?_ m0 ⟨σ,H,I,w0⟩)
 rintro n s1 ⟨σ1,H1,I1,w1⟩
 refine wpAny_passesOwn hp (thn (hc pins s1 σ1 H1 _ I1 (turn n σ1 H1 w1)) fun b s2 ⟨H2,I2,q2⟩=>?_)
 cases b with
 |true=>
  obtain⟨N,hN,q2⟩:=q2
  rw[if_pos rfl]
  refine wpAny_passesOwn hp (thn (hb pins s2 σ1 H2 _ I2 q2) fun f s3 q3=>?_)
  cases f with
  |next=>
   obtain⟨σ3,H3,I3,n3⟩:=q3
   obtain⟨m',hm,w3⟩:=hN σ3 H3 n3
   exact⟨m',hm,σ3,H3,I3,w3⟩
  |cont=>
   obtain⟨σ3,H3,I3,n3⟩:=q3
   obtain⟨m',hm,w3⟩:=hN σ3 H3 n3
   exact⟨m',hm,σ3,H3,I3,w3⟩
  |brk=>exact q3
  |ret v=>exact q3
 |false=>
  rw[if_neg Bool.false_ne_true]
  exact wpAny_execs_nil ⟨σ1,H2,I2,q2⟩
end
structure It where
 go:Nat→Hp→Prop
 yld:Nat→Hp→V→Hp→Prop
 stop:Nat→Hp→Prop
def vm(X:Cx)(pins:List (Addr × Obj))(H:Hp)(b:Addr):Prop:=
 H b=none∧b≠X.env.locals∧b ∉ X.fs∧(b∈X.ex∨X.s₀.heap.objs.size≤b)∧(∀x c,X.env.cells.lookup x=some c→c≠b)∧∀p∈X.pn++pins,p.1≠b
theorem Inv.eI{X:Cx}{pins:List (Addr × Obj)}{σ:St}{H H':Hp}{s:Shared}{b:Addr}(I:Inv X pins σ H s)(hb:s.heap.objs.size≤b)(hn:H' b=none):vm X pins H' b:=by
 refine⟨hn,Nat.ne_of_gt (Nat.lt_of_lt_of_le I.lt hb),I.WM hb,.inr (Nat.le_trans I.sz hb),fun x c e z=>?_,fun p hp z=>?_⟩
 . obtain⟨v,q⟩:=I.cell x c e
   exact absurd (Nat.lt_of_lt_of_le q.lt (by rw[z];exact hb)) (Nat.lt_irrefl _)
 . exact absurd (Nat.lt_of_lt_of_le (Heap.lt_size (I.pin p hp).1) (by rw[z];exact hb)) (Nat.lt_irrefl _)
structure Turn(P:Program)(w:World)(K:PySem.W.Frag)(tg:Expr)(J:It)(fp:List Addr)(it:Addr)(tn:Nat→Heap→Prop):Prop where
 mem:it∈fp
 obj:∀i h,tn i h→∀b∈fp,∃o,h.get? b=some o∧∀v,o.data≠.cell v
 keep:∀i h h',tn i h→(∀b∈fp,∀o,h.get? b=some o→h'.get? b=some o)→tn i h'
 item:∀(X:Cx),X.prog=P→X.w=w→X.K=K→X.calm=true→∀(i:Nat) (pins:List (Addr × Obj)) (s:Shared) (σ:St) (H:Hp) (E:Value→Shared→Prop),Inv X pins σ H s→(∀b∈fp,vm X pins H b)→tn i s.heap→J.go i H →
  wpAny (model P w) X.A (pyNext (.ref it)) (fun r s1=>∃u,r=some u ∧
   wpAny (model P w) X.A (letOwnedTupleGo tg (.ref it) u) (fun _ s2=>∃x H',Inv X pins σ H' s2∧RelV x u∧J.yld i H x H'∧tn (i+1) s2.heap∧∀b∈fp,H' b=none) E s1) E s
 done:∀(X:Cx),X.prog=P→X.w=w→X.K=K→X.calm=true→∀(i:Nat) (pins:List (Addr × Obj)) (s:Shared) (σ:St) (H:Hp) (E:Value→Shared→Prop),Inv X pins σ H s→(∀b∈fp,vm X pins H b)→tn i s.heap→J.stop i H →
  wpAny (model P w) X.A (pyNext (.ref it)) (fun r s1=>r=none∧Inv X pins σ H s1) E s
 self:∀(A:Around) (i:Nat) (s:Shared) (Q:Value→Shared→Prop) (E:Value→Shared→Prop),tn i s.heap→Q (.ref it) s→wpAny (model P w) A (pyIter (.ref it)) Q E s
noncomputable abbrev TI:=St→Hp→(It→Hp→Prop)→Prop
def PIE(X:Cx)(pins:List (Addr × Obj))(σ:St)(tg:Expr)(R:It→Hp→Prop)(itv:Value)(s2:Shared):Prop:=
 ∃(it:Addr) (fp:List Addr) (tn:Nat→Heap→Prop) (J:It) (H':Hp),itv=.ref it∧Inv X pins σ H' s2∧Turn X.prog X.w X.K tg J fp it tn∧tn 0 s2.heap∧(∀b∈fp,vm X pins H' b)∧R J H'
def PI(X:Cx)(tg iter:Expr)(wi:TI):Prop:=
 ∀(pins:List (Addr × Obj)) (s:Shared) (σ:St) (H:Hp) (R:It→Hp→Prop),Inv X pins σ H s→wi σ H R →
  wpAny (model X.prog X.w) X.A (eval iter X.env) (fun v s1=>wpAny (model X.prog X.w) X.A (pyIter v) (PIE X pins σ tg R) X.xe s1) X.xe s
theorem ij{M:Model}{A:Around}{E:Value→Shared→Prop}{s:Shared}{tg:Expr}{it:Addr}{u:Value}{o:Obj}{n:String}{vs:Array Value}{Q:Unit→Shared→Prop}(ho:s.heap.get? it=some o)(hc:o.cls=.type n)(hd:o.data=.fields vs)
 (hn:["enumerate","zip","dict_itemiterator","dict_reverseitemiterator","odict_iterator","itertools.zip_longest","itertools.pairwise"].contains n=false) (hQ:Q () s):wpAny M A (letOwnedTupleGo tg (.ref it) u) Q E s:=by
 unfold letOwnedTupleGo
 cases tg<;>first
  |exact wpAny_pure hQ
  |(cases u<;>first
   |exact wpAny_pure hQ
   |(refine wpAny_bind (wpAny_load ho ?_)
     rw[hc,hd]
     show wpAny M A (if (["enumerate","zip","dict_itemiterator","dict_reverseitemiterator","odict_iterator","itertools.zip_longest","itertools.pairwise"].contains n&&vs[0]? == some (rawInt _))=true then _ else _) Q E s
     rw[if_neg (by intro h;rw[hn,Bool.false_and]at h;cases h)]
     exact wpAny_pure hQ))
noncomputable def Itl(K:PySem.W.Frag)(a:Addr):It:=
 ⟨fun i H=>∃xs x,SqL K H a xs∧xs[i]?=some x,fun i H x H'=>H'=H∧∀xs,SqL K H a xs→xs[i]?=some x,fun i H=>∃xs,SqL K H a xs∧xs.length≤i⟩
noncomputable def Itt(K:PySem.W.Frag)(a:Addr):It:=
 ⟨fun i H=>∃xs x,SqT K H a xs∧xs[i]?=some x,fun i H x H'=>H'=H∧∀xs,SqT K H a xs→xs[i]?=some x,fun i H=>∃xs,SqT K H a xs∧xs.length≤i⟩
noncomputable def Itr(lo:Int)(n:Nat):It:=⟨fun i _=>i<n,fun i H x H'=>H'=H∧x=.int (lo+i),fun i _=>n≤i⟩
theorem j4{P:Program}{w:World}{K:PySem.W.Frag}{tg:Expr}(a it:Addr):Turn P w K tg (Itl K a) [it] it (fun i h=>h.IsListIter it a i) where
 mem:=by simp
 obj:=fun i h st b hb=>by
  have e:b=it:=by simpa using hb
  subst e
  obtain⟨o,e,c,d⟩:=st
  exact⟨o,e,fun v z=>by rw[d]at z;cases z⟩
 keep:=fun i h h' st k=>st.at fun o e=>k it (by simp) o e
 item:=by
  intro X hP hw hK hc i pins s σ H E I hf st hg
  subst hP hw hK
  obtain⟨xs,x,hq,hx⟩:=hg
  obtain⟨its,rv,p,hz⟩:=I.list hq
  obtain⟨u,hu,ru⟩:=rv.get hx
  obtain⟨f0,f1,f2,f3,f4,f5⟩:=hf it (by simp)
  refine wpAny_pyNext_list_item st p.isList (x:=u) (by simpa using hu) fun h' st' sb=>?_
  have I1:Inv X pins σ H {s with heap:=h'}:=I.turned (t':=s.toks) (fun b o hb e=>(sb.2 b hb).trans e) f0 f1 f3 f4 f5
  obtain⟨o,e,c,d⟩:=id st'
  exact⟨u,rfl,ij (s:={s with heap:=h'}) e c d (by decide) ⟨x,H,I1,ru,⟨rfl,fun ys hy=>by rw[I.oN hy hq];exact hx⟩,st',fun b hb=>(hf b hb).1⟩⟩
 done:=by
  intro X hP hw hK hc i pins s σ H E I hf st hg
  subst hP hw hK
  obtain⟨xs,hq,hx⟩:=hg
  obtain⟨its,rv,p,hz⟩:=I.list hq
  obtain⟨f0,f1,f2,f3,f4,f5⟩:=hf it (by simp)
  have hl:=rv.length
  exact wpAny_pyNext_list_end (I.ok.hd hc) st p.isList (by simp;omega) fun h' eb=>⟨rfl,I.turned (t':=s.toks) (fun b o hb e=>eb b o hb e) f0 f1 f3 f4 f5⟩
 self:=fun _ _ _ _ _ st h=>wpAny_pyIter_listiter st h
theorem ml{P:Program}{w:World}{K:PySem.W.Frag}{tg:Expr}(a it:Addr):Turn P w K tg (Itt K a) [it] it (fun i h=>h.IsTupleIter it a i) where
 mem:=by simp
 obj:=fun i h st b hb=>by
  have e:b=it:=by simpa using hb
  subst e
  obtain⟨o,e,c,d⟩:=st
  exact⟨o,e,fun v z=>by rw[d]at z;cases z⟩
 keep:=fun i h h' st k=>st.at fun o e=>k it (by simp) o e
 item:=by
  intro X hP hw hK hc i pins s σ H E I hf st hg
  subst hP hw hK
  obtain⟨xs,x,hq,hx⟩:=hg
  obtain⟨its,rv,p,hz⟩:=I.tuple hq
  obtain⟨u,hu,ru⟩:=rv.get hx
  obtain⟨f0,f1,f2,f3,f4,f5⟩:=hf it (by simp)
  refine wpAny_pyNext_tuple_item st (show s.heap.IsTuple a its.toArray from p) (x:=u) (by simpa using hu) fun h' st' sb=>?_
  have I1:Inv X pins σ H {s with heap:=h'}:=I.turned (t':=s.toks) (fun b o hb e=>(sb.2 b hb).trans e) f0 f1 f3 f4 f5
  obtain⟨o,e,c,d⟩:=id st'
  exact⟨u,rfl,ij (s:={s with heap:=h'}) e c d (by decide) ⟨x,H,I1,ru,⟨rfl,fun ys hy=>by rw[I.qY hy hq];exact hx⟩,st',fun b hb=>(hf b hb).1⟩⟩
 done:=by
  intro X hP hw hK hc i pins s σ H E I hf st hg
  subst hP hw hK
  obtain⟨xs,hq,hx⟩:=hg
  obtain⟨its,rv,p,hz⟩:=I.tuple hq
  obtain⟨f0,f1,f2,f3,f4,f5⟩:=hf it (by simp)
  have hl:=rv.length
  exact wpAny_pyNext_tuple_end (I.ok.hd hc) st (show s.heap.IsTuple a its.toArray from p) (by simp;omega) fun h' eb=>⟨rfl,I.turned (t':=s.toks) (fun b o hb e=>eb b o hb e) f0 f1 f3 f4 f5⟩
 self:=fun _ _ _ _ _ st h=>wpAny_pyIter_tupleiter st h
theorem mj{P:Program}{w:World}{K:PySem.W.Frag}{tg:Expr}(it:Addr)(lo:Int)(n:Nat):Turn P w K tg (Itr lo n) [it] it (fun i h=>IsRangeIter h it (lo+(i:Nat)*1) ((n:Int)-(i:Nat)) 1) where
 mem:=by simp
 obj:=fun i h st b hb=>by
  have e:b=it:=by simpa using hb
  subst e
  exact⟨_,st,fun v z=>by
   have z':Data.fields _=Data.cell v:=z
   cases z'⟩
 keep:=fun i h h' st k=>k it (by simp) _ st
 item:=by
  intro X hP hw hK hc i pins s σ H E I hf st hg
  subst hP hw hK
  obtain⟨f0,f1,f2,f3,f4,f5⟩:=hf it (by simp)
  have W:=Walks.range (prog:=X.prog) (w:=X.w) (I.ok.hd hc) it lo 1 n
  refine W.item i s _ _ hg st fun v h' tk hv st' kk=>?_
  obtain⟨t,rfl⟩:=hv
  have I1:Inv X pins σ H {s with heap:=h',toks:=tk}:=I.turned (fun b o hb e=>kk b o (by simpa using hb) e) f0 f1 f3 f4 f5
  refine⟨_,rfl,ij (s:={s with heap:=h',toks:=tk}) (n:="range_iterator") st' rfl rfl (by decide) ⟨.int (lo+i),H,I1,⟨t,?_⟩,⟨rfl,rfl⟩,st',fun b hb=>(hf b hb).1⟩⟩
  rw[Int.mul_one]
 done:=by
  intro X hP hw hK hc i pins s σ H E I hf st hg
  subst hP hw hK
  obtain⟨f0,f1,f2,f3,f4,f5⟩:=hf it (by simp)
  exact wpAny_pyNext_range_end (I.ok.hd hc) st (by have:n≤i:=hg;omega) fun h' eb=>⟨rfl,I.turned (t':=s.toks) (fun b o hb e=>eb b o hb e) f0 f1 f3 f4 f5⟩
 self:=fun _ _ _ _ _ st h=>wpAny_pyIter_rangeiter st h
end L2
namespace L2
open PySem PySem.Spec PyProof.Rows
section
variable {X:Cx}{tg:Expr}
noncomputable def Yd(K:PySem.W.Frag)(tl:TE):TI:=fun σ H R=>tl σ H fun x H1=>∃a,x=.ref a∧(∃xs,SqL K H1 a xs)∧R (Itl K a) H1
noncomputable def WI(K:PySem.W.Frag)(tl:TE):TI:=fun σ H R=>tl σ H fun x H1=>∃a,x=.ref a∧(∃xs,SqT K H1 a xs)∧R (Itt K a) H1
theorem l0{l:Expr}{tl:TE}(hl:PE X l tl):PI X tg l (Yd X.K tl):=by
 intro pins s σ H R I h
 refine thn (hl pins s σ H _ I h) fun v s1 ⟨x,H1,I1,r1,q1⟩=>?_
 obtain⟨a,e,⟨xs,hq⟩,q⟩:=q1
 subst e
 cases r1
 obtain⟨its,rv,p,hz⟩:=I1.list hq
 refine wpAny_pyIter_list p.isList ?_
 refine⟨s1.heap.objs.size,[s1.heap.objs.size],_,_,H1,rfl,I1.kept (t':=s1.toks) fun b o e=>Heap.get?_push_of_some _ e,j4 a _,⟨_,Heap.get?_push_size _ rfl,rfl,rfl⟩,fun b hb=>?_,q⟩
 have e:b=s1.heap.objs.size:=by simpa using hb
 subst e
 exact I1.eI (Nat.le_refl _) (I1.hok.fresh (Nat.le_refl _))
theorem gr{l:Expr}{tl:TE}(hl:PE X l tl):PI X tg l (WI X.K tl):=by
 intro pins s σ H R I h
 refine thn (hl pins s σ H _ I h) fun v s1 ⟨x,H1,I1,r1,q1⟩=>?_
 obtain⟨a,e,⟨xs,hq⟩,q⟩:=q1
 subst e
 cases r1
 obtain⟨its,rv,p,hz⟩:=I1.tuple hq
 refine wpAny_pyIter_tuple (show s1.heap.IsTuple a its.toArray from p) ?_
 refine⟨s1.heap.objs.size,[s1.heap.objs.size],_,_,H1,rfl,I1.kept (t':=s1.toks) fun b o e=>Heap.get?_push_of_some _ e,ml a _,⟨_,Heap.get?_push_size _ rfl,rfl,rfl⟩,fun b hb=>?_,q⟩
 have e:b=s1.heap.objs.size:=by simpa using hb
 subst e
 exact I1.eI (Nat.le_refl _) (I1.hok.fresh (Nat.le_refl _))
theorem ou{pins:List (Addr × Obj)}{σ:St}{H:Hp}{s:Shared}{R:It→Hp→Prop}{E:Value→Shared→Prop}{lo hi:Int}{t u v:Tok}{tk:Nat}(I:Inv X pins σ H s)(h1:-(2 ^ 62)≤lo)(h2:lo<2 ^ 62)(h3:-(2 ^ 62)≤hi)(h4:hi<2 ^ 62)
 (q:R (Itr lo (hi-lo).toNat) H):wpAny (model X.prog X.w) X.A (pyIter (.ref s.heap.objs.size)) (PIE X pins σ tg R) E {s with heap:=s.heap.push {cls:=.type "range",data:=.fields #[.int lo t,.int hi u,.int 1 v]},toks:=tk}:=by
 refine wpAny_pyIter_range (IsRange.new ..) (small_one h1 h2 h3 h4) ?_
 have I1:Inv X pins σ H {s with heap:=s.heap.push {cls:=.type "range",data:=.fields #[.int lo t,.int hi u,.int 1 v]},toks:=tk}:=I.kept fun b o e=>Heap.get?_push_of_some _ e
 refine⟨(s.heap.push {cls:=.type "range",data:=.fields #[.int lo t,.int hi u,.int 1 v]}).objs.size,[(s.heap.push {cls:=.type "range",data:=.fields #[.int lo t,.int hi u,.int 1 v]}).objs.size],_,_,H,rfl,
  I1.kept (t':=tk) fun b o e=>Heap.get?_push_of_some _ e,mj _ lo (hi-lo).toNat,?_,fun b hb=>?_,q⟩
 . have e1:lo+((0:Nat):Int)*1=lo:=by simp
   have e2:(((hi-lo).toNat:Nat):Int)-((0:Nat):Int)=Builtin.Range.rangeSize lo hi 1:=by rw[rangeSize_one];split<;>omega
   show IsRangeIter _ _ (lo+((0:Nat):Int)*1) ((((hi-lo).toNat:Nat):Int)-((0:Nat):Int)) 1
   rw[e1,e2]
   exact Heap.get?_push_size _ rfl
 . have e:b=(s.heap.push {cls:=.type "range",data:=.fields #[.int lo t,.int hi u,.int 1 v]}).objs.size:=by simpa using hb
   subst e
   exact I1.eI (Nat.le_refl _) (I1.hok.fresh (Nat.le_refl _))
noncomputable def Ye(ta:TA):TI:=fun σ H R=>ta σ H fun vs H1=>∃j:Int,vs=[.int j]∧-(2 ^ 62)≤j∧j<2 ^ 62∧R (Itr 0 j.toNat) H1
noncomputable def Yf(ta:TA):TI:=fun σ H R=>ta σ H fun vs H1=>∃i j:Int,vs=[.int i,.int j]∧(-(2 ^ 62)≤i∧i<2 ^ 62∧-(2 ^ 62)≤j∧j<2 ^ 62)∧R (Itr i (j-i).toNat) H1
theorem jd{a:Expr}{ta:TA}{p pos:Pos}(hg:Gl X "range")(hm:X.mg "range"=none)(ha:PA X [a] ta)(hs:starEach [a] X.env=[(false,eval a X.env)]:=by rfl):PI X tg (.Call (.Name "range" p) [a] [] pos) (Ye ta):=by
 intro pins s σ H R I h
 refine Call_ (tB I hg hm boot_range (PyProof.Rows.callWith_type1 (thn (ha pos pins s σ H _ I h) fun us s1 ⟨vs,H1,I1,r1,q1⟩=>?_) hs rfl))
 obtain⟨j,e,q1,q2,q⟩:=q1
 subst e
 cases r1 with
 |cons r rr=>
  cases rr
  obtain⟨t,rfl⟩:=r
  exact call_range_1 (ou I1 (by omega) (by omega) q1 q2 (by simpa using q))
theorem jf{a b:Expr}{ta:TA}{p pos:Pos}(hg:Gl X "range")(hm:X.mg "range"=none)(ha:PA X [a,b] ta)(hs:starEach [a,b] X.env=[(false,eval a X.env),(false,eval b X.env)]:=by rfl)(hs2:starEach [b] X.env=[(false,eval b X.env)]:=by rfl) :
 PI X tg (.Call (.Name "range" p) [a,b] [] pos) (Yf ta):=by
 intro pins s σ H R I h
 refine Call_ (tB I hg hm boot_range (PyProof.Rows.callWith_type1 (thn (ha pos pins s σ H _ I h) fun us s1 ⟨vs,H1,I1,r1,q1⟩=>?_) (by rw[hs,hs2]) (by rw[hs2];rfl)))
 obtain⟨i,j,e,⟨q1,q2,q3,q4⟩,q⟩:=q1
 subst e
 cases r1 with
 |cons r rr=>
  cases rr with
  |cons r' rr=>
   cases rr
   obtain⟨t,rfl⟩:=r
   obtain⟨t',rfl⟩:=r'
   exact call_range_2 (ou I1 q1 q2 q3 q4 q)
noncomputable def Wc(wi:TI)(g:TG)(tb:TS):TS:=fun D σ H=>wi σ H fun J H1=>∃W:Nat→Nat→St→Hp→Prop,(∃m,W 0 m σ H1)∧∀i m σ H,W i m σ H →
 (J.stop i H∧D.nx σ H)∨(J.go i H∧∃N:St→Hp→Prop,(∀σ' H',N σ' H'→∃m',m'<m∧W (i+1) m' σ' H')∧∀x H',J.yld i H x H'→g x σ H' fun σ2 H2=>tb {D with nx:=N,ct:=N,bk:=D.nx} σ2 H2)
noncomputable def rC(fp:List Addr)(h:Heap):List (Addr × Obj):=fp.filterMap fun b=>(h.get? b).map fun o=>(b,o)
theorem w6{fp:List Addr}{h:Heap}{b:Addr}{o:Obj}(hb:b∈fp)(e:h.get? b=some o):(b,o)∈rC fp h:=List.mem_filterMap.mpr ⟨b,hb,by rw[e];rfl⟩
theorem jH{fp:List Addr}{h:Heap}{p:Addr × Obj}(hp:p∈rC fp h):p.1∈fp∧h.get? p.1=some p.2:=by
 obtain⟨b,hb,e⟩:=List.mem_filterMap.mp hp
 cases q:h.get? b with
 |none=>rw[q]at e;cases e
 |some o=>
  rw[q]at e
  have e':(b,o)=p:=Option.some.inj e
  subst e'
  exact⟨hb,q⟩
theorem Inv.pinned{pins:List (Addr × Obj)}{σ:St}{H:Hp}{s:Shared}{fp:List Addr}(I:Inv X pins σ H s)(hf:∀b∈fp,vm X pins H b)(ho:∀b∈fp,∃o,s.heap.get? b=some o∧∀v,o.data≠.cell v):Inv X (pins++rC fp s.heap) σ H s:=
 I.l5 fun p hp=>(List.mem_append.mp hp).elim (fun z=>I.pin p (List.mem_append_right _ z)) fun z=>by
   obtain⟨hb,e⟩:=jH z
   obtain⟨f0,f1,f2,_⟩:=hf p.1 hb
   obtain⟨o,e',d⟩:=ho p.1 hb
   rw[e]at e';cases e'
   exact⟨e,f0,f1,f2,d⟩
theorem Inv.uq{pins pl:List (Addr × Obj)}{σ:St}{H:Hp}{s:Shared}(I:Inv X (pins++pl) σ H s):Inv X pins σ H s:=I.l5 fun p hp=>I.pin p (List.mem_append_right _ (List.mem_append_left _ hp))
theorem Zw{iter:Expr}{body:List Stmt}{wi:TI}{g:TG}{tb:TS}{pos:Pos}(hp:PassesOwn (model X.prog X.w) X.A X.env X.xe)(hc:X.calm=true)(hi:PI X tg iter wi)(hg:PG X tg g)(hb:PSs X body tb)
 (hs:∀x,foldedSetIterable iter X.env x=pure x:=by intro _;rfl):PS X (.For tg iter body [] pos) (Wc wi g tb):=by
 intro pins s σ H D I h
 refine wpAny_For (thn (hi pins s σ H _ I h) fun v s1 h1=>thn h1 fun itv s2 h2=>?_) hs
 obtain⟨it,fp,tn,J,H2,e,I2,T,st2,f2,W,⟨m0,w0⟩,turn⟩:=h2
 subst e
 -- what stays true of the iterator's objects through the loop
 have stat:∀{H':Hp},(∀b∈fp,H' b=none)→∀b∈fp,vm X pins H' b:=fun hn b hb=>⟨hn b hb,(f2 b hb).2⟩
 refine codeAny_forLoop_any (fun n s'=>∃i σ' H',Inv X pins σ' H' s'∧tn i s'.heap∧(∀b∈fp,H' b=none)∧W i n σ' H') ?_ m0 ⟨0,σ,H2,I2,st2,fun b hb=>(f2 b hb).1,w0⟩
 rintro n s3 ⟨i,σ3,H3,I3,st3,fr3,w3⟩
 rcases turn i n σ3 H3 w3 with⟨stop,qn⟩|⟨go,N,hN,step⟩
 . refine wpAny_passesOwn hp (thn (T.done X rfl rfl rfl hc i pins s3 σ3 H3 X.xe I3 (stat fr3) st3 stop) fun r s4 ⟨hr,I4⟩=>?_)
   subst hr
   exact wpAny_execs_nil ⟨σ3,H3,I4,qn⟩
 . refine wpAny_passesOwn hp (thn (T.item X rfl rfl rfl hc i pins s3 σ3 H3 X.xe I3 (stat fr3) st3 go) fun r s4 ⟨u,hr,h4⟩=>?_)
   subst hr
   refine wpAny_passesOwn hp (thn h4 fun _ s5 ⟨x,H5,I5,r5,y5,st5,fr5⟩=>?_)
   have I5':=I5.pinned (stat fr5) (T.obj _ _ st5)
   refine wpAny_passesOwn hp (thn (hg _ s5 σ3 H5 x u _ I5' r5 (step x H5 y5)) fun _ s6 ⟨σ6,H6,I6,q6⟩=>?_)
   refine wpAny_passesOwn hp (thn (hb _ s6 σ6 H6 _ I6 q6) fun f s7 q7=>?_)
   have again:∀{σ7:St} {H7:Hp},Inv X (pins++rC fp s5.heap) σ7 H7 s7→N σ7 H7→∃m,m<n∧∃i σ' H',Inv X pins σ' H' s7∧tn i s7.heap∧(∀b∈fp,H' b=none)∧W i m σ' H':=fun{σ7 H7} I7 n7=>by
    obtain⟨m',hm,w7⟩:=hN σ7 H7 n7
    refine⟨m',hm,i+1,σ7,H7,I7.uq,T.keep _ _ _ st5 fun b hb o e=>(I7.pin (b,o) (List.mem_append_right _ (List.mem_append_right _ (w6 hb e)))).1,fun b hb=>?_,w7⟩
    obtain⟨o,e,d⟩:=T.obj _ _ st5 b hb
    exact(I7.pin (b,o) (List.mem_append_right _ (List.mem_append_right _ (w6 hb e)))).2.1
   cases f with
   |next=>obtain⟨σ7,H7,I7,n7⟩:=q7;exact again I7 n7
   |cont=>obtain⟨σ7,H7,I7,n7⟩:=q7;exact again I7 n7
   |brk=>obtain⟨σ7,H7,I7,q7⟩:=q7;exact⟨σ7,H7,I7.uq,q7⟩
   |ret v=>obtain⟨x7,σ7,H7,I7,r7,q7⟩:=q7;exact⟨x7,σ7,H7,I7.uq,r7,q7⟩
end
end L2
namespace L2
open PySem PySem.Spec PyProof.Rows
noncomputable abbrev R2:=V→V→Hp→VK→Prop
def OpR(X:Cx)(f:Value→Value→Sem Value)(r:R2):Prop:=
 ∀(pins:List (Addr × Obj)) (s:Shared) (σ:St) (H:Hp) (x y:V) (v u:Value) (Q:VK),Inv X pins σ H s→RelV x v→RelV y u→r x y H Q →
  wpAny (model X.prog X.w) X.A (f v u) (EP X pins σ Q) X.xe s
def UnR(X:Cx)(f:Value→Sem Value)(r:V→Hp→VK→Prop):Prop:=
 ∀(pins:List (Addr × Obj)) (s:Shared) (σ:St) (H:Hp) (x:V) (v:Value) (Q:VK),Inv X pins σ H s→RelV x v→r x H Q →
  wpAny (model X.prog X.w) X.A (f v) (EP X pins σ Q) X.xe s
def z6(X:Cx)(f:Value)(r:List V→Hp→VK→Prop):Prop:=
 ∀(pins:List (Addr × Obj)) (s:Shared) (σ:St) (H:Hp) (xs:List V) (us:List Value) (Q:VK),Inv X pins σ H s→Vals xs us→r xs H Q →
  wpAny (model X.prog X.w) X.A (call f us) (EP X pins σ Q) X.xe s
def WD(X:Cx)(r:V→Hp→(Bool→Hp→Prop)→Prop):Prop:=
 ∀(pins:List (Addr × Obj)) (s:Shared) (σ:St) (H:Hp) (x:V) (v:Value) (Q:Bool→Hp→Prop),Inv X pins σ H s→RelV x v→r x H Q →
  wpAny (model X.prog X.w) X.A (truthy v) (TP X pins σ Q) X.xe s
noncomputable def tOp(r:R2)(ta tb:TE):TE:=fun σ H Q=>ta σ H fun x H1=>tb σ H1 fun y H2=>r x y H2 Q
noncomputable def tUn(r:V→Hp→VK→Prop)(ta:TE):TE:=fun σ H Q=>ta σ H fun x H1=>r x H1 Q
noncomputable def rI(C:Int→Int→Prop)(g:Int→Int→V):R2:=fun x y H Q=>∃i j,x=.int i∧y=.int j∧C i j∧Q (g i j) H
noncomputable def rI0(g:Int→Int→V):R2:=fun x y H Q=>∃i j,x=.int i∧y=.int j∧Q (g i j) H
noncomputable def rU(g:Int→V):V→Hp→VK→Prop:=fun x H Q=>∃i,x=.int i∧Q (g i) H
section
variable {X:Cx}{a b c:Expr}{ta tb tc:TE}{pos:Pos}
theorem b9(ha:PE X a ta)(hb:PE X b tb){pins:List (Addr × Obj)}{s:Shared}{σ:St}{H:Hp}{R:V→V→Hp→Prop}(I:Inv X pins σ H s)
 (h:ta σ H fun x H1=>tb σ H1 fun y H2=>R x y H2) {Q:Value→Shared→Prop} {f:Value→Value→Sem Value}
 (hf:∀v u s2 x y H2,Inv X pins σ H2 s2→RelV x v→RelV y u→R x y H2→wpAny (model X.prog X.w) X.A (f v u) Q X.xe s2) :
 wpAny (model X.prog X.w) X.A (eval a X.env) (fun v s₁=>wpAny (model X.prog X.w) X.A (eval b X.env) (fun u s₂=>wpAny (model X.prog X.w) X.A (f v u) Q X.xe s₂) X.xe s₁) X.xe s:=by
 refine thn (ha pins s σ H _ I h) fun v s1 ⟨x,H1,I1,r1,q1⟩=>?_
 refine thn (hb pins s1 σ H1 _ I1 q1) fun u s2 ⟨y,H2,I2,r2,q2⟩=>?_
 exact hf v u s2 x y H2 I2 r1 r2 q2
theorem XW{op:Operator}{r:R2}(ho:OpR X (binaryOp op) r)(ha:PE X a ta)(hb:PE X b tb):PE X (.BinOp a op b pos) (tOp r ta tb):=by
 intro pins s σ H Q I h
 exact wpAny_BinOp (b9 ha hb I h fun v u s2 x y H2 I2 rx ry q=>ho pins s2 σ H2 x y v u Q I2 rx ry q)
theorem XY{op:UnaryOp}{r:V→Hp→VK→Prop}(ho:UnR X (unaryOp op) r)(ha:PE X a ta):PE X (.UnaryOp op a pos) (tUn r ta):=by
 intro pins s σ H Q I h
 exact UnaryOp_ (thn (ha pins s σ H _ I h) fun v s1 ⟨x,H1,I1,r1,q1⟩=>ho pins s1 σ H1 x v Q I1 r1 q1)
theorem opI{f:Value→Value→Sem Value}{C:Int→Int→Prop}{g:Int→Int→Int}
 (rule:∀(i j:Int) (t u:Tok) (s:Shared) (Q:Value→Shared→Prop) (E:Value→Shared→Prop),C i j→Q (.int (g i j) s.toks) {s with toks:=s.toks+1}→wpAny (model X.prog X.w) X.A (f (.int i t) (.int j u)) Q E s) :
 OpR X f (rI C fun i j=>.int (g i j)):=by
 intro pins s σ H x y v u Q I rx ry h
 obtain⟨i,j,rfl,rfl,hc,q⟩:=h
 obtain⟨t,rfl⟩:=rx
 obtain⟨t',rfl⟩:=ry
 exact rule i j t t' s _ _ hc ⟨.int (g i j),H,I.tok _,⟨_,rfl⟩,q⟩
theorem dF{f:Value→Value→Sem Value}{g:Int→Int→Int}
 (rule:∀(i j:Int) (t u:Tok) (s:Shared) (Q:Value→Shared→Prop) (E:Value→Shared→Prop),Q (.int (g i j) s.toks) {s with toks:=s.toks+1}→wpAny (model X.prog X.w) X.A (f (.int i t) (.int j u)) Q E s) :
 OpR X f (rI0 fun i j=>.int (g i j)):=by
 intro pins s σ H x y v u Q I rx ry h
 obtain⟨i,j,rfl,rfl,q⟩:=h
 obtain⟨t,rfl⟩:=rx
 obtain⟨t',rfl⟩:=ry
 exact rule i j t t' s _ _ ⟨.int (g i j),H,I.tok _,⟨_,rfl⟩,q⟩
theorem dE{f:Value→Value→Sem Value}{g:Int→Int→Bool}
 (rule:∀(i j:Int) (t u:Tok) (s:Shared) (Q:Value→Shared→Prop) (E:Value→Shared→Prop),Q (.bool (g i j)) s→wpAny (model X.prog X.w) X.A (f (.int i t) (.int j u)) Q E s) :
 OpR X f (rI0 fun i j=>.bl (g i j)):=by
 intro pins s σ H x y v u Q I rx ry h
 obtain⟨i,j,rfl,rfl,q⟩:=h
 obtain⟨t,rfl⟩:=rx
 obtain⟨t',rfl⟩:=ry
 exact rule i j t t' s _ _ ⟨.bl (g i j),H,I,rfl,q⟩
def bh(i j:Int):Prop:=0<j∧j<1073741824
def WC(i j:Int):Prop:=0≤j∧j≤1000000∧i.natAbs<2 ^ 64
def fk(i j:Int):Prop:=(-(2 ^ 64)<i∧i<2 ^ 64)∨(-(2 ^ 64)<j∧j<2 ^ 64)
theorem fk.ok{i j:Int}(h:fk i j):IntMulOk i j:=by
 rcases h with⟨h1,h2⟩|⟨h1,h2⟩
 . exact .of_left (intBits_le_64 h1 h2)
 . exact .of_right (intBits_le_64 h1 h2)
theorem ZP:OpR X (binaryOp .Add) (rI0 fun i j=>.int (i+j)):=dF fun _ _ _ _ _ _ _ q=>add_int q
theorem ZX:OpR X (binaryOp .Sub) (rI0 fun i j=>.int (i-j)):=dF fun _ _ _ _ _ _ _ q=>sub_int q
theorem ZU:OpR X (binaryOp .Mult) (rI fk fun i j=>.int (i*j)):=opI fun _ _ _ _ _ _ _ hc q=>mul_int q hc.ok
theorem dH:OpR X (binaryOp .FloorDiv) (rI bh fun i j=>.int (i/j)):=opI fun i j _ _ _ _ _ hc q=>by
 have h1:(0:Int)<j:=hc.1
 have h2:j<1073741824:=hc.2
 exact floordiv_int (by omega) (by rw[Int.fdiv_eq_ediv_of_nonneg i (by omega)];exact q) (.inl (PyProof.noPylong_small (by omega)))
theorem ZT:OpR X (binaryOp .Mod) (rI (fun _ j=>0<j) fun i j=>.int (i%j)):=opI fun i j _ _ _ _ _ hc q=>by
 have h1:(0:Int)<j:=hc
 exact mod_int' (by omega) (by rw[Int.fmod_eq_emod_of_nonneg i (by omega)];exact q)
theorem ZV:OpR X (binaryOp .Pow) (rI WC fun i j=>.int (i ^ j.toNat)):=opI fun _ _ _ _ _ _ _ hc q=>pow_int_small hc.1 hc.2.1 hc.2.2 q
theorem eK:OpR X (inplaceOp .Add) (rI0 fun i j=>.int (i+j)):=dF fun _ _ _ _ _ _ _ q=>iadd_int q
theorem eN:OpR X (inplaceOp .Sub) (rI0 fun i j=>.int (i-j)):=dF fun _ _ _ _ _ _ _ q=>isub_int q
theorem eM:OpR X (inplaceOp .Mult) (rI fk fun i j=>.int (i*j)):=opI fun _ _ _ _ _ _ _ hc q=>imul_int q hc.ok
theorem iq:OpR X (inplaceOp .FloorDiv) (rI bh fun i j=>.int (i/j)):=opI fun i j _ _ _ _ _ hc q=>by
 have h1:(0:Int)<j:=hc.1
 have h2:j<1073741824:=hc.2
 exact ifloordiv_int (by omega) (by rw[Int.fdiv_eq_ediv_of_nonneg i (by omega)];exact q) (.inl (PyProof.noPylong_small (by omega)))
theorem eL:OpR X (inplaceOp .Mod) (rI (fun _ j=>0<j) fun i j=>.int (i%j)):=opI fun i j _ _ _ _ _ hc q=>by
 have h1:(0:Int)<j:=hc
 exact imod_int (by omega) (by rw[Int.fmod_eq_emod_of_nonneg i (by omega)];exact q)
theorem unI{f:Value→Sem Value}{g:Int→Int}
 (rule:∀(i:Int) (t:Tok) (s:Shared) (Q:Value→Shared→Prop) (E:Value→Shared→Prop),Q (.int (g i) s.toks) {s with toks:=s.toks+1}→wpAny (model X.prog X.w) X.A (f (.int i t)) Q E s) :
 UnR X f (rU fun i=>.int (g i)):=by
 intro pins s σ H x v Q I rx h
 obtain⟨i,rfl,q⟩:=h
 obtain⟨t,rfl⟩:=rx
 exact rule i t s _ _ ⟨.int (g i),H,I.tok _,⟨_,rfl⟩,q⟩
theorem YI:UnR X (unaryOp .USub) (rU fun i=>.int (-i)):=unI fun _ _ _ _ _ q=>neg_int q
end
noncomputable def Xs:V→V→Bool
 |.non,.non=>true|.non,.int _=>true|.int _,.non=>true|.non,.bl _=>true|.bl _,.non=>true|.non,.str _=>true|.str _,.non=>true
 |.int _,.int _=>true|.bl _,.bl _=>true|.str _,.str _=>true|.byt _,.byt _=>true
 |.int _,.str _=>true|.str _,.int _=>true|.bl _,.str _=>true|.str _,.bl _=>true
 |_,_=>false
noncomputable def rEq:R2:=fun x y H Q=>Xs x y=true∧Q (.bl (decide (x=y))) H
noncomputable def rNe:R2:=fun x y H Q=>Xs x y=true∧Q (.bl (!decide (x=y))) H
theorem lK{i j:Int}:decide (V.int i=V.int j)=(i == j):=by
 rw[Bool.eq_iff_iff]
 simp
theorem iU{i j:Bool}:decide (V.bl i=V.bl j)=(i == j):=by
 rw[Bool.eq_iff_iff]
 simp
theorem lL{i j:Str}:decide (V.str i=V.str j)=(i == j):=by
 rw[Bool.eq_iff_iff]
 simp
theorem lJ{i j:Array UInt8}:decide (V.byt i=V.byt j)=(i.toList == j.toList):=by
 rw[Bool.eq_iff_iff]
 cases i
 cases j
 simp
section
variable {X:Cx}{a b c:Expr}{ta tb tc:TE}{pos:Pos}
theorem zc{pins:List (Addr × Obj)}{σ:St}{H:Hp}{s:Shared}{Q:VK}{k k':Bool}(I:Inv X pins σ H s)(q:Q (.bl k) H)(e:k=k'):EP X pins σ Q (.bool k') s:=by
 subst e
 exact⟨.bl k,H,I,rfl,q⟩
theorem Y3:OpR X (compareOp .Eq) rEq:=by
 intro pins s σ H x y v u Q I rx ry h
 obtain⟨hs,q⟩:=h
 cases x with
 |non=>
  cases rx
  cases y with
  |non=>cases ry;exact PySem.EqNone.eq_none_none (zc I q (by simp))
  |bl j=>cases ry;exact PySem.EqNone.eq_none_bool (zc I q (by simp))
  |int j=>obtain⟨t',rfl⟩:=ry;exact PySem.EqNone.eq_none_int (zc I q (by simp))
  |str j=>obtain⟨t',rfl⟩:=ry;exact PySem.EqNone.eq_none_str (zc I q (by simp))
  |_=>exact absurd (show false=true from hs) Bool.false_ne_true
 |bl i=>
  cases rx
  cases y with
  |non=>cases ry;exact PySem.EqNone.eq_bool_none (zc I q (by simp))
  |bl j=>cases ry;exact eq_bool (zc I q iU)
  |str j=>obtain⟨t',rfl⟩:=ry;exact PySem.EqMixed.eq_bool_str (zc I q (by simp))
  |_=>exact absurd (show false=true from hs) Bool.false_ne_true
 |int i=>
  obtain⟨t,rfl⟩:=rx
  cases y with
  |non=>cases ry;exact PySem.EqNone.eq_int_none (zc I q (by simp))
  |int j=>obtain⟨t',rfl⟩:=ry;exact eq_int (zc I q lK)
  |str j=>obtain⟨t',rfl⟩:=ry;exact PySem.EqMixed.eq_int_str (zc I q (by simp))
  |_=>exact absurd (show false=true from hs) Bool.false_ne_true
 |str i=>
  obtain⟨t,rfl⟩:=rx
  cases y with
  |non=>cases ry;exact PySem.EqNone.eq_str_none (zc I q (by simp))
  |bl j=>cases ry;exact PySem.EqMixed.eq_str_bool (zc I q (by simp))
  |int j=>obtain⟨t',rfl⟩:=ry;exact PySem.EqMixed.eq_str_int (zc I q (by simp))
  |str j=>obtain⟨t',rfl⟩:=ry;exact eq_str (zc I q lL)
  |_=>exact absurd (show false=true from hs) Bool.false_ne_true
 |byt i=>
  obtain⟨t,rfl⟩:=rx
  cases y with
  |byt j=>obtain⟨t',rfl⟩:=ry;exact PySem.W.eq_bytes (zc I q lJ)
  |_=>exact absurd (show false=true from hs) Bool.false_ne_true
 |_=>cases y<;>exact absurd (show false=true from hs) Bool.false_ne_true
theorem Y8:OpR X (compareOp .NotEq) rNe:=by
 intro pins s σ H x y v u Q I rx ry h
 obtain⟨hs,q⟩:=h
 cases x with
 |non=>
  cases rx
  cases y with
  |non=>cases ry;exact PySem.EqNone.ne_none_none (zc I q (by simp))
  |bl j=>cases ry;exact PySem.EqNone.ne_none_bool (zc I q (by simp))
  |int j=>obtain⟨t',rfl⟩:=ry;exact PySem.EqNone.ne_none_int (zc I q (by simp))
  |str j=>obtain⟨t',rfl⟩:=ry;exact PySem.EqNone.ne_none_str (zc I q (by simp))
  |_=>exact absurd (show false=true from hs) Bool.false_ne_true
 |bl i=>
  cases rx
  cases y with
  |non=>cases ry;exact PySem.EqNone.ne_bool_none (zc I q (by simp))
  |bl j=>cases ry;exact ne_bool (zc I q (congrArg not iU))
  |str j=>obtain⟨t',rfl⟩:=ry;exact PySem.EqMixed.ne_bool_str (zc I q (by simp))
  |_=>exact absurd (show false=true from hs) Bool.false_ne_true
 |int i=>
  obtain⟨t,rfl⟩:=rx
  cases y with
  |non=>cases ry;exact PySem.EqNone.ne_int_none (zc I q (by simp))
  |int j=>obtain⟨t',rfl⟩:=ry;exact ne_int (zc I q (congrArg not lK))
  |str j=>obtain⟨t',rfl⟩:=ry;exact PySem.EqMixed.ne_int_str (zc I q (by simp))
  |_=>exact absurd (show false=true from hs) Bool.false_ne_true
 |str i=>
  obtain⟨t,rfl⟩:=rx
  cases y with
  |non=>cases ry;exact PySem.EqNone.ne_str_none (zc I q (by simp))
  |bl j=>cases ry;exact PySem.EqMixed.ne_str_bool (zc I q (by simp))
  |int j=>obtain⟨t',rfl⟩:=ry;exact PySem.EqMixed.ne_str_int (zc I q (by simp))
  |str j=>obtain⟨t',rfl⟩:=ry;exact ne_str (zc I q (congrArg not lL))
  |_=>exact absurd (show false=true from hs) Bool.false_ne_true
 |byt i=>
  obtain⟨t,rfl⟩:=rx
  cases y with
  |byt j=>obtain⟨t',rfl⟩:=ry;exact PySem.W.ne_bytes (zc I q (congrArg not lJ))
  |_=>exact absurd (show false=true from hs) Bool.false_ne_true
 |_=>cases y<;>exact absurd (show false=true from hs) Bool.false_ne_true
theorem Y7:OpR X (compareOp .Lt) (rI0 fun i j=>.bl (decide (i<j))):=dE fun _ _ _ _ _ _ _ q=>lt_int q
theorem Y6:OpR X (compareOp .LtE) (rI0 fun i j=>.bl (decide (i≤j))):=dE fun _ _ _ _ _ _ _ q=>le_int q
theorem Y5:OpR X (compareOp .Gt) (rI0 fun i j=>.bl (decide (j<i))):=dE fun _ _ _ _ _ _ _ q=>gt_int q
theorem Y4:OpR X (compareOp .GtE) (rI0 fun i j=>.bl (decide (j≤i))):=dE fun _ _ _ _ _ _ _ q=>ge_int q
theorem ZS:OpR X (compareOp .Is) (fun x y H Q=>y=.non∧Q (.bl (decide (x=.non))) H):=by
 intro pins s σ H x y v u Q I rx ry h
 obtain⟨rfl,q⟩:=h
 cases ry
 refine is_none_gen (zc I q ?_)
 cases x<;>first
  |(cases rx;rfl)
  |(obtain⟨t,rfl⟩:=rx;rfl)
theorem dI:OpR X (compareOp .IsNot) (fun x y H Q=>y=.non∧Q (.bl (!decide (x=.non))) H):=by
 intro pins s σ H x y v u Q I rx ry h
 obtain⟨rfl,q⟩:=h
 cases ry
 refine isnot_none_gen (zc I q ?_)
 cases x<;>first
  |(cases rx;rfl)
  |(obtain⟨t,rfl⟩:=rx;rfl)
theorem dZ{op:CmpOp}{r:R2}(ho:OpR X (compareOp op) r)(ha:PE X a ta)(hb:PE X b tb)(hm:behindInMarks op b=false):PE X (.Compare a [op] [b] pos) (tOp r ta tb):=by
 intro pins s σ H Q I h
 exact wpAny_Compare1 (b9 ha hb I h fun v u s2 x y H2 I2 rx ry q=>ho pins s2 σ H2 x y v u Q I2 rx ry q) hm
noncomputable def ba(t:TE):TT:=fun σ H Q=>t σ H fun x H'=>∃k,x=.bl k∧Q k H'
theorem d7{op:CmpOp}{r:R2}(ho:OpR X (compareOp op) r)(ha:PE X a ta)(hb:PE X b tb)(hm:behindInMarks op b=false):PT X (.Compare a [op] [b] pos) (ba (tOp r ta tb)):=by
 intro pins s σ H Q I h
 refine wpAny_isTrue_Compare1 (thn (ha pins s σ H _ I h) fun v s1 ⟨x,H1,I1,r1,q1⟩=>thn (hb pins s1 σ H1 _ I1 q1) fun u s2 ⟨y,H2,I2,r2,q2⟩=>
  thn (ho pins s2 σ H2 x y v u _ I2 r1 r2 q2) fun c s3 ⟨z,H3,I3,r3,k,e,q3⟩=>?_) hm
 subst e
 cases r3
 exact wpAny_truthy_bool ⟨H3,I3,q3⟩
noncomputable def fR(r r':R2)(ta tb tc:TE):TE:=fun σ H Q=>ta σ H fun x H1=>tb σ H1 fun y H2=>r x y H2 fun z H3=>∃k,z=.bl k ∧
 (if k=true then tc σ H3 fun w' H4=>r' y w' H4 Q else Q (.bl false) H3)
theorem gm{op op':CmpOp}{r r':R2}(ho:OpR X (compareOp op) r)(ho':OpR X (compareOp op') r')(ha:PE X a ta)(hb:PE X b tb)(hc:PE X c tc)
 (hm:lastMarks [op,op'] [b,c]=false:=by with_unfolding_all rfl):PE X (.Compare a [op,op'] [b,c] pos) (fR r r' ta tb tc):=by
 intro pins s σ H Q I h
 refine Compare_chain (thn (ha pins s σ H _ I h) fun v s1 ⟨x,H1,I1,r1,q1⟩=>chain_link (thn (hb pins s1 σ H1 _ I1 q1) fun u s2 ⟨y,H2,I2,r2,q2⟩=>
  thn (ho pins s2 σ H2 x y v u _ I2 r1 r2 q2) fun d s3 ⟨z,H3,I3,r3,k,e,q3⟩=>?_)) hm
 subst e
 cases r3
 refine wpAny_truthy_bool ?_
 cases k with
 |false=>exact ite_ff ⟨.bl false,H3,I3,rfl,q3⟩
 |true=>exact ite_tt (chain_last (thn (hc pins s3 σ H3 _ I3 q3) fun w' s4 ⟨z',H4,I4,r4,q4⟩=>ho' pins s4 σ H4 y z' u w' Q I4 r2 r4 q4))
theorem fA{op op':CmpOp}{r r':R2}(ho:OpR X (compareOp op) r)(ho':OpR X (compareOp op') r')(ha:PE X a ta)(hb:PE X b tb)(hc:PE X c tc)
 (hm:lastMarks [op,op'] [b,c]=false:=by with_unfolding_all rfl):PT X (.Compare a [op,op'] [b,c] pos) (ba (fR r r' ta tb tc)):=by
 intro pins s σ H Q I h
 refine isTrue_chain (thn (ha pins s σ H _ I h) fun v s1 ⟨x,H1,I1,r1,q1⟩=>test_link (thn (hb pins s1 σ H1 _ I1 q1) fun u s2 ⟨y,H2,I2,r2,q2⟩=>
  thn (ho pins s2 σ H2 x y v u _ I2 r1 r2 q2) fun d s3 ⟨z,H3,I3,r3,k,e,q3⟩=>?_)) hm
 subst e
 cases r3
 refine wpAny_truthy_bool ?_
 cases k with
 |false=>
  obtain⟨k',e',q'⟩:=q3
  cases e'
  exact ite_ff ⟨H3,I3,q'⟩
 |true=>
  refine ite_tt (test_last (thn (hc pins s3 σ H3 _ I3 q3) fun w' s4 ⟨z',H4,I4,r4,q4⟩=>thn (ho' pins s4 σ H4 y z' u w' _ I4 r2 r4 q4) fun d' s5 ⟨z2,H5,I5,r5,k2,e2,q5⟩=>?_))
  subst e2
  cases r5
  exact wpAny_truthy_bool ⟨H5,I5,q5⟩
def fq(K:PySem.W.Frag)(x:V)(H:Hp)(k:Bool):Prop:=
 match x with
 |.non=>k=false
 |.bl b=>k=b
 |.int i=>k=(i != 0)
 |.str y=>y.length≤sizeLine∧k=((y.length:Int) != 0)
 |.byt y=>y.size≤sizeLine∧k=((y.size:Int) != 0)
 |.ref p=>(∃xs,SqL K H p xs∧k=!xs.isEmpty)∨(∃xs,SqT K H p xs∧k=!xs.isEmpty)∨∃kvs,H p=some (.dK kvs)∧k=!kvs.isEmpty
 |_=>False
theorem ng{κ:Type}{kvs:List (κ × V)}{vs:List (κ × Value)}(r:KV kvs vs):(!vs.isEmpty)=!kvs.isEmpty:=by
 cases r<;>rfl
theorem sV{xs:List V}{its:List Value}(r:Vals xs its):(!its.toArray.isEmpty)=!xs.isEmpty:=by
 cases r<;>simp
theorem v8:(sizeLine:Nat)<2 ^ 63:=by rw[sizeLine_eq];decide
theorem fX:WD X (fun x H Q=>∃k,fq X.K x H k∧Q k H):=by
 intro pins s σ H x v Q I rx h
 obtain⟨k,e,q⟩:=h
 have hl:=v8
 have hs:sizeLine=16777216:=sizeLine_eq
 cases x with
 |non=>
  cases rx
  have e':k=false:=e
  subst e'
  exact truthy_none ⟨H,I,q⟩
 |bl b=>
  cases rx
  have e':k=b:=e
  subst e'
  exact wpAny_truthy_bool ⟨H,I,q⟩
 |int i=>
  obtain⟨t,rfl⟩:=rx
  have e':k=(i != 0):=e
  subst e'
  exact PySem.P.truthy_int ⟨H,I,q⟩
 |str y=>
  obtain⟨t,rfl⟩:=rx
  obtain⟨hy,e'⟩:y.length≤sizeLine∧k=((y.length:Int) != 0):=e
  subst e'
  exact PySem.P.truthy_str (by omega) ⟨H,I.tok _,q⟩
 |byt y=>
  obtain⟨t,rfl⟩:=rx
  obtain⟨hy,e'⟩:y.size≤sizeLine∧k=((y.size:Int) != 0):=e
  subst e'
  exact PySem.W.truthy_bytes (by omega) ⟨H,I.tok _,q⟩
 |ref p=>
  cases rx
  have e':(∃xs,SqL X.K H p xs∧k=!xs.isEmpty)∨(∃xs,SqT X.K H p xs∧k=!xs.isEmpty)∨∃kvs,H p=some (.dK kvs)∧k=!kvs.isEmpty:=e
  rcases e' with⟨xs,hx,e'⟩|⟨xs,hx,e'⟩|⟨kvs,hx,e'⟩
  . subst e'
    obtain⟨its,r,pl,hz⟩:=I.list hx
    have hlen:=r.length
    exact wpAny_truthy_list pl.isList (by simp only[List.size_toArray];omega) ⟨H,I.tok _,by rw[sV r];exact q⟩
  . subst e'
    obtain⟨its,r,pl,hz⟩:=I.tuple hx
    have hlen:=r.length
    exact truthy_tuple pl (by simp only[List.size_toArray];omega) ⟨H,I.tok _,by rw[sV r];exact q⟩
  . subst e'
    obtain⟨hz,hS,vs,r,m⟩:kvs.length≤sizeLine∧(p == sysModules)=false∧∃vs,KV kvs vs∧s.heap.DictOf (pD X.prog X.w) p vs:=I.hok p _ hx
    have hlen:kvs.length=vs.length:=Paired.length r
    exact wpAny_truthy_dict hS m (by omega) ⟨H,I.tok _,by rw[ng r];exact q⟩
 |_=>exact(show False from e).elim
theorem fB(ha:PE X a ta)(he:∀whole,isTrue a X.env whole=(do let v ←whole;standAt a.pos;holding [v] (truthy v))) :
 PT X a (fun σ H Q=>ta σ H fun x H'=>∃k,fq X.K x H' k∧Q k H'):=by
 intro pins s σ H Q I h
 exact isTrue_plain (thn (ha pins s σ H _ I h) fun v s1 ⟨x,H1,I1,r1,q1⟩=>fX pins s1 σ H1 x v Q I1 r1 q1) (he _)
theorem nz:OpR X (binaryOp .Add) (fun x y H Q=>∃i j,x=.str i∧y=.str j∧i.length+j.length≤sizeLine∧Q (.str (i++j)) H):=by
 intro pins s σ H x y v u Q I rx ry h
 obtain⟨i,j,rfl,rfl,hz,q⟩:=h
 obtain⟨t,rfl⟩:=rx
 obtain⟨t',rfl⟩:=ry
 exact add_str (fun t' tk=>⟨.str (i++j),H,I.tok _,⟨_,rfl⟩,q⟩) hz
theorem vals1{x:V}{us:List Value}(r:Vals [x] us):∃u,us=[u]∧RelV x u:=by
 cases r with
 |cons r1 r2=>cases r2;exact⟨_,rfl,r1⟩
theorem vals2{x y:V}{us:List Value}(r:Vals [x,y] us):∃u w',us=[u,w']∧RelV x u∧RelV y w':=by
 cases r with
 |cons r1 r2=>
  cases r2 with
  |cons r3 r4=>cases r4;exact⟨_,_,rfl,r1,r3⟩
theorem kS(hc:X.calm=true):z6 X (.builtin "max") (fun xs H Q=>∃i j,xs=[.int i,.int j]∧Q (.int (if j > i then j else i)) H):=by
 intro pins s σ H xs us Q I r h
 obtain⟨i,j,rfl,q⟩:=h
 obtain⟨u,w',rfl,⟨t,rfl⟩,⟨t',rfl⟩⟩:=vals2 r
 refine max_two_ints (I.ok.hd hc) fun h' tk k=>⟨_,H,I.kept k,?_,q⟩
 by_cases hj:j > i
 . rw[if_pos hj,if_pos hj];exact⟨_,rfl⟩
 . rw[if_neg hj,if_neg hj];exact⟨_,rfl⟩
theorem kU(hc:X.calm=true):z6 X (.builtin "min") (fun xs H Q=>∃i j,xs=[.int i,.int j]∧Q (.int (if j<i then j else i)) H):=by
 intro pins s σ H xs us Q I r h
 obtain⟨i,j,rfl,q⟩:=h
 obtain⟨u,w',rfl,⟨t,rfl⟩,⟨t',rfl⟩⟩:=vals2 r
 refine min_two_ints (I.ok.hd hc) fun h' tk k=>⟨_,H,I.kept k,?_,q⟩
 by_cases hj:j<i
 . rw[if_pos hj,if_pos hj];exact⟨_,rfl⟩
 . rw[if_neg hj,if_neg hj];exact⟨_,rfl⟩
theorem qE:z6 X (.type "int") (fun xs H Q=>(∃i,xs=[.int i]∧Q (.int i) H)∨∃k,xs=[.bl k]∧Q (.int (if k then 1 else 0)) H):=by
 intro pins s σ H xs us Q I r h
 rcases h with⟨i,rfl,q⟩|⟨k,rfl,q⟩
 . obtain⟨u,rfl,t,rfl⟩:=vals1 r
   exact call_int_int ⟨.int i,H,I,⟨_,rfl⟩,q⟩
 . obtain⟨u,rfl,r1⟩:=vals1 r
   cases r1
   exact call_int_bool ⟨.int (if k then 1 else 0),H,I.tok _,⟨_,rfl⟩,q⟩
theorem qp:z6 X (.type "str") (fun xs H Q=>∃i,xs=[.int i]∧i.natAbs.log2<1920∧Q (.str (toString i)) H):=by
 intro pins s σ H xs us Q I r h
 obtain⟨i,rfl,hz,q⟩:=h
 obtain⟨u,rfl,t,rfl⟩:=vals1 r
 exact PySem.P.str_of_int hz ⟨.str _,H,I.tok _,⟨_,rfl⟩,q⟩
theorem vK:z6 X (.builtin "divmod") (fun xs H Q=>∃i j,xs=[.int i,.int j]∧bh i j∧∀p,H p=none→Q (.ref p) (upd H p (.tup [.int (i/j),.int (i%j)]))):=by
 intro pins s σ H xs us Q I r h
 obtain⟨i,j,rfl,⟨h1,h2⟩,q⟩:=h
 obtain⟨u,w',rfl,⟨t,rfl⟩,⟨t',rfl⟩⟩:=vals2 r
 refine divmod_int (by omega) ?_ (.inl (PyProof.noPylong_small (by omega)))
 rw[Int.fdiv_eq_ediv_of_nonneg i (by omega),Int.fmod_eq_emod_of_nonneg i (by omega)]
 have hn:H s.heap.objs.size=none:=I.hok.fresh (Nat.le_refl _)
 refine⟨.ref s.heap.objs.size,_,?_,rfl,q _ hn⟩
 refine I.laid (fun b o e=>Heap.get?_push_of_some _ e) (Nat.le_refl _) ⟨by simp only[List.length_cons,List.length_nil];rw[sizeLine_eq];decide,[.int (i/j) s.toks,.int (i%j) (s.toks+1)],.cons ⟨_,rfl⟩ (.cons ⟨_,rfl⟩ .nil),?_⟩
 exact⟨_,Heap.get?_push_size s.heap rfl,rfl,0,rfl,rfl⟩
end
end L2
namespace L2
open PySem PySem.Spec PyProof.Rows
structure bq(h:Heap)(x dx C:Addr)(mA:Str→Option Value):Prop where
 obj:h.get? x=some (PySem.W.instObj C dx)
 ns:h.Ns1 dx mA
 ne:dx≠x
theorem ky{h:Heap}{dx:Addr}{mA:Str→Option Value}(n:h.Ns1 dx mA):∃od,h.get? dx=some od∧∀name,PySem.W.lookIn name od=some (mA name):=by
 obtain⟨o,es,ep,ho,hd,hk,_,hm⟩:=n
 refine⟨o,ho,fun name=>?_⟩
 have e:=hm name
 unfold nsFind findBy at e
 rw[←Array.find?_toList]at e
 unfold PySem.W.lookIn
 rw[hd]
 dsimp only
 split
 . rename_i y q
   rw[q]at e
   exact congrArg some e
 . rename_i q
   rw[q]at e
   have a:es.toList.any (·.refKey)=false:=by
    rw[List.any_eq_false]
    intro y hy
    obtain⟨z,t,hkey⟩:=hk y (Array.mem_toList_iff.mp hy)
    simp[DictEntry.refKey,hkey]
   have a':¬es.toList.any (·.refKey)=true:=by rw[a];exact Bool.false_ne_true
   rw[if_neg a']
   exact congrArg some e
theorem bq.look{h:Heap}{x dx C:Addr}{mA:Str→Option Value}(I:bq h x dx C mA):∃od,PySem.W.InstAt h x (PySem.W.instObj C dx) C (some od)∧∀name,PySem.W.lookIn name od=some (mA name):=
 let ⟨od,ho,hl⟩:=ky I.ns
 ⟨od,⟨I.obj,rfl,rfl,ho⟩,hl⟩
section
variable {P:Program}{w:World}{H H':Hp}{h h':Heap}{a C dx:Addr}{fs fs':List (Str × V)}
theorem eJ(hok:HOk P w H h)(e:H a=some (.ins C dx fs)):∃mA,bq h a dx C mA∧(∀f,bt (fs.lookup f) (mA f))∧PySem.Within mA (fs.map (·.1))∧fs.length≤1000∧H dx=some (.own a):=by
 obtain⟨d,z,ne,ob,mA,n,r,q⟩:=(show zy P w H h a (.ins C dx fs) from hok a _ e)
 exact⟨mA,⟨ob,n,ne⟩,r,q,z,d⟩
end
structure Cls(K:PySem.W.Frag)(C:Addr):Prop where
 pg:PySem.W.plainGet K C Str.empty=true
 hd:PySem.W.hasDictIn K C=true
 po:PySem.W.plainOver K C=true
 sa:PySem.W.findIn K (.ref C) "__setattr__"=some (some (.builtin "object.__setattr__"))
theorem Cls.get{K:PySem.W.Frag}{C:Addr}(c:Cls K C)(f:Str):PySem.W.plainGet K C f=true:=c.pg
section
variable {X:Cx}{pins:List (Addr × Obj)}{σ:St}{H:Hp}{s:Shared}{A:Around}{E:Value→Shared→Prop}{Q:Value→Shared→Prop}{c:Value}{b:Bool}
inductive uH(K:PySem.W.Frag)(H:Hp):V→Value→Prop where
 |non:uH K H .non (.type "NoneType")
 |bl (x:Bool):uH K H (.bl x) (.type "bool")
 |int (i:Int):uH K H (.int i) (.type "int")
 |str (x:Str):uH K H (.str x) (.type "str")
 |flt (x:UInt64):uH K H (.flt x) (.type "float")
 |lst {a:Addr} {xs:List V} (e:H a=some (.lst xs)):uH K H (.ref a) (.type "list")
 |frz {a:Addr} {o:Obj} {xs:List V} (e:H a=some (.frz o (.lst xs))):uH K H (.ref a) (.type "list")
 |tup {a:Addr} {xs:List V} (e:H a=some (.tup xs)):uH K H (.ref a) (.type "tuple")
 |dK {a:Addr} {kvs:List (Key × V)} (e:H a=some (.dK kvs)):uH K H (.ref a) (.type "dict")
 |dT {a:Addr} {kvs:List (List Key × V)} (e:H a=some (.dT kvs)):uH K H (.ref a) (.type "dict")
 |ins {a C dx:Addr} {fs:List (Str × V)} (e:H a=some (.ins C dx fs)) (cl:Cls K C) (ha:PySem.W.findIn K (.ref C) "__class__"=some (some (.builtin "object.__class__")))
  (hn:PySem.W.specialIn K (.builtin "object.__class__") "__get__"=some (some (.builtin "getset_descriptor.__get__"))) (htk:PySem.W.takesIn K (.builtin "object.__class__")=some true)
  (hm:PySem.W.mroIn K C (.type "object")=some true):uH K H (.ref a) (.ref C)
theorem kf{x:V}{u t:Value}(I:Inv X pins σ H s)(rx:RelV x u)(ty:uH X.K H x t)(e:PySem.W.kitOne X.K t c=some b)(h:∀tk,Q (.bool b) {s with toks:=tk}) :
 wpAny (model X.prog X.w) A (call (.builtin "isinstance") [u,c]) Q E s:=by
 cases ty with
 |non=>cases (show u=Value.none from rx);exact PySem.W.kia_one PySem.W.kitx_none I.kIn True.intro e (fun z=>nomatch z) h
 |bl y=>cases (show u=Value.bool y from rx);exact PySem.W.kia_one PySem.W.kitx_bool I.kIn True.intro e (fun z=>nomatch z) h
 |int i=>obtain⟨t,q⟩:=(show ∃t,u=Value.int i t from rx);cases q;exact PySem.W.kia_one PySem.W.kitx_int I.kIn True.intro e (fun z=>nomatch z) h
 |str y=>obtain⟨t,q⟩:=(show ∃t,u=Value.str y t from rx);cases q;exact PySem.W.kia_one PySem.W.kitx_str I.kIn True.intro e (fun z=>nomatch z) h
 |flt y=>obtain⟨t,q⟩:=(show ∃t,u=Value.float y t from rx);cases q;exact PySem.W.kia_one PySem.W.kitx_float I.kIn True.intro e (fun z=>nomatch z) h
 |@lst a xs ea=>
  cases (show u=Value.ref a from rx)
  obtain⟨_,_,n,_,h1⟩:=(show zy X.prog X.w H s.heap a (.lst xs) from I.hok a _ ea)
  exact PySem.W.kia_one PySem.W.kitx_list I.kIn ⟨_,h1,rfl⟩ e (fun z=>nomatch z) h
 |@frz a ob xs ea=>
  cases (show u=Value.ref a from rx)
  obtain⟨_,_,_,n,_,h1⟩:=(show zy X.prog X.w H s.heap a (.frz ob (.lst xs)) from I.hok a _ ea)
  exact PySem.W.kia_one PySem.W.kitx_list I.kIn ⟨_,h1,rfl⟩ e (fun z=>nomatch z) h
 |@tup a xs ea=>
  cases (show u=Value.ref a from rx)
  obtain⟨_,_,_,p⟩:=(show zy X.prog X.w H s.heap a (.tup xs) from I.hok a _ ea)
  obtain⟨o,h1,h2,_⟩:=p
  exact PySem.W.kia_one PySem.W.kitx_tuple I.kIn ⟨o,h1,h2⟩ e (fun z=>nomatch z) h
 |@dK a kvs ea=>
  cases (show u=Value.ref a from rx)
  obtain⟨_,_,vs,_,p⟩:=(show zy X.prog X.w H s.heap a (.dK kvs) from I.hok a _ ea)
  obtain⟨o,es,ep,h1,h2,_⟩:=p
  exact PySem.W.kia_one PySem.W.kitx_dict I.kIn ⟨o,h1,h2.1⟩ e (fun z=>nomatch z) h
 |@dT a kvs ea=>
  cases (show u=Value.ref a from rx)
  obtain⟨_,_,xs,_,o,es,ep,h1,h2,_⟩:=(show zy X.prog X.w H s.heap a (.dT kvs) from I.hok a _ ea)
  exact PySem.W.kia_one PySem.W.kitx_dict I.kIn ⟨o,h1,h2.1⟩ e (fun z=>nomatch z) h
 |@ins a C dx fs ea cl ha hn htk hm=>
  cases (show u=Value.ref a from rx)
  obtain⟨mA,O,_⟩:=eJ I.hok ea
  obtain⟨od,J,_⟩:=O.look
  exact PySem.W.kia_one (PySem.W.kitx_own (cl.get _) cl.hd ha hn htk hm) I.kIn J e (fun z=>nomatch z) h
end
end L2
namespace L2
open PySem PySem.Spec PyProof.Rows
structure xG(k:Nat)(A:Around):Prop where
 hd:A.handled=none
 dp:A.depth+3*k+5<recursionLimit
 un:A.units+16*k+200<cLine
 gd:A.guards=some []
theorem xG.deeper{k:Nat}{A:Around}(r:xG (k+1) A)(env:Env):xG k (A.deeper env):=
 ⟨r.hd,by have:=r.dp;show A.depth+1+3*k+5<_;omega,by have:=r.un;show A.units+3+16*k+200<_;omega,r.gd⟩
theorem xG.depth{k:Nat}{A:Around}(r:xG k A):A.depth<recursionLimit:=by have:=r.dp;omega
noncomputable def jz:TA:=fun _ H Q=>Q [] H
noncomputable def qX(ta:TE)(tr:TA):TA:=fun σ H Q=>ta σ H fun x H1=>tr σ H1 fun xs H2=>Q (x::xs) H2
section
variable {X:Cx}{e:Expr}{es:List Expr}{te:TE}{t:TA}{pos:Pos}
theorem vR:PA X [] jz:=fun _ _ _ _ H Q I h=>Calls.spliced_nil ⟨[],H,I,.nil,h⟩
theorem dU(ha:PE X e te)(hr:PA X es t)(hs:starEach (e::es) X.env=(false,eval e X.env)::starEach es X.env:=by rfl):PA X (e::es) (qX te t):=by
 intro pos pins s σ H Q I h
 rw[hs]
 show wpAny _ _ (spliced ((false,eval e X.env)::backTo pos (starEach es X.env))) _ _ s
 refine Calls.spliced_cons (thn (ha pins s σ H _ I h) fun u s1 ⟨x,H1,I1,r1,q1⟩=>?_)
 exact thn (hr pos pins s1 σ H1 _ I1 q1) fun us s2 ⟨xs,H2,I2,r2,q2⟩=>⟨x::xs,H2,I2,.cons r1 r2,q2⟩
noncomputable def Wj(t:TA):TE:=fun σ H Q=>t σ H fun xs H1=>xs.length≤sizeLine∧∀p,H1 p=none→Q (.ref p) (upd H1 p (.tup xs))
noncomputable def We(t:TA):TE:=fun σ H Q=>t σ H fun xs H1=>xs.length≤sizeLine∧∀p,H1 p=none→Q (.ref p) (upd H1 p (.lst xs))
theorem Zs{x1}(h:PA X es t):PE X (.Tuple es x1 pos) (Wj t):=by
 intro pins s σ H Q I hq
 refine wpAny_Tuple_spliced (thn (h pos pins s σ H _ I hq) fun us s1 ⟨xs,H1,I1,r,z,q⟩=>⟨by rw[←r.length];exact z,?_⟩)
 have hf:H1 s1.heap.objs.size=none:=I1.hok.fresh (Nat.le_refl _)
 refine⟨.ref s1.heap.objs.size,upd H1 s1.heap.objs.size (.tup xs),I1.laid (t':=s1.toks) (fun b u e=>Heap.get?_push_of_some _ e) (Nat.le_refl _) ?_,rfl,q _ hf⟩
 exact⟨z,us,r,⟨_,Heap.get?_push_size _ rfl,rfl,_,rfl,rfl⟩⟩
theorem Zn(h:PA X es t):PE X (.List es pos) (We t):=by
 intro pins s σ H Q I hq
 refine wpAny_List_spliced (thn (h pos pins s σ H _ I hq) fun us s1 ⟨xs,H1,I1,r,z,q⟩=>⟨by rw[←r.length];exact z,?_⟩)
 have hf:H1 s1.heap.objs.size=none:=I1.hok.fresh (Nat.le_refl _)
 refine⟨.ref s1.heap.objs.size,upd H1 s1.heap.objs.size (.lst xs),I1.laid (t':=s1.toks) (fun b u e=>Heap.get?_push_of_some _ e) (Nat.le_refl _) ?_,rfl,q _ hf⟩
 exact⟨z,us,0,r,Heap.get?_push_size _ rfl⟩
end
noncomputable abbrev Sp:=List V→Hp→VK→XK→Prop
noncomputable abbrev CXT:=List Env→Hp→Shared→XK→Value→Shared→Prop
structure fm(P:Program)(w:World)(K:PySem.W.Frag)(mg:Str→Option Value)(base:Heap)(A:Around)(outer:List Env)(s:Shared)(H:Hp):Prop where
 frames:A.frames=some outer
 mod:Mod K mg base
 bs:∀b o,base.get? b=some o→s.heap.get? b=some o∧H b=none
 bsz:base.objs.size≤s.heap.objs.size
 sT:s.heap.FunFrames base outer
 frf:∀b∈frs outer,H b=none
 hok:HOk P w H s.heap
 bare:AllBare s.gens
def CE(outer:List Env)(P:Program)(w:World)(H:Hp)(s:Shared)(Q:VK)(u:Value)(s':Shared):Prop:=
 ∃v H',s'.os=s.os∧AllBare s'.gens∧Un (frs outer) [] H H' s.heap s'.heap∧HOk P w H' s'.heap∧RelV v u∧Q v H'
def CR(CX:CXT)(outer:List Env)(P:Program)(w:World)(H:Hp)(s:Shared)(Q:VK)(E:XK)(r:Result)(s':Shared):Prop:=
 match r with
 |.ok (.ret u)=>CE outer P w H s Q u s'
 |.ok _=>False
 |.error e=>CX outer H s E e s'
structure tY(P:Program)(w:World)(K:PySem.W.Frag)(mg:Str→Option Value)(base:Heap)(CX:CXT)(k:Nat)(f:Addr)(fd:FuncData)(ps:List Str)(sp:Sp):Prop where
 len:∀vs H Q E,sp vs H Q E→vs.length=ps.length
 run:∀(A:Around) (outer:List Env) (s:Shared) (H:Hp) (args:Args) (us:List Value) (vs:List V) (Q:VK) (E:XK),xG k A→fm P w K mg base A outer s H→BindsTo s fd args (ps.zip us)→Vals vs us→sp vs H Q E →
  codeAny (model P w) A (.call (.ref f) args) (CR CX outer P w H s Q E) s
theorem tY.imp{P:Program}{w:World}{K:PySem.W.Frag}{mg:Str→Option Value}{base:Heap}{CX:CXT}{k:Nat}{f:Addr}{fd:FuncData}{ps:List Str}{sp sp':Sp}(F:tY P w K mg base CX k f fd ps sp)
 (h:∀vs H Q E,sp' vs H Q E→sp vs H Q E):tY P w K mg base CX k f fd ps sp':=
 ⟨fun vs H Q E q=>F.len vs H Q E (h _ _ _ _ q),fun A outer s H args us vs Q E hr he hb hv hs=>F.run A outer s H args us vs Q E hr he hb hv (h _ _ _ _ hs)⟩
section
variable {X:Cx}{pins:List (Addr × Obj)}{σ:St}{H:Hp}{s s':Shared}
theorem Inv.WH(I:Inv X pins σ H s):fm X.prog X.w X.K X.mg X.base X.A X.stack s H:=
 ⟨I.ok.frames,I.ok.mod,I.bs,Nat.le_trans I.ok.bsz I.sz,I.stack,I.kC,I.hok,I.bare⟩
theorem Inv.after{Q:VK}{u:Value}(I:Inv X pins σ H s)(h:CE X.stack X.prog X.w H s Q u s'):EP X pins σ Q u s':=by
 obtain⟨v,H',os,bare,un,hok,r,q⟩:=h
 obtain⟨hh,g,d,t,os'⟩:=s'
 obtain rfl:os'=s.os:=os
 exact⟨v,H',I.call (h':=hh) (g':=g) (d':=d) (t':=t) (ch:=[]) un hok bare (fun b z=>absurd z (by simp)),r,q⟩
end
noncomputable def bX(sp:Sp)(dvs:List V)(E:XK)(t:TA):TE:=fun σ H Q=>t σ H fun vs H1=>sp (vs++dvs) H1 Q E
def Binds(K:PySem.W.Frag)(fd:FuncData)(ps:List Str)(ds:List Value):Prop:=
 ∀(s:Shared) (us:List Value),K.In s.heap→(us++ds).length=ps.length→BindsTo s fd ⟨us,[]⟩ (ps.zip (us++ds))
theorem Binds.all{K:PySem.W.Frag}{fd:FuncData}{ps:List Str}(h:∀us:List Value,us.length=ps.length→bindArgs fd ⟨us,[]⟩=pure (ps.zip us)):Binds K fd ps []:=fun s us _ hl=>by
 rw[List.append_nil]at hl ⊢
 exact .of_eq (h us hl)
def Passes(CX:CXT)(X:Cx)(E:XK):Prop:=∀(pins:List (Addr × Obj)) (σ:St) (H:Hp) (s:Shared) (e:Value) (s':Shared),Inv X pins σ H s→CX X.stack H s E e s'→X.xe e s'
section
variable {X:Cx}{CX:CXT}{k:Nat}{f C:Addr}{fd:FuncData}{ps:List Str}{sp:Sp}{dvs:List V}{ds:List Value}{E:XK}{x m:Str}{p pos apos:Pos}{e o:Expr}{es:List Expr}{ta:TE}{t:TA}
theorem fK{pins:List (Addr × Obj)}{σ:St}{H:Hp}{s:Shared}{Q:VK}{us:List Value}{vs:List V}(F:tY X.prog X.w X.K X.mg X.base CX k f fd ps sp)(hr:xG k X.A)(hb:Binds X.K fd ps ds)(hd:Vals dvs ds)(hx:Passes CX X E)
 (I:Inv X pins σ H s) (r:Vals vs us) (h:sp (vs++dvs) H Q E):wpAny (model X.prog X.w) X.A (call (.ref f) us) (EP X pins σ Q) X.xe s:=by
 have r2:Vals (vs++dvs) (us++ds):=r.append hd
 have hl:(us++ds).length=ps.length:=by rw[←r2.length];exact F.len _ _ _ _ h
 refine wpAny_call (codeAny_mono (F.run X.A X.stack s H ⟨us,[]⟩ (us++ds) (vs++dvs) Q E hr I.WH (hb s us I.kIn hl) r2 h) fun r s' hq=>?_)
 cases r with
 |error e=>exact hx pins σ H s e s' I hq
 |ok fl=>
  cases fl with
  |ret u=>exact I.after hq
  |next=>exact False.elim hq
  |brk=>exact False.elim hq
  |cont=>exact False.elim hq
theorem dY(F:tY X.prog X.w X.K X.mg X.base CX k f fd ps sp)(hr:xG k X.A)(hg:Gl X x)(hm:X.mg x=some (.ref f))(hk:PySem.W.keepIn X.K (.ref f)=true)(hb:Binds X.K fd ps ds)(hd:Vals dvs ds)(hx:Passes CX X E)
 (ha:PA X (e::es) t) (hdb:(x == ("__debug__":Str))=false:=by decide) (he:starEach (e::es) X.env=(false,eval e X.env)::starEach es X.env:=by rfl) (hpl:(backTo pos (starEach es X.env)).any (·.1)=false:=by rfl) :
 PE X (.Call (.Name x p) (e::es) [] pos) (bX sp dvs E t):=by
 intro pins s σ H Q I h
 refine wpAny_Call_Name_kw (pC I hg hm ?_ hdb)
 refine PySem.W.callWith_K (h₀:=X.base) I.ok.mod.kin hk (thn (ha pos pins s σ H _ I h) fun us s1 ⟨vs,H1,I1,r,q⟩=>⟨I1.kIn,?_⟩) he hpl
 exact fK F hr hb hd hx I1 r q
theorem gj(F:tY X.prog X.w X.K X.mg X.base CX k f fd ps sp)(hr:xG k X.A)(hg:Gl X x)(hm:X.mg x=some (.ref f))(hk:PySem.W.keepIn X.K (.ref f)=true)(hb:Binds X.K fd ps ds)(hd:Vals dvs ds)(hx:Passes CX X E)
 (hdb:(x == ("__debug__":Str))=false:=by decide):PE X (.Call (.Name x p) [] [] pos) (bX sp dvs E jz):=by
 intro pins s σ H Q I h
 refine wpAny_Call_Name_kw (pC I hg hm ?_ hdb)
 exact PySem.W.callWith_K0 I.kIn hk (fK (us:=[]) F hr hb hd hx I .nil h)
end
structure tx(N P:List Str)(sc:Scope):Prop where
 kind:sc.kind=.function
 co:sc.isCoroutine=false
 gen:sc.isGenerator=false
 nd:N.Nodup
 pre:N.take P.length=P
 par:∀x∈P,sc.names.lookup x=some .local∨sc.names.lookup x=some .cell
 nofree:∀y∈sc.names,y.2≠.free
theorem qA{kindOf:Str→Option NameKind}{x:Str}:∀{binds:List (Str × Value)} {m:Str→Option Value},(∀v,(x,v) ∉ binds)→bindL kindOf binds m x=m x
 |[],_,_=>rfl
 |(n,v)::r,m,h=>by
  unfold bindL
  rw[qA fun w hw=>h w (List.mem_cons_of_mem _ hw)]
  split
  . have:x≠n:=by rintro rfl;exact h v List.mem_cons_self
    simp[this]
  . rfl
theorem r8{kindOf:Str→Option NameKind}{x:Str}:∀{binds:List (Str × Value)} {m:Str→Option Value},(∀v,(x,v) ∉ binds)→bindC kindOf binds m x=m x
 |[],_,_=>rfl
 |(n,v)::r,m,h=>by
  unfold bindC
  rw[r8 fun w hw=>h w (List.mem_cons_of_mem _ hw)]
  split
  . rfl
  . have:x≠n:=by rintro rfl;exact h v List.mem_cons_self
    simp[this]
theorem r9{kindOf:Str→Option NameKind}{x:Str}{v:Value}:∀{P:List Str} {vs:List Value} {i:Nat} {m:Str→Option Value},P.Nodup→P[i]?=some x→vs[i]?=some v→kindOf x=some .local →
 bindL kindOf (P.zip vs) m x=some v
 |[],_,_,_,_,h,_,_=>by simp at h
 |_::_,[],_,_,_,_,h,_=>by simp at h
 |p::P,w::vs,0,m,nd,h1,h2,hk=>by
  simp at h1 h2;subst h1;subst h2
  show bindL kindOf ((p,w)::P.zip vs) m p=_
  unfold bindL
  rw[qA fun v hv=>(List.nodup_cons.mp nd).1 (List.of_mem_zip hv).1,if_pos hk]
  simp
 |p::P,w::vs,i+1,m,nd,h1,h2,hk=>by
  show bindL kindOf ((p,w)::P.zip vs) m x=_
  unfold bindL
  exact r9 (i:=i) (List.nodup_cons.mp nd).2 (by simpa using h1) (by simpa using h2) hk
theorem r0{kindOf:Str→Option NameKind}{x:Str}{v:Value}:∀{P:List Str} {vs:List Value} {i:Nat} {m:Str→Option Value},P.Nodup→P[i]?=some x→vs[i]?=some v→kindOf x≠some .local →
 bindC kindOf (P.zip vs) m x=some v
 |[],_,_,_,_,h,_,_=>by simp at h
 |_::_,[],_,_,_,_,h,_=>by simp at h
 |p::P,w::vs,0,m,nd,h1,h2,hk=>by
  simp at h1 h2;subst h1;subst h2
  show bindC kindOf ((p,w)::P.zip vs) m p=_
  unfold bindC
  rw[r8 fun v hv=>(List.nodup_cons.mp nd).1 (List.of_mem_zip hv).1,if_neg hk]
  simp
 |p::P,w::vs,i+1,m,nd,h1,h2,hk=>by
  show bindC kindOf ((p,w)::P.zip vs) m x=_
  unfold bindC
  exact r0 (i:=i) (List.nodup_cons.mp nd).2 (by simpa using h1) (by simpa using h2) hk
noncomputable def start(N:List Str)(vs:List V):St:=vs.map some++List.replicate (N.length-vs.length) none
noncomputable def nV(CX:CXT)(P:Program)(w:World)(K:PySem.W.Frag)(mg:Str→Option Value)(base:Heap)(N:List Str)(qual:Str)(scope:Scope)(f:Addr)(cd:Value)(A:Around)(outer:List Env)(s:Shared)(H:Hp)(E:XK):Cx where
 prog:=P
 w:=w
 K:=K
 mg:=mg
 base:=base
 A:=A.deeper (envOfC qual scope s.heap.objs.size f cd)
 N:=N
 s₀:=s
 H₀:=H
 env:=envOfC qual scope s.heap.objs.size f cd
 outer:=outer
 stack:=envOfC qual scope s.heap.objs.size f cd::outer
 ex:=[]
 calm:=true
 fn:=fun _=>true
 pn:=[]
 xe:=fun e s'=>wpAny (model P w) (A.deeper (envOfC qual scope s.heap.objs.size f cd)) (leaving (envOfC qual scope s.heap.objs.size f cd) e) (fun _ s''=>CX outer H s E e s'') (fun e' s''=>CX outer H s E e' s'') s'
theorem p9{sc:Scope}{n:Nat}{x:Str}(h:sc.names.lookup x=some .cell):∃c,(cellsFrom n sc.names []).lookup x=some c:=by
 have q:=PySem.W.cellsFrom_some sc.names n [] (.inl h)
 exact Option.isSome_iff_exists.mp q
theorem ke{CX:CXT}{P:Program}{w:World}{K:PySem.W.Frag}{mg:Str→Option Value}{base:Heap}{N ps:List Str}{qual:Str}{scope:Scope}{f:Addr}{cd:Value}{A:Around}{outer:List Env}{s s1:Shared}{H:Hp}{E:XK}{us:List Value}{vs:List V}
 (S:tx N ps scope) (hd:A.handled=none) (e0:fm P w K mg base A outer s H) (hl:vs.length=ps.length) (r:Vals vs us)
 (x:InCallC s s.heap.objs.size (bindL (envOfC qual scope s.heap.objs.size f cd).kindOf (ps.zip us) fun _=>none) (cellsFrom (s.heap.objs.size+1) scope.names []) (bindC (envOfC qual scope s.heap.objs.size f cd).kindOf (ps.zip us) fun _=>none) s1) :
 Inv (nV CX P w K mg base N qual scope f cd A outer s H E) [] (start N vs) H s1:=by
 have hpl:ps.length≤N.length:=by have:=congrArg List.length S.pre;rw[List.length_take]at this;omega
 obtain⟨h1,tk,rfl,hk⟩:=x.done
 have noA:∀b:Addr,b ∉ (nV CX P w K mg base N qual scope f cd A outer s H E).ex:=fun b z=>absurd (show b∈([]:List Addr) from z) (by simp)
 refine⟨⟨e0.mod,S.kind,rfl,rfl,Nat.le_refl _,fun y z c h1 h2=>?_,fun y hy=>?_,fun y c _ h=>?_,fun _=>hd,Around.frames_deeper e0.frames,.inr ⟨rfl,rfl⟩,fun b z=>absurd z (noA b),e0.bs,e0.bsz,fun b _ _=>noA b,fun b z=>absurd z (noA b),e0.sT,e0.frf⟩,
  rfl,e0.bare,Un.kept hk,⟨_,x.toInCall.ns,fun i y v h1 h2 h3=>?_⟩,fun y c h=>⟨_,x.cell y c h⟩,e0.hok.fresh (Nat.le_refl _),fun y c h=>?_,fun p hp=>absurd (show p∈([]:List (Addr × Obj)) from hp) (by simp),e0.hok.kept hk,?_⟩
 . exact name_of_addr x.apart (PySem.mem_of_lookup h1) (PySem.mem_of_lookup h2)
 . have hy:scope.names.lookup y=some .cell∨scope.names.lookup y=some .free:=hy
   rcases hy with hy|hy
   . exact p9 hy
   . exact absurd rfl (S.nofree _ (PySem.mem_of_lookup hy))
 . exact Nat.le_of_lt (x.above y c (PySem.mem_of_lookup h))
 . have hi:i<vs.length:=by
    unfold start at h2
    by_cases hi:i<vs.length
    . exact hi
    . rw[List.getElem?_append_right (by simpa using hi)]at h2
      rw[List.getElem?_replicate]at h2
      split at h2<;>cases h2
   have ha:vs[i]?=some v:=by
    unfold start at h2
    rw[List.getElem?_append_left (by simpa using hi),List.getElem?_map]at h2
    cases e:vs[i]? with
    |none=>rw[e]at h2;cases h2
    |some a=>rw[e]at h2;cases h2;rfl
   obtain⟨u,hu,rv⟩:=r.get ha
   have hp:ps[i]?=some y:=by
    rw[←S.pre,List.getElem?_take_of_lt (by omega)];exact h1
   have ndP:ps.Nodup:=by rw[←S.pre];exact S.nd.sublist (List.take_sublist _ _)
   refine⟨u,rv,?_⟩
   rcases S.par y (List.mem_of_getElem? hp) with k|k
   . exact .inl ⟨k,r9 ndP hp hu k⟩
   . obtain⟨c,e⟩:=p9 (n:=s.heap.objs.size+1) k
     refine .inr ⟨.inl k,c,e,?_⟩
     have q:=x.cell y c e
     rw[r0 ndP hp hu (by show scope.names.lookup y≠_;rw[k];decide)]at q
     exact q
 . exact e0.hok.fresh (Nat.le_of_lt (x.above y c (PySem.mem_of_lookup h)))
 . unfold start
   show _=N.length
   rw[List.length_append,List.length_map,List.length_replicate]
   omega
theorem YW{CX:CXT}{P:Program}{w:World}{K:PySem.W.Frag}{mg:Str→Option Value}{base:Heap}{k:Nat}{f:Addr}{name qual:Str}{params:Arguments}{body:List Stmt}{scope:Scope}{dV kV doc pm cdv ct oc:Value}{an od:Option Addr}
 {osl:Array (Option Value)} {N ps:List Str} {sp:Sp} (lk:K.lookup f=some ⟨oc,od,.func (PySem.W.fnOf name qual params body scope dV kV doc pm an cdv ct),osl⟩) (hcd:PySem.W.codeIn K cdv qual=true) (S:tx N ps scope)
 (len:∀vs H Q E,sp vs H Q E→vs.length=ps.length)
 (hbody:∀(A:Around) (outer:List Env) (s:Shared) (H:Hp) (vs:List V) (Q:VK) (E:XK),xG k (A.deeper (envOfC qual scope s.heap.objs.size f cdv))→sp vs H Q E →
  ∃t,PSs (nV CX P w K mg base N qual scope f cdv A outer s H E) body t∧t {nx:=fun _ H'=>Q .non H',rt:=Q} (start N vs) H) :
 tY P w K mg base CX (k+1) f (PySem.W.fnOf name qual params body scope dV kV doc pm an cdv ct) ps sp:=by
 refine⟨len,fun A outer s H args us vs Q E hr e0 hb r hsp=>?_⟩
 have hl:=len _ _ _ _ hsp
 have KX:K.In s.heap:=e0.mod.kin.keeps fun b o e=>(e0.bs b o e).1
 have lim:s.heap.NoLimit:=e0.mod.nolimit.keeps fun b o e=>(e0.bs b o e).1
 have hkind:∀y∈ps.zip us,scope.names.lookup y.1=some .local∨(scope.names.lookup y.1=some .cell∧((cellsFrom (s.heap.objs.size+1) scope.names []).lookup y.1).isSome=true):=fun⟨n,v⟩ hy=>by
  rcases S.par n (List.of_mem_zip hy).1 with q|q
  . exact .inl q
  . exact .inr ⟨q,PySem.W.cellsFrom_some _ _ _ (.inl q)⟩
 refine codeAny_call_function hr.depth (KX _ _ lk) rfl S.co S.gen rfl (PySem.W.codeRec_of KX hcd) (hb _ _ _ _ ?_)
 refine wpAny_newFunctionEnv_cells S.kind hkind fun env he s1 x=>?_
 subst he
 refine⟨lim.keeps x.toInCall.keep,codeAny_func ?_⟩
 obtain⟨t,ht,hq⟩:=hbody A outer s H vs Q E (hr.deeper _) hsp
 have I:Inv (nV CX P w K mg base N qual scope f cdv A outer s H E) [] (start N vs) H s1:=ke S hr.hd e0 hl r x
 refine wpAny_mono (ht [] s1 (start N vs) H _ I hq) (fun fl s' hs=>?_) fun e s' hs=>hs
 have fin:∀{σ':St} {H':Hp} {v:V} {u:Value},Inv (nV CX P w K mg base N qual scope f cdv A outer s H E) [] σ' H' s'→RelV v u→Q v H'→CE outer P w H s Q u s':=
  fun{σ' H' v u} J rv q=>⟨v,H',J.os,J.bare,J.base,J.hok,rv,q⟩
 cases fl with
 |ret u=>
  obtain⟨v,σ',H',J,rv,q⟩:=hs
  exact fin J rv q
 |next=>
  obtain⟨σ',H',J,q⟩:=hs
  exact fin (v:=V.non) (u:=Value.none) J rfl q
 |brk=>
  obtain⟨_,_,_,q⟩:=hs
  exact False.elim q
 |cont=>
  obtain⟨_,_,_,q⟩:=hs
  exact False.elim q
end L2
namespace L2
open PySem PySem.Spec PyProof.Rows
section
variable {X:Cx}{x:Str}{p pos:Pos}{e:Expr}{es:List Expr}{t:TA}{id T:String}{r:List V→Hp→VK→Prop}
noncomputable def tCB(r:List V→Hp→VK→Prop)(t:TA):TE:=fun σ H Q=>t σ H fun vs H1=>r vs H1 Q
theorem gk(hc:z6 X (.builtin id) r)(hg:Gl X x)(hm:X.mg x=none)(hv:bootBuiltins x=some (.builtin id))(ha:PA X (e::es) t)(hn:x≠"__name__":=by decide)(hdb:(x == ("__debug__":Str))=false:=by decide)
 (he:starEach (e::es) X.env=(false,eval e X.env)::starEach es X.env:=by rfl) (hpl:(backTo pos (starEach es X.env)).any (·.1)=false:=by rfl):PE X (.Call (.Name x p) (e::es) [] pos) (tCB r t):=by
 intro pins s σ H Q I h
 refine wpAny_Call_Name_kw (tB I hg hm hv ?_ hn hdb)
 exact PyProof.Rows.callWith_builtin1 (thn (ha pos pins s σ H _ I h) fun us s1 ⟨vs,H1,I1,r1,q1⟩=>hc pins s1 σ H1 vs us Q I1 r1 q1) he hpl
theorem vj(hc:z6 X (.type T) r)(hg:Gl X x)(hm:X.mg x=none)(hv:bootBuiltins x=some (.type T))(ha:PA X (e::es) t)(hn:x≠"__name__":=by decide)(hdb:(x == ("__debug__":Str))=false:=by decide)
 (he:starEach (e::es) X.env=(false,eval e X.env)::starEach es X.env:=by rfl) (hpl:(backTo pos (starEach es X.env)).any (·.1)=false:=by rfl):PE X (.Call (.Name x p) (e::es) [] pos) (tCB r t):=by
 intro pins s σ H Q I h
 refine wpAny_Call_Name_kw (tB I hg hm hv ?_ hn hdb)
 exact PyProof.Rows.callWith_type1 (thn (ha pos pins s σ H _ I h) fun us s1 ⟨vs,H1,I1,r1,q1⟩=>hc pins s1 σ H1 vs us Q I1 r1 q1) he hpl
end
end L2
namespace HT
open PySem PyProof.Rows
section
variable {prog:Program}{w:World}{A:Around}{E:Value→Shared→Prop}{s:Shared}
theorem eB{t b:Addr}{vs ws:List Value}{Q:Value→Shared→Prop}(ht:IsTup s.heap t vs.toArray)(hb:IsTup s.heap b ws.toArray)(hv:vs≠[])
 (h1:ws=[]→Q (.ref t) s) (h2:ws≠[]→Q (.ref s.heap.objs.size) {s with heap:=s.heap.push {cls:=.type "tuple",data:=.seq (vs++ws).toArray}})
 (hsz:vs.length+ws.length≤sizeLine):wpAny (model prog w) A (binaryOp .Add (.ref t) (.ref b)) Q E s:=by
 obtain⟨⟨cls,dd,data,sl⟩,ho,hc,n,hd⟩:=id ht
 obtain⟨⟨cls2,dd2,data2,sl2⟩,ho2,hc2,n2,hd2⟩:=id hb
 simp only at hc hd hc2 hd2
 subst hc hd hc2 hd2
 have e:vs.toArray++ws.toArray=(vs++ws).toArray:=by simp
 by_cases hw:ws=[]
 . exact concat_meets ⟨_,ho,rfl⟩ ⟨_,ho2,rfl⟩ noFill_tuple_add seq_tuple_add PySem.F.slot_tuple_add PySem.F.entry_tuple_add (PySem.F.args_tuple_add_2 _ _)
    (tuple_addW1 t b vs.toArray ws.toArray n n2 dd dd2 sl sl2 (by simpa using hv) (by simp[hw])) ⟨ho,ho2,h1 hw⟩
 . refine concat_meets ⟨_,ho,rfl⟩ ⟨_,ho2,rfl⟩ noFill_tuple_add seq_tuple_add PySem.F.slot_tuple_add PySem.F.entry_tuple_add (PySem.F.args_tuple_add_2 _ _)
    (tuple_addW2 t b vs.toArray ws.toArray n n2 dd dd2 sl sl2 (by simpa using hv) (by simpa using hw) (by rw[List.size_toArray,List.size_toArray];exact hsz)) ⟨ho,ho2,?_⟩
   rw[e]
   exact h2 hw
noncomputable def sIx(n d:Nat):Option Int→Nat
 |none=>d
 |some v=>if v<0 then (v+(n:Int)).toNat else min v.toNat n
theorem kB(n d k:Nat):sIx n d (some (k:Int))=min k n:=by
 show (if (k:Int)<0 then ((k:Int)+(n:Int)).toNat else min (k:Int).toNat n)=min k n
 rw[if_neg (by omega),Int.toNat_natCast]
theorem Z2(n d:Nat)(hd:d≤n)(o:Option Int):sIx n d o≤n:=by
 cases o with
 |none=>exact hd
 |some v=>
  show (if v<0 then (v+(n:Int)).toNat else min v.toNat n)≤n
  by_cases hv:v<0
  . rw[if_pos hv];omega
  . rw[if_neg hv];exact Nat.min_le_right _ _
theorem lE(v:Int)(n d:Nat):(if v<0 then max (v+(n:Int)) 0 else min v (n:Int))=((sIx n d (some v):Nat):Int):=by
 show (if v<0 then max (v+(n:Int)) 0 else min v (n:Int))=(((if v<0 then (v+(n:Int)).toNat else min v.toNat n):Nat):Int)
 by_cases hv:v<0
 . simp only[if_pos hv];omega
 . simp only[if_neg hv];omega
theorem nK(lo hi:Option Int)(n:Nat):Builtin.Slice.sliceAdjust lo hi 1 (n:Int)=(((sIx n 0 lo:Nat):Int),((sIx n n hi:Nat):Int)):=by
 have h1:¬((1:Int)<0):=by omega
 unfold Builtin.Slice.sliceAdjust
 simp only[h1,if_false]
 refine Prod.ext ?_ ?_
 . cases lo with
   |none=>rfl
   |some v=>exact lE v n 0
 . cases hi with
   |none=>rfl
   |some v=>exact lE v n n
theorem mG(i j:Nat):Builtin.Slice.slicePlaces (i:Int) (j:Int) 1=j-i:=by
 unfold Builtin.Slice.slicePlaces
 have h1:(1:Int) > 0:=by omega
 simp only[h1,if_true,Int.ediv_one]
 split<;>omega
theorem wF{v:Value}{o:Option Int}{Q:Option Int→Shared→Prop}(p:IsPart v o)(h:Q o s):wpAny (model prog w) A (Builtin.Slice.slicePartIndex v) Q E s:=by
 cases p with
 |none=>exact slicePart_none h
 |int i t=>exact slicePart_int h
theorem wm{sl:Addr}{vl vu:Value}{lo hi:Option Int}{n:Nat}{Q:Int × Int × Nat→Shared→Prop}(hs:s.heap.IsSliceOf sl vl vu .none)(pl:IsPart vl lo)(pu:IsPart vu hi)
 (h:Q (((sIx n 0 lo:Nat):Int),1,sIx n n hi-sIx n 0 lo) s):wpAny (model prog w) A (Builtin.Slice.sliceApplied (.ref sl) (pure (n:Int))) Q E s:=by
 obtain⟨os,hos,hcs,hds⟩:=id hs
 unfold Builtin.Slice.sliceApplied Builtin.Slice.sliceFields
 refine wpAny_bind (wpAny_bind (wpAny_field hos hds (x:=vl) rfl (wpAny_bind (wpAny_field hos hds (x:=vu) rfl (wpAny_bind (wpAny_field hos hds (x:=.none) rfl (wpAny_pure ?_)))))))
 refine wpAny_bind (slicePart_none ?_)
 show wpAny _ _ (if ((1:Int) == 0)=true then _ else _) _ _ s
 rw[if_neg (by decide)]
 refine wpAny_bind (wF pl (wpAny_bind (wF pu (wpAny_bind (wpAny_pure ?_)))))
 show wpAny _ _ (match Builtin.Slice.sliceAdjust lo hi 1 (n:Int) with|(lo,hi)=>pure (lo,(1:Int),Builtin.Slice.slicePlaces lo hi 1)) _ _ s
 rw[nK lo hi n]
 show wpAny _ _ (pure (((sIx n 0 lo:Nat):Int),(1:Int),Builtin.Slice.slicePlaces ((sIx n 0 lo:Nat):Int) ((sIx n n hi:Nat):Int) 1)) _ _ s
 rw[mG]
 exact wpAny_pure h
theorem gs(xs:Array Value)(i k:Nat):((List.range k).filterMap fun(m:Nat)=>xs[((i:Int)+(m:Int)*1).toNat]?).toArray=((xs.toList.drop i).take k).toArray:=by
 have e:(fun(m:Nat)=>xs[((i:Int)+(m:Int)*1).toNat]?)=fun m=>xs[i+m]?:=by
  funext m
  have:((i:Int)+(m:Int)*1).toNat=i+m:=by omega
  rw[this]
 rw[e]
 have:=pick_run xs i k
 rw[List.filterMap_map]at this
 have e2:((fun x=>xs[x]?)∘fun x=>i+x)=fun m=>xs[i+m]?:=rfl
 rw[e2]at this
 rw[this]
theorem uV{t sl:Addr}{items:Array Value}{vl vu:Value}{lo hi:Option Int}{Q:Value→Shared→Prop}(ht:IsTup s.heap t items)(hs:s.heap.IsSliceOf sl vl vu .none)(pl:IsPart vl lo)(pu:IsPart vu hi)
 (hw:¬(sIx items.size 0 lo=0∧sIx items.size items.size hi=items.size))
 (h:Q (.ref s.heap.objs.size) {s with heap:=s.heap.push {cls:=.type "tuple",data:=.seq ((items.toList.drop (sIx items.size 0 lo)).take (sIx items.size items.size hi-sIx items.size 0 lo)).toArray}})
 (hsz:items.size≤sizeLine):wpAny (model prog w) A (getItem (.ref t) (.ref sl)) Q E s:=by
 have htake:sizeOk (.seq ((items.toList.drop (sIx items.size 0 lo)).take (sIx items.size items.size hi-sIx items.size 0 lo)).toArray):=by
  show ((items.toList.drop (sIx items.size 0 lo)).take (sIx items.size items.size hi-sIx items.size 0 lo)).toArray.size≤sizeLine
  rw[List.size_toArray,List.length_take,List.length_drop,Array.length_toList]
  omega
 have hj:sIx items.size items.size hi≤items.size:=Z2 _ _ (Nat.le_refl _) hi
 obtain⟨os,hos,hcs,hds⟩:=id hs
 have hTs:s.TypeIs (.ref sl) "slice":=⟨os,hos,hcs⟩
 unfold getItem
 try with_reducible refine wpAny_holding ?_
 first|refine wpAny_bind (wpAny_pure ?_)|skip
 refine wpAny_bind (wpAny_sequenceKey ht.typeIs (by decide) ?_)
 refine wpAny_bind (wpAny_callSpecial?_slot (name:=Str.ofString "__getitem__") ht.typeIs PyProof.Rows.slot_tuple_getitem
  (wpAny_call_entry PyProof.Rows.slot_tuple_getitem ht.typeIs entry_tuple_getitem ?_ (args_tuple_getitem _ _)))
 show wpAny _ _ (Builtin.Tuple.tupleItemsOf (.ref t) >>= _) _ _ s
 refine wpAny_bind (tupleItemsOf_ ht ?_)
 refine wpAny_bind (wpAny_typeOf hTs ?_)
 rw[if_pos (by decide)]
 refine wpAny_bind (wm hs pl pu ?_)
 have hno:¬((((sIx items.size 0 lo:Nat):Int) == 0&&(1:Int) == 1&&(sIx items.size items.size hi-sIx items.size 0 lo) == items.size)=true):=by
  intro q
  rw[Bool.and_eq_true,Bool.and_eq_true]at q
  have q1:((sIx items.size 0 lo:Nat):Int)=0:=eq_of_beq q.1.1
  have q2:sIx items.size items.size hi-sIx items.size 0 lo=items.size:=eq_of_beq q.2
  exact hw ⟨by omega,by omega⟩
 show wpAny _ _ (if (((sIx items.size 0 lo:Nat):Int) == 0&&(1:Int) == 1&&(sIx items.size items.size hi-sIx items.size 0 lo) == items.size)=true then _ else _) _ _ s
 rw[if_neg hno,gs]
 first
  |exact wpAny_bind (m:=Builtin.Tuple.tupleExact _) (wpAny_newObj_type (wpAny_pure ⟨_,rfl,wpAny_pure h⟩) htake)
  |exact wpAny_bind (m:=Builtin.Tuple.tupleExact _) (wpAny_newObj_type (wpAny_bind (wpAny_pure (wpAny_pure ⟨_,rfl,wpAny_pure h⟩))) htake)
  |exact wpAny_bind (wpAny_bind (m:=Builtin.Tuple.tupleExact _) (wpAny_newObj_type (wpAny_pure (wpAny_pure ⟨_,rfl,wpAny_pure h⟩)) htake))
  |exact wpAny_bind (wpAny_bind (m:=Builtin.Tuple.tupleExact _) (wpAny_newObj_type (wpAny_pure ⟨_,rfl,wpAny_pure h⟩) htake))
end
end HT
namespace L2
open PySem PySem.Spec PyProof.Rows
noncomputable abbrev TO:=St→Hp→(Option Int→Hp→Prop)→Prop
def PO(X:Cx)(e:Option Expr)(t:TO):Prop:=
 ∀(pins:List (Addr × Obj)) (s:Shared) (σ:St) (H:Hp) (Q:Option Int→Hp→Prop),Inv X pins σ H s→t σ H Q →
  wpAny (model X.prog X.w) X.A (evalPart e X.env) (fun u s'=>∃o H',Inv X pins σ H' s'∧IsPart u o∧Q o H') X.xe s
noncomputable def cu:TO:=fun _ H Q=>Q none H
noncomputable def X3(t:TE):TO:=fun σ H Q=>t σ H fun x H1=>∃i,x=.int i∧Q (some i) H1
section
variable {X:Cx}{e:Expr}{te:TE}{lo hi:Option Expr}{tl th:TO}{pos p2:Pos}
theorem du:PO X none cu:=by
 intro pins s σ H Q I h
 rw[evalPart_none]
 exact wpAny_pure ⟨none,H,I,.none,h⟩
theorem dv(h:PE X e te):PO X (some e) (X3 te):=by
 intro pins s σ H Q I hw
 rw[evalPart_some]
 refine thn (h pins s σ H _ I hw) fun u s1 ⟨x,H1,I1,r1,q1⟩=>?_
 obtain⟨i,rfl,q⟩:=q1
 obtain⟨t,rfl⟩:=r1
 exact⟨some i,H1,I1,.int i t,q⟩
def SlR(X:Cx)(r:V→Option Int→Option Int→Hp→VK→Prop):Prop:=
 ∀(pins:List (Addr × Obj)) (s:Shared) (σ:St) (H:Hp) (x:V) (v vl vu:Value) (lo hi:Option Int) (sl:Addr) (Q:VK),Inv X pins σ H s→RelV x v→s.heap.IsSliceOf sl vl vu .none→IsPart vl lo→IsPart vu hi→r x lo hi H Q →
  ∃T id,typeLookup (.type T) "__getitem__"=pure (some (.builtin id))∧s.TypeIs v T∧wpAny (model X.prog X.w) X.A (getItem v (.ref sl)) (EP X pins σ Q) X.xe s
noncomputable def tSl(r:V→Option Int→Option Int→Hp→VK→Prop)(te:TE)(tl th:TO):TE:=fun σ H Q=>te σ H fun x H1=>tl σ H1 fun l H2=>th σ H2 fun u H3=>r x l u H3 Q
theorem gp{r:V→Option Int→Option Int→Hp→VK→Prop}(hr:SlR X r)(he:PE X e te)(hl:PO X lo tl)(hu:PO X hi th):PE X (.Subscript e (.Slice lo hi none p2) pos) (tSl r te tl th):=by
 intro pins s σ H Q I h
 refine Subscript_ (thn (he pins s σ H _ I h) fun v s1 ⟨x,H1,I1,r1,q1⟩=>?_)
 refine wpAny_Slice (thn (hl pins s1 σ H1 _ I1 q1) fun vl s2 ⟨l,H2,I2,pl,q2⟩=>thn (hu pins s2 σ H2 _ I2 q2) fun vu s3 ⟨u,H3,I3,pu,q3⟩=>?_)
 rw[evalPart_none]
 refine wpAny_pure ?_
 have I4:Inv X pins σ H3 {s3 with heap:=s3.heap.push {cls:=.type "slice",data:=.fields #[vl,vu,.none]}}:=I3.kept (t':=s3.toks) fun b ob q=>Heap.get?_push_of_some _ q
 obtain⟨T,id,hT,ht,hg⟩:=hr pins {s3 with heap:=s3.heap.push {cls:=.type "slice",data:=.fields #[vl,vu,.none]}} σ H3 x v vl vu l u s3.heap.objs.size Q I4 r1 (Heap.IsSliceOf.new ..) pl pu q3
 show wpAny (model X.prog X.w) X.A (subscriptTail e (.Slice lo hi none p2) v (.ref s3.heap.objs.size)) (EP X pins σ Q) X.xe {s3 with heap:=s3.heap.push {cls:=.type "slice",data:=.fields #[vl,vu,.none]}}
 exact tail_any (ops:=[.ref s3.heap.objs.size,v]) ht hT hg (by with_unfolding_all rfl)
noncomputable def rS(xs:List V)(lo hi:Option Int):List V:=(xs.drop (HT.sIx xs.length 0 lo)).take (HT.sIx xs.length xs.length hi-HT.sIx xs.length 0 lo)
theorem tR(xs:List V)(lo hi:Option Int):(rS xs lo hi).length≤xs.length:=by
 unfold rS
 rw[List.length_take,List.length_drop]
 omega
noncomputable def WX(K:PySem.W.Frag):V→Option Int→Option Int→Hp→VK→Prop:=fun x lo hi H Q=>∃a xs,x=.ref a∧SqT K H a xs ∧
 ¬(HT.sIx xs.length 0 lo=0∧HT.sIx xs.length xs.length hi=xs.length)∧∀p,H p=none→Q (.ref p) (upd H p (.tup (rS xs lo hi)))
theorem pY:SlR X (WX X.K):=by
 intro pins s σ H x v vl vu lo hi sl Q I rx hs pl pu h
 obtain⟨a,xs,rfl,hx,hw,q⟩:=h
 cases rx
 obtain⟨its,r,ht,hz⟩:=I.tuple hx
 have hlen:its.toArray.size=xs.length:=by rw[List.size_toArray];exact r.length.symm
 refine⟨"tuple",_,PyProof.Rows.slot_tuple_getitem.lookup,ht.typeIs,?_⟩
 refine HT.uV ht hs pl pu (by rw[hlen];exact hw) ?_ (by rw[hlen];exact hz)
 rw[hlen]
 refine⟨.ref s.heap.objs.size,_,I.laid (t':=s.toks) (o:=.tup (rS xs lo hi)) (fun b ob q=>Heap.get?_push_of_some _ q) (Nat.le_refl _) ?_,rfl,q _ (I.hok.fresh (Nat.le_refl _))⟩
 exact⟨Nat.le_trans (tR xs lo hi) hz,_,(r.drop (HT.sIx xs.length 0 lo)).take (HT.sIx xs.length xs.length hi-HT.sIx xs.length 0 lo),uu.new _ _⟩
noncomputable def Xj(K:PySem.W.Frag):R2:=fun x y H Q=>∃a b xs ys,x=.ref a∧y=.ref b∧SqT K H a xs∧SqT K H b ys∧xs≠[]∧xs.length+ys.length≤sizeLine ∧
 (ys=[]→Q (.ref a) H)∧(ys≠[]→∀p,H p=none→Q (.ref p) (upd H p (.tup (xs++ys))))
theorem Vals.uY{xs:List V}{us:List Value}(r:Vals xs us):us=[]↔xs=[]:=by
 cases r with
 |nil=>simp
 |cons _ _=>simp
theorem dG:OpR X (binaryOp .Add) (Xj X.K):=by
 intro pins s σ H x y v u Q I rx ry h
 obtain⟨a,b,xs,ys,rfl,rfl,ha,hb,hx,hz,q1,q2⟩:=h
 cases rx
 cases ry
 obtain⟨its,r1,p1,_⟩:=I.tuple ha
 obtain⟨its2,r2,p2,_⟩:=I.tuple hb
 refine HT.eB p1 p2 (fun z=>hx (r1.uY.mp z)) (fun z=>⟨.ref a,H,I,rfl,q1 (r2.uY.mp z)⟩) (fun z=>?_) (by rw[←r1.length,←r2.length];exact hz)
 refine⟨.ref s.heap.objs.size,_,I.laid (t':=s.toks) (o:=.tup (xs++ys)) (fun b ob q=>Heap.get?_push_of_some _ q) (Nat.le_refl _) ?_,rfl,q2 (fun w=>z (r2.uY.mpr w)) _ (I.hok.fresh (Nat.le_refl _))⟩
 exact⟨by rw[List.length_append];exact hz,_,r1.append r2,uu.new _ _⟩
end
end L2
namespace L2
open PySem PySem.Spec PyProof.Rows
noncomputable def ixN(n:Nat)(i:Int):Option Nat:=if 0≤i then (if i<n then some i.toNat else none) else if -(n:Int)≤i then some (i+n).toNat else none
noncomputable def atI{α:Type}(xs:List α)(i:Int):Option α:=(ixN xs.length i).bind fun j=>xs[j]?
theorem lh{n:Nat}{i:Int}{j:Nat}(h:ixN n i=some j):seqIndex? i n=some j∧j<n∧-(n:Int)≤i∧i<n:=by
 unfold ixN at h
 by_cases h0:0≤i
 . rw[if_pos h0]at h
   by_cases h1:i<n
   . rw[if_pos h1]at h
     have e:i.toNat=j:=Option.some.inj h
     exact⟨by rw[seqIndex_of h0 h1,e],by omega,by omega,h1⟩
   . rw[if_neg h1]at h;cases h
 . rw[if_neg h0]at h
   by_cases h1:-(n:Int)≤i
   . rw[if_pos h1]at h
     have e:(i+n).toNat=j:=Option.some.inj h
     exact⟨by rw[seqIndex_neg (by omega) h1,e],by omega,h1,by omega⟩
   . rw[if_neg h1]at h;cases h
theorem qg{α:Type}{xs:List α}{i:Int}{v:α}(h:atI xs i=some v):∃j,seqIndex? i xs.length=some j∧xs[j]?=some v∧j<xs.length∧-(xs.length:Int)≤i∧i<xs.length:=by
 unfold atI at h
 cases e:ixN xs.length i with
 |none=>rw[e]at h;cases h
 |some j=>
  rw[e]at h
  obtain⟨h1,h2,h3,h4⟩:=lh e
  exact⟨j,h1,h,h2,h3,h4⟩
theorem t5{α:Type}{xs:List α}{j:Nat}{v:α}(h:xs[j]?=some v):atI xs (j:Int)=some v:=by
 have hj:j<xs.length:=(List.getElem?_eq_some_iff.mp h).1
 have e:ixN xs.length (j:Int)=some j:=by
  unfold ixN
  rw[if_pos (by omega),if_pos (by omega)];simp
 unfold atI;rw[e];exact h
theorem iG{α:Type}(xs:List α)(v:α):atI (xs++[v]) (-1)=some v:=by
 have hl:(xs++[v]).length=xs.length+1:=by simp
 have e:ixN (xs++[v]).length (-1)=some xs.length:=by
  unfold ixN
  rw[hl,if_neg (by decide),if_pos (by omega)]
  congr 1
  omega
 unfold atI
 rw[e]
 show (xs++[v])[xs.length]?=some v
 simp
def lB(b:Expr):Prop:=∀o i,subscripted b false o i=operate [o,i] (getItem o i)
def IxR(X:Cx)(r:R2):Prop:=
 ∀(value slice:Expr) (pins:List (Addr × Obj)) (s:Shared) (σ:St) (H:Hp) (x y:V) (v u:Value) (Q:VK),Inv X pins σ H s→RelV x v→RelV y u→r x y H Q →
  subscripted slice false v u=operate [v,u] (getItem v u)→wpAny (model X.prog X.w) X.A (subscriptTail value slice v u) (EP X pins σ Q) X.xe s
def MtR(X:Cx)(id:String)(r:V→List V→Hp→VK→Prop):Prop:=
 ∀(pins:List (Addr × Obj)) (s:Shared) (σ:St) (H:Hp) (x:V) (xs:List V) (v:Value) (us:List Value) (Q:VK),Inv X pins σ H s→RelV x v→Vals xs us→r x xs H Q →
  wpAny (model X.prog X.w) X.A (call (.builtin id) (v::us)) (EP X pins σ Q) X.xe s
section
variable {X:Cx}{a b:Expr}{ta tb:TE}{pos:Pos}
theorem IxR.or{r r':R2}(h:IxR X r)(h':IxR X r'):IxR X (fun x y H Q=>r x y H Q∨r' x y H Q):=by
 intro value slice pins s σ H x y v u Q I rx ry q hs
 rcases q with q|q
 . exact h value slice pins s σ H x y v u Q I rx ry q hs
 . exact h' value slice pins s σ H x y v u Q I rx ry q hs
theorem XT{r:R2}(hr:IxR X r)(ha:PE X a ta)(hb:PE X b tb)(hs:lB b):PE X (.Subscript a b pos) (tOp r ta tb):=by
 intro pins s σ H Q I h
 exact Subscript_ (b9 ha hb I h fun v u s2 x y H2 I2 rx ry q=>hr a b pins s2 σ H2 x y v u Q I2 rx ry q (hs _ _))
noncomputable def Xk(K:PySem.W.Frag):R2:=fun x y H Q=>∃p xs i v,x=.ref p∧y=.int i∧SqL K H p xs∧atI xs i=some v∧Q v H
noncomputable def Xm(K:PySem.W.Frag):R2:=fun x y H Q=>∃p xs i v,x=.ref p∧y=.int i∧SqT K H p xs∧atI xs i=some v∧Q v H
noncomputable def Xl:R2:=fun x y H Q=>∃z i c,x=.str z∧y=.int i∧z.length≤sizeLine∧atI z.cps.toList i=some c∧Q (.str ⟨#[c]⟩) H
theorem eO:IxR X (Xk X.K):=by
 intro value slice pins s σ H x y v u Q I rx ry h hs
 obtain⟨p,xs,i,z,rfl,rfl,hq,he,q⟩:=h
 cases rx
 obtain⟨t,rfl⟩:=ry
 obtain⟨its,r,pl,hz⟩:=I.list hq
 obtain⟨j,h1,h2,h3,h4,h5⟩:=qg he
 obtain⟨w,ew,rw'⟩:=r.get h2
 have hl:=r.length
 have hn:=v8
 have fin:EP X pins σ Q w s:=⟨z,H,I,rw',q⟩
 by_cases h0:0≤i
 . have hj:i.toNat=j:=by
    rw[seqIndex_of h0 h5]at h1
    exact Option.some.inj h1
   exact item_listR pl.isList h0 (by omega) (by rw[hj];simpa using ew) fin hs
 . have hj:(i+(its.toArray.size:Int)).toNat=j:=by
    rw[seqIndex_neg (by omega) h4]at h1
    rw[List.size_toArray,←hl]
    exact Option.some.inj h1
   exact subscriptTail_builtinR (x:=w) pl.isList.typeIs slot_list_getitem.lookup
    (wpAny_getItem_list_neg (Q:=fun r s'=>r=w∧EP X pins σ Q r s') pl.isList (by omega) (by rw[List.size_toArray]<;>omega) (by omega) (by rw[hj];simpa using ew) ⟨rfl,fin⟩) hs
theorem aR:IxR X (Xm X.K):=by
 intro value slice pins s σ H x y v u Q I rx ry h hs
 obtain⟨p,xs,i,z,rfl,rfl,hq,he,q⟩:=h
 cases rx
 obtain⟨t,rfl⟩:=ry
 obtain⟨its,r,pl,hz⟩:=I.tuple hq
 obtain⟨j,h1,h2,h3,h4,h5⟩:=qg he
 obtain⟨w,ew,rw'⟩:=r.get h2
 have hl:=r.length
 have hn:=v8
 have fin:EP X pins σ Q w s:=⟨z,H,I,rw',q⟩
 exact subscriptTail_builtinR (x:=w) pl.typeIs slot_tuple_getitem.lookup
  (getItem_tuple (j:=j) (Q:=fun r s'=>r=w∧EP X pins σ Q r s') pl (by omega) (by omega) (by rw[List.size_toArray,←hl];exact h1) (by simpa using ew) ⟨rfl,fin⟩) hs
theorem aQ:IxR X Xl:=by
 intro value slice pins s σ H x y v u Q I rx ry h hs
 obtain⟨z,i,c,rfl,rfl,hz,he,q⟩:=h
 obtain⟨t,rfl⟩:=rx
 obtain⟨t',rfl⟩:=ry
 obtain⟨j,h1,h2,h3,h4,h5⟩:=qg he
 have hl:z.cps.toList.length=z.length:=by simp[Str.length]
 rw[hl]at h1 h4 h5
 have hn:=v8
 exact tail_any (typeIs_str s z t) slot_str_getitem.lookup (getItem_str (c:=c) (by
  have e1:decide (i < -(2 ^ 63:Int))=false:=decide_eq_false (by omega)
  have e2:decide (i ≥ 2 ^ 63)=false:=decide_eq_false (by omega)
  rw[e1,e2,Bool.or_false]) (by rw[h1];simpa using h2) ⟨.str ⟨#[c]⟩,H,I.tok _,⟨_,rfl⟩,q⟩) hs
noncomputable def rIx(K:PySem.W.Frag):R2:=fun x y H Q=>Xk K x y H Q∨Xm K x y H Q∨Xl x y H Q
theorem aP:IxR X (rIx X.K):=eO.or (aR.or aQ)
theorem nq(its:List Value)(n j:Nat)(u:Value):Obj.mapSeq (·.setIfInBounds j u) {cls:=.type "list",data:=.seq its.toArray n}={cls:=.type "list",data:=.seq (its.set j u).toArray n}:=by
 simp[Obj.mapSeq]
theorem Inv.lst{pins:List (Addr × Obj)}{σ:St}{H:Hp}{s:Shared}{p:Addr}{xs:List V}(I:Inv X pins σ H s)(h:H p=some (.lst xs)) :
 ∃(its:List Value) (n:Nat),Vals xs its∧s.heap.get? p=some {cls:=.type "list",data:=.seq its.toArray n}∧xs.length≤sizeLine:=by
 obtain⟨z,its,n,r,e⟩:=I.hok p _ h
 exact⟨its,n,r,e,z⟩
theorem Inv.ZN{pins:List (Addr × Obj)}{σ:St}{H:Hp}{s:Shared}{p:Addr}{xs ys:List V}{its its':List Value}{n n':Nat}{f:Obj→Obj}(I:Inv X pins σ H s)(h:H p=some (.lst xs))
 (ho:s.heap.get? p=some {cls:=.type "list",data:=.seq its.toArray n}) (hf:f {cls:=.type "list",data:=.seq its.toArray n}={cls:=.type "list",data:=.seq its'.toArray n'}) (r:Vals ys its') (hz:ys.length≤sizeLine) (t:Nat) :
 Inv X pins σ (upd H p (.lst ys)) {s with heap:=s.heap.update p f,toks:=t}:=by
 have e:(s.heap.update p f).get? p=some {cls:=.type "list",data:=.seq its'.toArray n'}:=by
  rw[Heap.get?_update_self f ho (by rw[hf]<;>rfl),hf]
 refine I.write (x:=p) (e:=p) (by rw[h];trivial) (.inl rfl) (fun b u hb q=>(Heap.get?_update_other _ _ (Ne.symm hb)).trans q) ⟨_,e⟩ ?_
 exact⟨hz,its',n',r,e⟩
noncomputable def bV:V→V→V→Hp→(Hp→Prop)→Prop:=fun o i v H Q=>∃p xs k j,o=.ref p∧i=.int k∧H p=some (.lst xs)∧ixN xs.length k=some j∧Q (upd H p (.lst (xs.set j v)))
theorem set_list:YO X bV:=by
 intro pins s σ H o i v ov iv u Q I ro ri rv h
 obtain⟨p,xs,k,j,rfl,rfl,hp,hj,q⟩:=h
 cases ro
 obtain⟨t,rfl⟩:=ri
 obtain⟨its,n,r,ho,hz⟩:=I.lst hp
 obtain⟨h1,h2,h3,h4⟩:=lh hj
 have hl:=r.length
 have hn:=v8
 have I':Inv X pins σ (upd H p (.lst (xs.set j v))) {s with heap:=s.heap.update p (Obj.mapSeq (·.setIfInBounds j u))}:=
  I.ZN hp ho (nq its n j u) (r.set rv j) (by rw[List.length_set];exact hz) s.toks
 by_cases h0:0≤k
 . have hk:k.toNat=j:=by
    rw[seqIndex_of h0 h4]at h1
    exact Option.some.inj h1
   exact PySem.W.ki_setAt ho h0 (by omega) (by rw[List.size_toArray,←hl];exact h4) (by rw[hk];exact⟨_,I',q⟩)
 . have hk:(k+(its.toArray.size:Int)).toNat=j:=by
    rw[seqIndex_neg (by omega) h3]at h1
    rw[List.size_toArray,←hl]
    exact Option.some.inj h1
   exact PySem.W.ki_setBack ho (by omega) (by rw[List.size_toArray,←hl];exact h3) (by omega) (by rw[hk];exact⟨_,I',q⟩)
theorem pZ(lo hi:Option Int)(n:Nat):(sliceBounds lo hi none n).1=((HT.sIx n 0 lo:Nat):Int)∧(sliceBounds lo hi none n).2.1=((HT.sIx n n hi:Nat):Int)∧(sliceBounds lo hi none n).2.2=1:=by
 refine⟨?_,?_,rfl⟩
 . cases lo with
   |none=>simp[sliceBounds,HT.sIx]
   |some i=>
    simp only[sliceBounds,HT.sIx,Option.getD_none,show (1:Int) > 0 by decide,if_true]
    by_cases h:i<0
    . simp only[h,if_true]<;>omega
    . simp only[h,if_false]<;>omega
 . cases hi with
   |none=>simp[sliceBounds,HT.sIx]
   |some i=>
    simp only[sliceBounds,HT.sIx,Option.getD_none,show (1:Int) > 0 by decide,if_true]
    by_cases h:i<0
    . simp only[h,if_true]<;>omega
    . simp only[h,if_false]<;>omega
theorem rd(its:List Value)(lo hi:Option Int):slicePick its.toArray lo hi none=((its.drop (HT.sIx its.length 0 lo)).take (HT.sIx its.length its.length hi-HT.sIx its.length 0 lo)).toArray:=by
 obtain⟨h1,h2,h3⟩:=pZ lo hi its.toArray.size
 unfold slicePick
 rw[h1,h2,h3]
 simp only[sliceRange_one,pick_run,List.size_toArray]<;>rfl
noncomputable def WW(K:PySem.W.Frag):V→Option Int→Option Int→Hp→VK→Prop:=fun x lo hi H Q=>∃a xs,x=.ref a∧SqL K H a xs∧∀p,H p=none→Q (.ref p) (upd H p (.lst (rS xs lo hi)))
theorem cU:SlR X (WW X.K):=by
 intro pins s σ H x v vl vu lo hi sl Q I rx hs pl pu h
 obtain⟨a,xs,rfl,hx,q⟩:=h
 cases rx
 obtain⟨its,r,ht,hz⟩:=I.list hx
 have hlen:=r.length
 refine⟨"list",_,slot_list_getitem.lookup,ht.isList.typeIs,?_⟩
 refine wpAny_getItem_list_slice ht.isList hs pl pu .none (by simp) ?_ (by rw[List.size_toArray]<;>omega)
 rw[rd,←hlen]
 refine⟨.ref s.heap.objs.size,_,I.laid (t':=s.toks) (o:=.lst (rS xs lo hi)) (fun b ob q=>Heap.get?_push_of_some _ q) (Nat.le_refl _) ?_,rfl,q _ (I.hok.fresh (Nat.le_refl _))⟩
 exact⟨Nat.le_trans (tR xs lo hi) hz,_,0,(r.drop (HT.sIx xs.length 0 lo)).take (HT.sIx xs.length xs.length hi-HT.sIx xs.length 0 lo),Heap.get?_push_size _ rfl⟩
noncomputable def wK:V→Bool
 |.non=>true
 |.bl _=>true
 |.int _=>true
 |.str _=>true
 |_=>false
noncomputable def eqV:V→V→Bool
 |.non,.non=>true
 |.bl a,.bl b=>a == b
 |.bl a,.int b=>(if a then 1 else 0) == b
 |.int a,.bl b=>a == (if b then 1 else 0)
 |.int a,.int b=>a == b
 |.str a,.str b=>a == b
 |_,_=>false
theorem aH{A:Around}{s:Shared}{y x:V}{u v:Value}(ry:RelV y u)(rx:RelV x v)(fy:wK y=true)(fx:wK x=true):SeqAt.EqAt A s u v (eqV y x):=by
 cases y with
 |non=>
  cases ry
  cases x with
  |non=>cases rx;exact SeqAt.EqAt.same _
  |bl b=>cases rx;exact SeqAt.EqAt.none_bool b
  |int b=>obtain⟨t,rfl⟩:=rx;exact SeqAt.EqAt.none_int b t
  |str b=>obtain⟨t,rfl⟩:=rx;exact SeqAt.EqAt.none_str b t
  |_=>exact absurd (show false=true from fx) Bool.false_ne_true
 |bl a=>
  cases ry
  cases x with
  |non=>cases rx;exact SeqAt.EqAt.bool_none a
  |bl b=>cases rx;exact SeqAt.EqAt.bool_bool a b
  |int b=>obtain⟨t,rfl⟩:=rx;exact SeqAt.EqAt.bool_int a b t
  |str b=>obtain⟨t,rfl⟩:=rx;exact SeqAt.EqAt.bool_str a b t
  |_=>exact absurd (show false=true from fx) Bool.false_ne_true
 |int a=>
  obtain⟨t',rfl⟩:=ry
  cases x with
  |non=>cases rx;exact SeqAt.EqAt.int_none a t'
  |bl b=>cases rx;exact SeqAt.EqAt.int_bool a t' b
  |int b=>obtain⟨t,rfl⟩:=rx;exact SeqAt.EqAt.int_int a t' b t
  |str b=>obtain⟨t,rfl⟩:=rx;exact SeqAt.EqAt.int_str a t' b t
  |_=>exact absurd (show false=true from fx) Bool.false_ne_true
 |str a=>
  obtain⟨t',rfl⟩:=ry
  cases x with
  |non=>cases rx;exact SeqAt.EqAt.str_none a t'
  |bl b=>cases rx;exact SeqAt.EqAt.str_bool a t' b
  |int b=>obtain⟨t,rfl⟩:=rx;exact SeqAt.EqAt.str_int a t' b t
  |str b=>obtain⟨t,rfl⟩:=rx;exact SeqAt.EqAt.str_str a t' b t
  |_=>exact absurd (show false=true from fx) Bool.false_ne_true
 |_=>exact absurd (show false=true from fy) Bool.false_ne_true
noncomputable def eqU(x:V)(u:Value):Bool:=match u with
 |.none=>eqV .non x
 |.bool b=>eqV (.bl b) x
 |.int i _=>eqV (.int i) x
 |.str z _=>eqV (.str z) x
 |_=>false
theorem nX{x y:V}{u:Value}(r:RelV y u)(f:wK y=true):eqU x u=eqV y x:=by
 cases y with
 |non=>cases r;rfl
 |bl b=>cases r;rfl
 |int i=>obtain⟨t,rfl⟩:=r;rfl
 |str z=>obtain⟨t,rfl⟩:=r;rfl
 |_=>exact absurd (show false=true from f) Bool.false_ne_true
theorem uK{x:V}:∀{xs:List V} {us:List Value},Vals xs us→xs.all wK=true→us.any (eqU x)=xs.any fun y=>eqV y x
 |_,_,.nil,_=>rfl
 |y::xs,u::us,.cons r t,f=>by
  rw[List.all_cons,Bool.and_eq_true]at f
  rw[List.any_cons,List.any_cons,nX r f.1,uK t f.2]
theorem wB{A:Around}{s:Shared}{x:V}{v:Value}(rx:RelV x v)(fx:wK x=true):∀{xs:List V} {us:List Value},Vals xs us→xs.all wK=true→∀u∈us,SeqAt.EqAt A s u v (eqU x u)
 |_,_,.nil,_=>fun u hu=>by cases hu
 |y::xs,u::us,.cons r t,f=>fun u' hu=>by
  rw[List.all_cons,Bool.and_eq_true]at f
  rcases List.mem_cons.mp hu with rfl|hu
  . rw[nX r f.1];exact aH r rx f.1 fx
  . exact wB rx fx t f.2 u' hu
noncomputable def inV(x:V)(xs:List V):Bool:=xs.any fun y=>eqV y x
noncomputable def rIn(K:PySem.W.Frag)(neg:Bool):R2:=fun x y H Q=>∃p xs,y=.ref p∧(SqL K H p xs∨SqT K H p xs)∧wK x=true∧xs.all wK=true∧Q (.bl (if neg then !inV x xs else inV x xs)) H
theorem jV:OpR X (compareOp .In) (rIn X.K false):=by
 intro pins s σ H x y v u Q I rx ry h
 obtain⟨p,xs,rfl,hq,fx,fs,q⟩:=h
 cases ry
 rcases hq with hq|hq
 . obtain⟨its,r,pl,hz⟩:=I.list hq
   refine SeqAt.in_listAt (eqU x) pl.isList (fun w hw=>wB rx fx r fs w (by simpa using hw)) ⟨.bl _,H,I,rfl,?_⟩
   rw[show its.toArray.any (eqU x)=its.any (eqU x) by simp,uK r fs]
   exact q
 . obtain⟨its,r,pl,hz⟩:=I.tuple hq
   refine SeqAt.in_tupleAt (eqU x) pl (fun w hw=>wB rx fx r fs w (by simpa using hw)) ⟨.bl _,H,I,rfl,?_⟩
   rw[show its.toArray.any (eqU x)=its.any (eqU x) by simp,uK r fs]
   exact q
theorem pJ:OpR X (compareOp .NotIn) (rIn X.K true):=by
 intro pins s σ H x y v u Q I rx ry h
 obtain⟨p,xs,rfl,hq,fx,fs,q⟩:=h
 cases ry
 rcases hq with hq|hq
 . obtain⟨its,r,pl,hz⟩:=I.list hq
   refine SeqAt.notIn_listAt (eqU x) pl.isList (fun w hw=>wB rx fx r fs w (by simpa using hw)) ⟨.bl _,H,I,rfl,?_⟩
   rw[show its.toArray.any (eqU x)=its.any (eqU x) by simp,uK r fs]
   exact q
 . obtain⟨its,r,pl,hz⟩:=I.tuple hq
   refine SeqAt.notIn_tupleAt (eqU x) pl (fun w hw=>wB rx fx r fs w (by simpa using hw)) ⟨.bl _,H,I,rfl,?_⟩
   rw[show its.toArray.any (eqU x)=its.any (eqU x) by simp,uK r fs]
   exact q
theorem ql:z6 X (.builtin "len") (fun xs H Q=>∃p ys,xs=[.ref p]∧(SqL X.K H p ys∨SqT X.K H p ys)∧Q (.int ys.length) H):=by
 intro pins s σ H xs us Q I r h
 obtain⟨p,ys,rfl,hq,q⟩:=h
 obtain⟨u,rfl,rx⟩:=vals1 r
 cases rx
 have hn:=v8
 rcases hq with hq|hq
 . obtain⟨its,r',pl,hz⟩:=I.list hq
   have hlen:=r'.length
   exact Calls.call_len_list pl.isList (by simp only[List.size_toArray]<;>omega) ⟨.int ys.length,H,I.tok _,⟨s.toks+1,by rw[List.size_toArray,hlen]⟩,q⟩
 . obtain⟨its,r',pl,hz⟩:=I.tuple hq
   have hlen:=r'.length
   exact len_tuple pl (by simp only[List.size_toArray]<;>omega) ⟨.int ys.length,H,I.tok _,⟨s.toks+1,by rw[List.size_toArray,hlen]⟩,q⟩
theorem qm:z6 X (.builtin "len") (fun xs H Q=>∃z,xs=[.str z]∧z.length≤sizeLine∧Q (.int z.length) H):=by
 intro pins s σ H xs us Q I r h
 obtain⟨z,rfl,hz,q⟩:=h
 obtain⟨u,rfl,t,rfl⟩:=vals1 r
 have hn:=v8
 exact len_str (by omega) ⟨.int z.length,H,I.tok _,⟨_,rfl⟩,q⟩
theorem qo:z6 X (.type "list") (fun xs H Q=>∃p ys,xs=[.ref p]∧(SqL X.K H p ys∨SqT X.K H p ys)∧∀l,H l=none→Q (.ref l) (upd H l (.lst ys))):=by
 intro pins s σ H xs us Q I r h
 obtain⟨p,ys,rfl,hq,q⟩:=h
 obtain⟨u,rfl,rx⟩:=vals1 r
 cases rx
 have fin:∀(its:List Value),Vals ys its→ys.length≤sizeLine→∀(h':Heap) (c':Nat),(∀b o',s.heap.get? b=some o'→h'.get? b=some o') →
  h'.get? s.heap.objs.size=some {cls:=.type "list",dict:=none,data:=.seq its.toArray c',slots:=#[]}→EP X pins σ Q (.ref s.heap.objs.size) {s with heap:=h'}:=fun its r' hz h' c' kp e=>
  ⟨.ref s.heap.objs.size,_,I.laid (t':=s.toks) kp (Nat.le_refl _) (show zy X.prog X.w _ h' _ (.lst ys) from ⟨hz,its,c',r',e⟩),rfl,q _ (I.hok.fresh (Nat.le_refl _))⟩
 rcases hq with hq|hq
 . obtain⟨its,r',pl,hz⟩:=I.list hq
   have hlen:=r'.length
   obtain⟨o,ho,hc,n,hd⟩:=pl.isList
   exact call_list_seq p (.inl rfl) ho hc hd (fun h' c' kp e=>fin its r' hz h' c' kp e) (by simp only[List.size_toArray]<;>omega)
 . obtain⟨its,r',pl,hz⟩:=I.tuple hq
   have hlen:=r'.length
   obtain⟨o,ho,hc,n,hd⟩:=pl
   exact call_list_seq p (.inr rfl) ho hc hd (fun h' c' kp e=>fin its r' hz h' c' kp e) (by simp only[List.size_toArray]<;>omega)
theorem vo:z6 X (.type "tuple") (fun xs H Q=>∃p ys,xs=[.ref p]∧((SqL X.K H p ys∧∀l,H l=none→Q (.ref l) (upd H l (.tup ys)))∨(SqT X.K H p ys∧Q (.ref p) H))):=by
 intro pins s σ H xs us Q I r h
 obtain⟨p,ys,rfl,h⟩:=h
 obtain⟨u,rfl,rx⟩:=vals1 r
 cases rx
 rcases h with⟨hq,q⟩|⟨hq,q⟩
 . obtain⟨its,r',pl,hz⟩:=I.list hq
   have hlen:=r'.length
   refine call_tuple_list pl.isList (fun h' kp=>?_) (by simp only[List.size_toArray]<;>omega)
   have I1:Inv X pins σ H {s with heap:=h'}:=I.kept (t':=s.toks) kp
   have I2:Inv X pins σ (upd H h'.objs.size (.tup ys)) {s with heap:=h'.push {cls:=.type "tuple",data:=.seq its.toArray}}:=
    I1.laid (t':=s.toks) (fun b o e=>Heap.get?_push_of_some _ e) (Nat.le_refl _) (show zy X.prog X.w _ _ _ (.tup ys) from ⟨hz,its,r',uu.new _ _⟩)
   exact⟨.ref h'.objs.size,_,I2,rfl,q _ (I1.hok.fresh (Nat.le_refl _))⟩
 . obtain⟨its,r',pl,hz⟩:=I.tuple hq
   exact call_tuple_same pl ⟨.ref p,H,I,rfl,q⟩
def tyV(K:PySem.W.Frag)(T:String)(x:V)(H:Hp):Prop:=match x with
 |.str _=>T="str"
 |.int _=>T="int"
 |.ref p=>(T="list"∧∃xs,SqL K H p xs)∨(T="tuple"∧∃o,K.lookup p=some o∧o.cls=.type "tuple"∧o.dict=none) ∨
  (T="dict"∧((∃kvs,H p=some (.dK kvs))∨∃kvs,H p=some (.dT kvs)))∨(T="set"∧∃S n,H p=some (.set S n))
 |_=>False
theorem YH{pins:List (Addr × Obj)}{σ:St}{H:Hp}{s:Shared}{T:String}{x:V}{v:Value}(I:Inv X pins σ H s)(r:RelV x v)(ty:tyV X.K T x H) :
 s.TypeIs v T∧∀a,v=.ref a→∃ob,s.heap.get? a=some ob∧ob.dict=none:=by
 cases x with
 |str z=>
  obtain⟨t,rfl⟩:=r
  cases (show T="str" from ty)
  exact⟨typeIs_str s z t,fun _ e=>nomatch e⟩
 |int i=>
  obtain⟨t,rfl⟩:=r
  cases (show T="int" from ty)
  exact⟨typeIs_int s i t,fun _ e=>nomatch e⟩
 |ref p=>
  cases r
  rcases ty with⟨rfl,xs,hq⟩|⟨rfl,o,hk,hc,hd⟩|⟨rfl,hk⟩|⟨rfl,S,n,hk⟩
  . obtain⟨its,_,pl,_⟩:=I.list hq
    refine⟨pl.isList.typeIs,fun a e=>?_⟩
    cases e
    obtain⟨o,n,e,c,hd,_⟩:=pl
    exact⟨o,e,hd⟩
  . refine⟨⟨o,I.kIn p o hk,hc⟩,fun a e=>?_⟩
    cases e
    exact⟨o,I.kIn _ o hk,hd⟩
  . have z:∃o,s.heap.get? p=some o∧o.ExactDict:=by
     rcases hk with⟨kvs,hk⟩|⟨kvs,hk⟩
     . obtain⟨_,_,_,_,o,_,_,e,ex,_⟩:=I.hok p _ hk
       exact⟨o,e,ex⟩
     . obtain⟨_,_,_,_,o,_,_,e,ex,_⟩:=I.hok p _ hk
       exact⟨o,e,ex⟩
    obtain⟨o,e,ex⟩:=z
    refine⟨⟨o,e,ex.1⟩,fun a e2=>?_⟩
    cases e2
    exact⟨o,e,ex.2.1⟩
  . obtain⟨o,_,_,_,e,ex,_⟩:=I.hok p _ hk
    refine⟨⟨o,e,ex.1⟩,fun a e2=>?_⟩
    cases e2
    exact⟨o,e,ex.2.1⟩
 |_=>exact False.elim ty
noncomputable def tBM(K:PySem.W.Frag)(T:String)(r:V→List V→Hp→VK→Prop)(to:TE)(t:TA):TE:=fun σ H Q=>to σ H fun x H1=>tyV K T x H1∧t σ H1 fun xs H2=>r x xs H2 Q
variable {o e:Expr}{es:List Expr}{to:TE}{t:TA}{name:Str}{apos cpos:Pos}{T id:String}{r:V→List V→Hp→VK→Prop}
theorem gi(pa:PlainAttrs T)(slot:Slot T name id)(hty:typeOf (.builtin id)=pure (.type "method_descriptor"))(hm:MtR X id r)(ho:PE X o to)(ha:PA X (e::es) t)
 (hbase:attributeBase o name X.env (eval o X.env)=eval o X.env:=by rfl)
 (hfew:((backTo cpos (starEach (e::es) X.env)).all (fun x=>!x.1)&&(backToKw cpos (keywordEach [] X.env)).all (fun x=>x.1.isSome)
  && decide ((e::es).length+([]:List Keyword).length+(if ([]:List Keyword).isEmpty then 0 else 1)<30))=true:=by rfl)
 (hline:(apos.endLine == cpos.line)=true:=by rfl) (hs:starEach (e::es) X.env=(false,eval e X.env)::starEach es X.env:=by rfl) (hplain:(backTo cpos (starEach es X.env)).any (·.1)=false:=by rfl) :
 PE X (.Call (.Attribute o name apos) (e::es) [] cpos) (tBM X.K T r to t):=by
 intro pins s σ H Q I h
 refine wpAny_Call_method_late hbase hfew hline rfl (thn (ho pins s σ H _ I h) fun v s1 ⟨x,H1,I1,r1,ty,q1⟩=>?_)
 obtain⟨h1,h2⟩:=YH I1 r1 ty
 refine⟨T,id,pa,slot,hty,h1,h2,?_⟩
 have hA:=ha cpos pins s1 σ H1 _ I1 q1
 rw[hs]at hA ⊢
 refine Calls.callWith_builtin (by show (false||(backTo cpos (starEach es X.env)).any (·.1))=false;rw[hplain]<;>rfl) (Calls.evalArgs_plain ?_)
 exact thn hA fun us s2 ⟨vs,H2,I2,r2,q2⟩=>hm pins s2 σ H2 x vs v us Q I2 r1 r2 q2
/- xs.append(e),list.index on a module's tuple .. are MtR facts of 06m -/
end
end L2
namespace L2
open PySem PySem.Spec PyProof.Rows
def MtM(X:Cx)(id:String)(r:V→List V→Hp→VK→Prop):Prop:=
 ∀(pins:List (Addr × Obj)) (s:Shared) (σ:St) (H:Hp) (x:V) (xs:List V) (v:Value) (us:List Value) (Q:VK),Inv X pins σ H s→RelV x v→Vals xs us→r x xs H Q →
  wpAny (model X.prog X.w) X.A (call (.builtin id) (v::us)) (EP X pins σ Q) X.xe s
theorem Vals.one:∀{x:V} {us:List Value},Vals [x] us→∃u,us=[u]∧RelV x u
 |_,_,.cons r .nil=>⟨_,rfl,r⟩
theorem Vals.rep{xs:List V}{us:List Value}(h:Vals xs us):∀k:Nat,Vals (List.replicate k xs).flatten (List.replicate k us).flatten
 |0=>.nil
 |k+1=>by
  rw[List.replicate_succ,List.replicate_succ,List.flatten_cons,List.flatten_cons]
  exact Vals.append h (Vals.rep h k)
theorem foldl_rep(its:List Value):∀(k:Nat) (acc:List Value),
 List.foldl (fun x1 x2=>x1++x2) acc.toArray (List.replicate k its.toArray)=(acc++(List.replicate k its).flatten).toArray
 |0,acc=>by simp
 |k+1,acc=>by
  have e:acc.toArray++its.toArray=(acc++its).toArray:=by simp
  have e2:(acc++its)++(List.replicate k its).flatten=acc++(List.replicate (k+1) its).flatten:=by
   rw[List.replicate_succ,List.flatten_cons,List.append_assoc]
  rw[←e2,←foldl_rep its k (acc++its),←e,List.replicate_succ,List.foldl_cons]
section
variable {X:Cx}{pins:List (Addr × Obj)}{σ:St}{H:Hp}{s:Shared}{l b:Addr}{xs ys zs:List V}
theorem Inv.Yy{its its':List Value}{n:Nat}{f:Array Value→Array Value}{t':Nat}(I:Inv X pins σ H s)(hH:H l=some (.lst xs))
 (e:s.heap.get? l=some {cls:=.type "list",data:=.seq its.toArray n}) (hf:f its.toArray=its'.toArray) (hv:Vals ys its') (hz:ys.length≤sizeLine) :
 Inv X pins σ (upd H l (.lst ys)) {s with heap:=s.heap.update l (Obj.mapSeq f),toks:=t'}:=by
 have q:=PySem.IsL.update e f
 rw[hf]at q
 refine I.write (x:=l) (e:=l) (by rw[hH];exact trivial) (.inl rfl) (fun b' u hb hu=>(Heap.get?_update_other s.heap (Obj.mapSeq f) (Ne.symm hb)).trans hu) ⟨_,q⟩ ?_
 exact⟨hz,its',_,hv,q⟩
theorem Inv.Yw{its:List Value}{t':Nat}(I:Inv X pins σ H s)(hv:Vals ys its)(hz:ys.length≤sizeLine) :
 Inv X pins σ (upd H s.heap.objs.size (.lst ys)) {s with heap:=s.heap.push {cls:=.type "list",data:=.seq its.toArray},toks:=t'}:=
 I.laid (fun _ _ q=>Heap.get?_push_of_some _ q) (Nat.le_refl _) ⟨hz,its,0,hv,Heap.get?_push_size _ rfl⟩
theorem Inv.fresh(I:Inv X pins σ H s):H s.heap.objs.size=none:=I.hok.fresh (Nat.le_refl _)
theorem Inv.jA(I:Inv X pins σ H s)(hH:H l=some (.lst xs)):xs.length≤sizeLine∧∃(its:List Value) (n:Nat),Vals xs its∧xs.length=its.length∧s.heap.get? l=some {cls:=.type "list",data:=.seq its.toArray n}:=by
 obtain⟨z,its,n,r,e⟩:=I.hok l _ hH
 exact⟨z,its,n,r,r.length,e⟩
theorem oT{n:Nat}(h:n≤sizeLine):Builtin.List.listTooLong n=false:=by
 unfold Builtin.List.listTooLong
 exact decide_eq_false (by omega)
end
section
variable {X:Cx}
noncomputable def l7:V→List V→Hp→VK→Prop:=fun x vs H Q=>∃l xs y,x=.ref l∧vs=[y]∧H l=some (.lst xs)∧xs.length<sizeLine∧Q .non (upd H l (.lst (xs++[y])))
theorem qQ:MtM X "list.append" l7:=by
 intro pins s σ H x vs v us Q I rx rv h
 obtain⟨l,xs,y,rfl,rfl,hH,hz,q⟩:=h
 cases rx
 obtain⟨u,rfl,ru⟩:=rv.one
 obtain⟨z,its,n,r,hl,e⟩:=I.jA hH
 refine call_meets F.slot_list_append ⟨_,e,rfl⟩ F.entry_list_append (F.args_list_append_2 _ _) (PySem.list_append l its.toArray n u (by rw[List.size_toArray];omega)) ⟨e,?_⟩
 refine⟨.non,_,I.Yy (its':=its++[u]) hH e (by simp) (r.append (.cons ru .nil)) ?_,rfl,q⟩
 rw[List.length_append,List.length_singleton]
 omega
noncomputable def kA:V→List V→Hp→VK→Prop:=fun x vs H Q=>∃l b xs zs,x=.ref l∧vs=[.ref b]∧H l=some (.lst xs)∧H b=some (.lst zs)∧xs.length+zs.length≤sizeLine∧Q .non (upd H l (.lst (xs++zs)))
theorem jG:MtM X "list.extend" kA:=by
 intro pins s σ H x vs v us Q I rx rv h
 obtain⟨l,b,xs,zs,rfl,rfl,hH,hB,hz,q⟩:=h
 cases rx
 obtain⟨u,rfl,ru⟩:=rv.one
 cases ru
 obtain⟨z,its,n,r,hl,e⟩:=I.jA hH
 obtain⟨z2,its2,n2,r2,hl2,e2⟩:=I.jA hB
 have hsz:its.toArray.size+its2.toArray.size≤sizeLine:=by rw[List.size_toArray,List.size_toArray];omega
 have hlong:¬(!its.toArray.isEmpty&&Builtin.List.listTooLong (its.toArray.size+its2.toArray.size))=true:=by
  rw[oT hsz,Bool.and_false]
  exact Bool.false_ne_true
 refine call_meets F.slot_list_extend ⟨_,e,rfl⟩ F.entry_list_extend (F.args_list_extend_2 _ _)
  (AutoSeq1.list_extend_list_list_0 l its.toArray n b its2.toArray n2 hlong (by rw[List.size_toArray];omega) (by omega)) ⟨e,e2,?_⟩
 refine⟨.non,_,I.Yy (its':=its++its2) hH e (by simp) (r.append r2) ?_,rfl,q⟩
 rw[List.length_append]
 omega
noncomputable def WS:R2:=fun x y H Q=>∃l b xs zs,x=.ref l∧y=.ref b∧H l=some (.lst xs)∧H b=some (.lst zs)∧xs.length+zs.length≤sizeLine∧∀p,H p=none→Q (.ref p) (upd H p (.lst (xs++zs)))
theorem ZR:OpR X (binaryOp .Add) WS:=by
 intro pins s σ H x y v u Q I rx ry h
 obtain⟨l,b,xs,zs,rfl,rfl,hH,hB,hz,q⟩:=h
 cases rx
 cases ry
 obtain⟨z,its,n,r,hl,e⟩:=I.jA hH
 obtain⟨z2,its2,n2,r2,hl2,e2⟩:=I.jA hB
 refine PySem.P.add_list e e2 ?_ (by rw[List.size_toArray,List.size_toArray];omega)
 have ea:its.toArray++its2.toArray=(its++its2).toArray:=by simp
 rw[ea]
 exact⟨.ref _,_,I.Yw (t':=s.toks) (r.append r2) (by rw[List.length_append];omega),rfl,q _ I.fresh⟩
noncomputable def WT:R2:=fun x y H Q=>∃l k xs,x=.ref l∧y=.int k∧H l=some (.lst xs)∧-(2 ^ 63)≤k∧k<2 ^ 63∧xs.length*k.toNat≤sizeLine ∧
 ∀p,H p=none→Q (.ref p) (upd H p (.lst (List.replicate k.toNat xs).flatten))
theorem len_rep{α:Type}(xs:List α)(k:Nat):(List.replicate k xs).flatten.length=k*xs.length:=by
 induction k with
 |zero=>simp
 |succ k ih=>rw[List.replicate_succ,List.flatten_cons,List.length_append,ih,Nat.succ_mul,Nat.add_comm]
theorem ZW:OpR X (binaryOp .Mult) WT:=by
 intro pins s σ H x y v u Q I rx ry h
 obtain⟨l,k,xs,rfl,rfl,hH,h1,h2,hz,q⟩:=h
 cases rx
 obtain⟨t,rfl⟩:=ry
 obtain⟨z,its,n,r,hl,e⟩:=I.jA hH
 have hlen:its.toArray.size*k.toNat≤sizeLine:=by rw[List.size_toArray,←hl];exact hz
 have hcap:¬its.toArray.size*k.toNat > (2 ^ 63-1)/8:=by
  have:(sizeLine:Nat)≤(2 ^ 63-1)/8:=by decide
  omega
 have hfit:¬(!Builtin.List.listFitsIndex k)=true:=by
  rw[fitsIndex_both h1 h2]
  exact Bool.false_ne_true
 have hlong:¬Builtin.List.listTooLong (its.toArray.size*k.toNat)=true:=by
  rw[oT hlen]
  exact Bool.false_ne_true
 have hnew:List.foldl (fun x1 x2=>x1++x2) #[] (List.replicate (if its.toArray.isEmpty=true then 0 else k.toNat) its.toArray)=(List.replicate k.toNat its).flatten.toArray:=by
  have f0:∀m:Nat,List.foldl (fun x1 x2=>x1++x2) #[] (List.replicate m its.toArray)=(List.replicate m its).flatten.toArray:=fun m=>by
   have:=foldl_rep its m []
   rw[List.nil_append]at this
   exact this
  rw[f0]
  cases its with
  |nil=>simp
  |cons a r'=>rw[if_neg (by simp)]
 refine wpAny_binaryOp_repeat_ref (T:="list") (U:="int") (by decide) ⟨_,e,rfl⟩ (fun s'=>typeIs_int s' k t) noFill_list_mul F.fills_int_mul F.slot_int_rmul repeat_list F.slot_int_index.lookup
  (call_meets F.slot_int_rmul (typeIs_int s k t) F.entry_int_rmul (F.args_int_rmul_2 _ _) (int___rmul___int_list k t l its.toArray n)
   ⟨e,rfl,⟨_,e,rfl⟩,call_meets F.slot_list_mul ⟨_,e,rfl⟩ F.entry_list_mul (F.args_list_mul_2 _ _) (AutoListH.list___mul___list_int_3 l its.toArray n k t hfit hcap hlong) ⟨e,?_⟩⟩)
 rw[hnew]
 exact⟨.ref _,_,I.Yw (t':=s.toks) (r.rep k.toNat) (by rw[len_rep,Nat.mul_comm];exact hz),rfl,q _ I.fresh⟩
end
end L2
namespace Att
open PySem PySem.W PySem.Calls PyProof.Rows
theorem td{P:Params}{h:Heap}:∀(ns:List Int) (vs:List Value),WellAll P h vs (ns.map WData.int)→IntsAre vs ns:=by
 intro ns
 induction ns with
 |nil=>
  intro vs w
  rw[List.map_nil]at w
  cases w
  exact .nil
 |cons n ns ih=>
  intro vs w
  rw[List.map_cons]at w
  cases w with
  |cons a b=>
   cases a
   exact .cons _ _ (ih _ b)
theorem jv{l:OpenLaw}{n:Nat}(hn:l.most=some n){P:Params}{h:Heap}{args:List WData}{vals:List Value}
 (hpre:l.row.toRowW.claim.pre args=true) (hwl:WellAll P h vals args) :
 ∃a vs ns,vals=[Value.ref a]∧args=[WData.list (ns.map WData.int)]∧h.get? a=some {cls:=.type "list",data:=.seq vs.toArray}∧IntsAre vs ns∧ns.length≤n:=by
 have hsh:WShape.hasAll [] args [.list .int]=true:=(pre_splitW hpre).1
 have hc:l.pre.holds [] {args:=args}=true:=(pre_splitW hpre).2
 obtain⟨d,r,rfl,h1,h2⟩:=hasAllW_cons hsh
 obtain rfl:=hasAllW_nil h2
 obtain⟨xs,rfl,h3⟩:=hasW_list h1
 obtain⟨ns,rfl⟩:=items_int h3
 have hlen:ns.length≤n:=by
  unfold OpenLaw.pre at hc
  have h4:(WTm.not (.lt (.lit (.int (n:Int))) (.len (.arg 0)))).holds [] {args:=[.list (ns.map .int)]}=true:=by
   have h4:=(holds_andW hc).1
   rw[hn]at h4
   exact h4
  have h5:=condW_of h4 (w_not (w_lt w_lit (w_len_list (w_arg rfl))))
  rw[List.length_map]at h5
  refine Nat.le_of_not_lt fun q=>?_
  have q':(n:Int)<((ns.length:Nat):Int):=by omega
  first
   |(rw[decide_eq_true q']at h5;exact absurd h5 (by decide))
   |(simp at h5;omega)
 cases hwl with
 |cons w1 w2=>
  cases w2
  cases w1 with
  |list ho hall=>exact⟨_,_,ns,rfl,rfl,ho,td ns _ hall,hlen⟩
theorem jh(l:OpenLaw)(args:List WData):l.row.toRowW.claim.post args (.bool true) args=true:=
 postW_of (r:=l.row.toRowW) (X:=(true == true))
  (show WShape.has [] (.bool true) .bool=true by first|rfl|decide|simp[WShape.has,WShape.arms,WShape.armsAll])
  (show (WTm.eq .res (.lit (.bool true))).value [] {args:=args,res:=some (.bool true),after:=args}=some (.bool (true == true)) from w_eq_bool (w_res rfl) w_lit) rfl
theorem p5{l:OpenLaw}{n:Nat}{q:Program}{loose:List Str}{XP:(Str→Option Value)→Heap→Prop}{YP:World→Heap→Prop}{d:DefRec}
 (hn:l.most=some n) (hdf:d.params.defaults=[])
 (call:∀(w:World) (s₀ s₁:Shared) (mg mb:Str→Option Value) (fa:Addr) (o:Obj) (pm cd doc:Value) (a:Addr) (vs:List Value) (ns:List Int),
  Ground q loose [] XP w s₀ mg mb s₁.heap→YP w s₁.heap →
  s₁.heap.get? fa=some o→o.data=.func (docDef d.name d.params d.body d.scope pm cd doc)→s₁.heap.CodeRec cd d.name→mg d.name=some (.ref fa) →
  s₁.heap.get? a=some {cls:=.type "list",data:=.seq vs.toArray}→IntsAre vs ns→ns.length≤n→s₁.gens=#[] →
  codeAny (model l.prog w) callerA (.call (.ref fa) ⟨[.ref a],[]⟩) (fun r s'=>r=.ok (.ret (.bool true))∧OldK s₁.heap s'.heap∧s'.os=s₁.os∧AllBare s'.gens) s₁) :
 WalkO q loose XP YP l.row.toRowW d [] (fun f vs=>PySem.call f vs):=by
 intro w s₀ s₁ mg mb G Y fa o pm cd doc dV kV ho hd hcd hD hmg hg args vals as hpre hlay hrd hwl hlo
 obtain rfl:dV=.none:=Dflts.none hD hdf
 obtain rfl:kV=.none:=Dflts.noKw hD
 obtain⟨a,vs,ns,rfl,rfl,hobj,hints,hlen⟩:=jv hn hpre hwl
 refine enter_call (codeAny_mono (call w s₀ s₁ mg mb fa o pm cd doc a vs ns G Y ho (fd_plain hd) hcd hmg hobj hints hlen hg) fun r s' hq=>?_)
 obtain⟨rfl,h2,h3,h4⟩:=hq
 exact⟨.inl ⟨.bool true,.bool true,[],rfl,fun _=>rfl,.bool true,jh l _,fun _=>⟨List.Pairwise.nil,fun _ hm=>(nomatch hm)⟩⟩,h2,h3,h4⟩
section
variable {prog:Program}{w:World}{A:Around}{E:Value→Shared→Prop}{s:Shared}{K:Frag}
noncomputable def tF(h:Heap):Heap:={h with objs:=#[]}
theorem su(h:Heap)(b:Addr):(tF h).get? b=none:=by
 cases e:(tF h).get? b with
 |none=>rfl
 |some o=>exact absurd (Heap.lt_size e) (Nat.not_lt_zero _)
theorem aK{h:Heap}{L:Addr}{m:Str→Option Value}(n:h.Ns L m):Fr (tF h) L h m:=
 ⟨n,fun b o e=>(by rw[su]at e;cases e),Nat.zero_le _⟩
end
end Att
namespace L2
open PySem PySem.Spec PyProof.Rows
theorem qa:∀{vs:List Value} {ns:List Int},IntsAre vs ns→Vals (ns.map V.int) vs
 |_,_,.nil=>.nil
 |_,_,.cons n t h=>.cons ⟨t,rfl⟩ (qa h)
def br(H:Hp):Prop:=∀b,H b=none∨∃o xs,H b=some (.frz o (.lst xs))
theorem gJ{P:Program}{w:World}{K:PySem.W.Frag}{mg mb:Str→Option Value}{CX:CXT}{k:Nat}{fa a:Addr}{fd:FuncData}{x:Str}{sp:Sp}{s₁:Shared}{vs:List Value}{ns:List Int}
 (KX:K.In s₁.heap) (hns:s₁.heap.Ns mainGlobals mg) (hb:s₁.heap.Ns builtinsNs mb) (hbb:∀x:Str,x≠"__name__"→mb x=bootBuiltins x) (hlim:s₁.heap.NoLimit) (hg:s₁.gens=#[])
 (ha:s₁.heap.get? a=some {cls:=.type "list",data:=.seq vs.toArray}) (hi:IntsAre vs ns) (hl:ns.length≤sizeLine) (hr:xG k callerA)
 (F:∀base:Heap,K.In base→base.Ns mainGlobals mg→tY P w K mg base CX k fa fd [x] sp) (hbind:∀(s:Shared) (u:Value),BindsTo s fd ⟨[u],[]⟩ [(x,u)])
 (hsp:∀H:Hp,br H→SqL K H a (ns.map V.int)→sp [.ref a] H (fun v _=>v=.bl true) fun _ _ _=>False)
 (hCX:∀H e s',CX [] H s₁ (fun _ _ _=>False) e s'→False) :
 codeAny (model P w) callerA (.call (.ref fa) ⟨[.ref a],[]⟩) (fun r s'=>r=.ok (.ret (.bool true))∧OldK s₁.heap s'.heap∧s'.os=s₁.os∧AllBare s'.gens) s₁:=by
 have rv:=qa hi
 have lenV:=hi.length
 -- from an abstract heap in which nothing but the script may be tracked
 have core:∀H:Hp,br H→SqL K H a (ns.map V.int)→HOk P w H s₁.heap→(∀b,H b≠none→b=a)→(H a≠none→K.lookup a=none) →
  codeAny (model P w) callerA (.call (.ref fa) ⟨[.ref a],[]⟩) (fun r s'=>r=.ok (.ret (.bool true))∧OldK s₁.heap s'.heap∧s'.os=s₁.os∧AllBare s'.gens) s₁:=by
  intro H hO hS hok hA hK
  have wu:∀{b:Addr} {o:Obj},s₁.heap.get? b=some o→H b=none→(q0 s₁.heap H).get? b=some o:=fun e n=>ik e n
  have noA:∀{b:Addr} {o:Obj} {es:Array DictEntry} {ep:Nat},s₁.heap.get? b=some o→o.data=.dict es ep→H b=none:=fun{b o es ep} e d=>by
   cases q:H b with
   |none=>rfl
   |some u=>
    have e':b=a:=hA b (by rw[q];simp)
    subst e'
    rw[ha]at e;cases e
    have d':Data.seq vs.toArray _=Data.dict es ep:=d
    cases d'
  have nsK:∀{b:Addr} {m:Str→Option Value},s₁.heap.Ns b m→(q0 s₁.heap H).Ns b m:=fun{b m} ⟨o,es,ep,e,d,r⟩=>⟨o,es,ep,wu e (noA e d),d,r⟩
  have hKb:K.In (q0 s₁.heap H):=fun b o e=>wu (KX b o e) (by
   cases q:H b with
   |none=>rfl
   |some u=>
    have e':b=a:=hA b (by rw[q];simp)
    subst e'
    rw[hK (by rw[q];simp)]at e;cases e)
  have hM:Mod K mg (q0 s₁.heap H):=⟨hKb,nsK hns,⟨mb,nsK hb,hbb⟩,let ⟨mc,h1,h2⟩:=hlim;⟨mc,nsK h1,h2⟩⟩
  have e0:fm P w K mg (q0 s₁.heap H) callerA [] s₁ H:=⟨rfl,hM,fun b o e=>dB e,Nat.le_of_eq (kc _ _),trivial,fun b hb=>absurd (show b∈([]:List Addr) from hb) (by simp),hok,.of_eq hg⟩
  refine codeAny_mono ((F _ hKb (nsK hns)).run callerA [] s₁ H ⟨[.ref a],[]⟩ [.ref a] [.ref a] _ _ hr e0 (hbind s₁ (.ref a)) (.cons rfl .nil) (hsp H hO hS)) fun r s' h=>?_
  cases r with
  |error e=>exact(hCX H e s' h).elim
  |ok fl=>
   cases fl with
   |next=>exact False.elim h
   |brk=>exact False.elim h
   |cont=>exact False.elim h
   |ret u=>
    obtain⟨v,H',os,bare,un,hok',r',q⟩:=h
    have q':v=.bl true:=q
    subst q'
    obtain rfl:u=Value.bool true:=r'
    refine⟨rfl,OldK.of_keep fun b o e=>?_,os,bare⟩
    cases q:H b with
    |none=>exact un.keep b o e q (by intro z;exact absurd (show b∈([]:List Addr) from z) (by simp)) (by simp)
    |some u=>
     rcases hO b with z|⟨ob,xs,z⟩
     . rw[q]at z;cases z
     . have z2:=un.frzs b ob _ z
       obtain⟨e1,_⟩:=hok b _ z
       obtain⟨e2,_⟩:=hok' b _ z2
       rw[e]at e1;cases e1
       exact e2
 cases hk:K.lookup a with
 |some o=>
  -- the script is one of the module's own objects
  have e:=KX a o hk
  rw[ha]at e
  cases e
  refine core (fun _=>none) (fun _=>.inl rfl) (.inr ⟨_,vs.toArray,_,hk,rfl,rfl,rfl,by rw[List.size_toArray,lenV];exact hl,by simpa using rv⟩) (fun b u z=>by have z':(none:Option HO)=some u:=z;cases z') (fun b z=>absurd rfl z) fun z=>absurd rfl z
 |none=>
  refine core (fun b=>if b=a then some (.frz {cls:=.type "list",data:=.seq vs.toArray} (.lst (ns.map V.int))) else none) (fun b=>?_) (.inl (.inr ⟨{cls:=.type "list",data:=.seq vs.toArray},if_pos rfl⟩)) (fun b u z=>?_) (fun b z=>?_) fun _=>hk
  . by_cases hb:b=a
    . exact .inr ⟨_,_,if_pos hb⟩
    . exact .inl (if_neg hb)
  . by_cases hb:b=a
    . have z':=(if_pos hb).symm.trans z
      cases z'
      subst hb
      exact⟨ha,by rw[List.length_map];exact hl,vs,_,rv,ha⟩
    . have z':=(if_neg hb).symm.trans z
      cases z'
  . by_cases hb:b=a
    . exact hb
    . exact absurd (if_neg hb) z
end L2
namespace L2
open PySem PySem.Spec PyProof.Rows
theorem bF{l:PySem.W.OpenLaw}{n k:Nat}{q:Program}{loose:List Str}{XP:(Str→Option Value)→Heap→Prop}{YP:World→Heap→Prop}{d:DefRec}{K:Params→PySem.W.Frag}{CX:World→CXT}{sp:World→Sp}{x:Str}
 (hn:l.most=some n) (hn2:n≤sizeLine) (hdf:d.params.defaults=[]) (hr:xG k callerA)
 (hY:∀(w:World) (h:Heap),YP w h→(K w.params).In h)
 (F:∀(w:World) (mg:Str→Option Value) (fa:Addr) (h:Heap),(K w.params).In h→h.Ns mainGlobals mg→mg d.name=some (.ref fa) →
  ∃fd:FuncData,(∀(s:Shared) (u:Value),BindsTo s fd ⟨[u],[]⟩ [(x,u)]) ∧
   ∀base:Heap,(K w.params).In base→base.Ns mainGlobals mg→tY l.prog w (K w.params) mg base (CX w) k fa fd [x] (sp w))
 (hsp:∀(w:World) (H:Hp) (a:Addr) (ns:List Int),ns.length≤n→br H→SqL (K w.params) H a (ns.map V.int)→sp w [.ref a] H (fun v _=>v=.bl true) fun _ _ _=>False)
 (hCX:∀(w:World) (H:Hp) (s:Shared) (e:Value) (s':Shared),CX w [] H s (fun _ _ _=>False) e s'→False) :
 PySem.W.WalkO q loose XP YP l.row.toRowW d [] (fun f vs=>PySem.call f vs):=by
 refine Att.p5 hn hdf fun w s₀ s₁ mg mb fa o pm cd doc a vs ns G Y ho hd hcd hmg hobj hints hlen hg=>?_
 have KX:=hY w _ Y
 obtain⟨fd,hb,hF⟩:=F w mg fa _ KX G.T.g hmg
 exact gJ KX G.T.g G.T.b G.T.builtins G.T.nolimit hg hobj hints (Nat.le_trans hlen hn2) hr hF hb (fun H hO hS=>hsp w H a ns hlen hO hS) fun H e s'=>hCX w H s₁ e s'
end L2
/- THE LAST THEOREM (shape;LID,My.* are yours):
   My.Adr: a structure of the addresses that your layer names (classes,functions);My.Txt K t: a structure (Prop) of the equations over K;
   My.txt_mk:{K} {implicit addresses ..} (e1:nsIn K mainGlobals "law"=some (some (.ref f))) (e2:K.lookup f=some ⟨oc,od,.func (fnOf "law" "law" params body scope dV kV doc pm an cdv ct),sl⟩) (e3:codeIn K cdv "law"=true) ..:∃t,My.Txt K t
(the tactic k_is has no namespace: write k_is) -/
namespace L2
open PySem PySem.Spec PyProof.Rows
noncomputable def wy(s:Stmt):Arguments:=match s with
 |.FunctionDef _ a _ _ _ _ _ _ _ _=>a
 |_=>{posonlyargs:=[],args:=[],vararg:=none,kwonlyargs:=[],kw_defaults:=[],kwarg:=none,defaults:=[]}
noncomputable def xa(s:Stmt):List Stmt:=match s with
 |.FunctionDef _ _ b _ _ _ _ _ _ _=>b
 |_=>[]
noncomputable def zp(s:Stmt):Scope:=match s with
 |.FunctionDef _ _ _ _ _ _ sc _ _ _=>sc
 |_=>{kind:=.function,names:=[],isGenerator:=false,isCoroutine:=false}
noncomputable abbrev CX0:CXT:=fun _ _ _ _ _ _=>False
noncomputable abbrev E0:XK:=fun _ _ _=>False
theorem bT{X:Cx}:Passes CX0 X E0:=fun _ _ _ _ _ _ _ h=>h.elim
structure Fun(K:PySem.W.Frag)(x qual:Str)(st:Stmt)(f:Addr)(fd:FuncData):Prop where
 ex:∃(oc:Value) (od:Option Addr) (kV doc pm:Value) (an:Option Addr) (cdv ct:Value) (osl:Array (Option Value)),
  fd=PySem.W.fnOf x qual (wy st) (xa st) (zp st) .none kV doc pm an cdv ct∧K.lookup f=some ⟨oc,od,.func fd,osl⟩∧PySem.W.codeIn K cdv qual=true
 kp:PySem.W.keepIn K (.ref f)=true
section
variable {P:Program}{w:World}{K:PySem.W.Frag}{mg:Str→Option Value}{base:Heap}
theorem Fun.ok{x qual:Str}{st:Stmt}{f:Addr}{fd:FuncData}{N ps:List Str}{k:Nat}{sp:Sp}(F:Fun K x qual st f fd)(S:tx N ps (zp st))(len:∀vs H Q E,sp vs H Q E→vs.length=ps.length)
 (hbody:∀(cdv:Value) (A:Around) (outer:List Env) (s:Shared) (H:Hp) (vs:List V) (Q:VK) (E:XK),xG k (A.deeper (envOfC qual (zp st) s.heap.objs.size f cdv))→sp vs H Q E →
  ∃t,PSs (nV CX0 P w K mg base N qual (zp st) f cdv A outer s H E).nox (xa st) t∧t {nx:=fun _ H'=>Q .non H',rt:=Q} (start N vs) H):tY P w K mg base CX0 (k+1) f fd ps sp:=by
 obtain⟨oc,od,kV,doc,pm,an,cdv,ct,osl,rfl,lk,hcd⟩:=F.ex
 refine YW lk hcd S len fun A outer s H vs Q E hr hsp=>?_
 obtain⟨t,h,q⟩:=hbody cdv A outer s H vs Q E hr hsp
 exact⟨t,h.nox,q⟩
theorem Fun.binds{x qual:Str}{st:Stmt}{f:Addr}{fd:FuncData}{ps:List Str}(F:Fun K x qual st f fd)
 (h:∀(kV doc pm:Value) (an:Option Addr) (cdv ct:Value) (us:List Value),us.length=ps.length→bindArgs (PySem.W.fnOf x qual (wy st) (xa st) (zp st) .none kV doc pm an cdv ct) ⟨us,[]⟩=pure (ps.zip us)):Binds K fd ps []:=by
 obtain⟨oc,od,kV,doc,pm,an,cdv,ct,osl,rfl,lk,hcd⟩:=F.ex
 exact .all (h kV doc pm an cdv ct)
theorem aL{x qual:Str}{st:Stmt}{f:Addr}{oc:Value}{od an:Option Addr}{osl:Array (Option Value)}{kV doc pm cdv ct:Value}(l:K.lookup f=some ⟨oc,od,.func (PySem.W.fnOf x qual (wy st) (xa st) (zp st) .none kV doc pm an cdv ct),osl⟩)
 (c:PySem.W.codeIn K cdv qual=true) (k:PySem.W.keepIn K (.ref f)=true):Fun K x qual st f (PySem.W.fnOf x qual (wy st) (xa st) (zp st) .none kV doc pm an cdv ct):=⟨⟨oc,od,kV,doc,pm,an,cdv,ct,osl,rfl,l,c⟩,k⟩
end
theorem rT{A B:Prop}(h:B):if false=true then A else B:=by
 rw[if_neg Bool.false_ne_true]
 exact h
theorem rV{A B:Prop}(h:A):if true=true then A else B:=by
 rw[if_pos rfl]
 exact h
def sF(H H':Hp):Prop:=∀b o,H b=some o→H' b=some o
theorem sF.refl(H:Hp):sF H H:=fun _ _ h=>h
end L2
end
section
namespace L2
open PySem PySem.Spec PyProof.Rows
noncomputable def vz(cells:List (Str × Addr)):List (Str × NameKind)→List (Str × Addr)→List (Str × Addr)
 |[],acc=>acc
 |(n,k)::r,acc=>if k == .free then (match cells.lookup n with|some c=>vz cells r ((n,c)::acc)|none=>vz cells r acc) else vz cells r acc
theorem v3{env:Env}:∀(names:List (Str × NameKind)) (acc:List (Str × Addr)),(∀x∈names,x.2=.free→∃c,env.cells.lookup x.1=some c) →
 (forIn names acc fun(x:Str × NameKind) (cs:List (Str × Addr))=>(if x.2 == .free then do let a ←cellOf env x.1;pure (ForInStep.yield ((x.1,a)::cs)) else pure (ForInStep.yield cs):Sem (ForInStep (List (Str × Addr)))))=pure (vz env.cells names acc)
 |[],acc,_=>rfl
 |(n,k)::r,acc,h=>by
  rw[List.forIn_cons]
  dsimp only
  unfold vz
  by_cases hk:(k == NameKind.free)=true
  . have hk':k=.free:=by simpa using hk
    obtain⟨c,hc⟩:=h (n,k) List.mem_cons_self hk'
    have hc':env.cells.lookup n=some c:=hc
    have hcell:cellOf env n=pure c:=by unfold cellOf;rw[hc']
    rw[if_pos hk,if_pos hk,hcell,hc',pure_bind,pure_bind]
    exact v3 r _ fun x hx=>h x (List.mem_cons_of_mem _ hx)
  . rw[if_neg hk,if_neg hk,pure_bind]
    exact v3 r _ fun x hx=>h x (List.mem_cons_of_mem _ hx)
theorem vp{scope:Scope}{env:Env}(h:∀x∈scope.names,x.2=.free→∃c,env.cells.lookup x.1=some c):closureFor scope env=pure (vz env.cells scope.names []):=by
 have e:=v3 (env:=env) scope.names [] h
 show (do let cs ←forIn scope.names [] _;pure cs)=_
 refine Eq.trans ?_ e
 refine Eq.trans (bind_pure _) ?_
 congr 1
theorem vL{cells:List (Str × Addr)}:∀(names:List (Str × NameKind)) (acc:List (Str × Addr)),(∀x c,acc.lookup x=some c→cells.lookup x=some c)→∀x c,(vz cells names acc).lookup x=some c→cells.lookup x=some c
 |[],acc,h,x,c,e=>h x c e
 |(n,k)::r,acc,h,x,c,e=>by
  unfold vz at e
  by_cases hk:(k == NameKind.free)=true
  . rw[if_pos hk]at e
    cases hc:cells.lookup n with
    |none=>rw[hc]at e;exact vL r acc h x c e
    |some d=>
     rw[hc]at e
     refine vL r _ (fun y z q=>?_) x c e
     rw[List.lookup_cons]at q
     cases hy:(y == n) with
     |true=>rw[hy]at q;have hy':y=n:=by simpa using hy
            cases q;rw[hy'];exact hc
     |false=>rw[hy]at q;exact h y z q
  . rw[if_neg hk]at e;exact vL r acc h x c e
theorem wY{cells:List (Str × Addr)}:∀(names:List (Str × NameKind)) (acc:List (Str × Addr)) (x:Str) (c:Addr),cells.lookup x=some c→(acc.lookup x=some c∨(x,NameKind.free)∈names)→(∀y d,acc.lookup y=some d→cells.lookup y=some d)→(vz cells names acc).lookup x=some c
 |[],acc,x,c,_,h,_=>by
  rcases h with h|h
  . exact h
  . cases h
 |(n,k)::r,acc,x,c,hc,h,ha=>by
  unfold vz
  by_cases hk:(k == NameKind.free)=true
  . rw[if_pos hk]
    cases hn:cells.lookup n with
    |none=>
     refine wY r acc x c hc ?_ ha
     rcases h with h|h
     . exact .inl h
     . rcases List.mem_cons.mp h with e|e
       . cases e;rw[hn]at hc;cases hc
       . exact .inr e
    |some d=>
     have ha':∀y z,((n,d)::acc).lookup y=some z→cells.lookup y=some z:=fun y z q=>by
      rw[List.lookup_cons]at q
      cases hy:(y == n) with
      |true=>rw[hy]at q;have hy':y=n:=by simpa using hy
             cases q;rw[hy'];exact hn
      |false=>rw[hy]at q;exact ha y z q
     by_cases hx:x=n
     . subst hx
       refine wY r _ x c hc (.inl ?_) ha'
       rw[hn]at hc;cases hc
       simp[List.lookup_cons]
     . refine wY r _ x c hc ?_ ha'
       rcases h with h|h
       . refine .inl ?_
         have:(x == n)=false:=by simpa using hx
         rw[List.lookup_cons,this];exact h
       . rcases List.mem_cons.mp h with e|e
         . cases e;exact absurd rfl hx
         . exact .inr e
  . rw[if_neg hk]
    refine wY r acc x c hc ?_ ha
    rcases h with h|h
    . exact .inl h
    . rcases List.mem_cons.mp h with e|e
      . cases e;exact absurd (by decide) hk
      . exact .inr e
noncomputable abbrev Cx.comp(X:Cx)(N:List Str)(sc:Scope)(C:Addr)(s:Shared)(H:Hp)(ex:List Addr):Cx:=
 {X with N:=N,s₀:=s,H₀:=H,env:=compEnvC sc (vz X.env.cells sc.names []) C X.env,outer:=X.stack,ex:=ex,fn:=fun _=>false,pn:=[],xe:=fun _ _=>False}
structure zq(X:Cx)(N:List Str)(sc:Scope)(fr:List (Option Nat)):Prop where
 kind:sc.kind=.function
 nocell:∀x∈sc.names,x.2≠.cell
 locals:∀x∈sc.names,x.2=.local→sc.names.lookup x.1=some .local
 free:∀x∈sc.names,x.2=.free→X.env.kindOf x.1=some .cell∨X.env.kindOf x.1=some .free
 len:fr.length=N.length
 from_:∀(i j:Nat) (x:Str),N[i]?=some x→fr[i]?=some (some j)→X.N[j]?=some x∧(x,NameKind.free)∈sc.names
 one:∀x,sc.names.lookup x=some .local→(x,NameKind.free)∈sc.names→False
noncomputable def zG(fr:List (Option Nat))(σ:St):St:=fr.map fun o=>match o with|some j=>(σ[j]?).join|none=>none
theorem pP{sc:Scope}{env:Env}{x:Str}(hn:∀y∈sc.names,y.2≠.cell)(h:(relabel sc env).names.lookup x=some .cell∨(relabel sc env).names.lookup x=some .free):(x,NameKind.free)∈sc.names:=by
 have key:∀(names:List (Str × NameKind)),(∀y∈names,y.2≠.cell)→((names.map fun(n,k)=>if (k == NameKind.free&&env.scope.kind == .function&&env.kindOf n == some .cell) then (n,NameKind.cell) else (n,k)).lookup x=some .cell ∨
  (names.map fun(n,k)=>if (k == NameKind.free&&env.scope.kind == .function&&env.kindOf n == some .cell) then (n,NameKind.cell) else (n,k)).lookup x=some .free)→(x,NameKind.free)∈names:=by
  intro names
  induction names with
  |nil=>intro _ h;simp at h
  |cons p r ih=>
   obtain⟨n,k⟩:=p
   intro hn h
   have hr:=fun y hy=>hn y (List.mem_cons_of_mem _ hy)
   have hk:=hn (n,k) List.mem_cons_self
   rw[List.map_cons]at h
   dsimp only at h
   by_cases hx:x=n
   . subst hx
     by_cases hf:k=.free
     . subst hf;exact List.mem_cons_self
     . have hf':(k == NameKind.free)=false:=by simpa using hf
       rw[hf']at h
       simp only[Bool.false_and,Bool.false_eq_true,if_false,List.lookup_cons,beq_self_eq_true]at h
       rcases h with h|h
       . cases h;exact absurd rfl hk
       . cases h;exact absurd rfl hf
   . refine List.mem_cons_of_mem _ (ih hr ?_)
     have hx':(x == n)=false:=by simpa using hx
     split at h<;>simpa only[List.lookup_cons,hx'] using h
 exact key sc.names hn h
theorem uf{sc:Scope}{env:Env}{x:Str}(hl:∀y∈sc.names,y.2=.local→sc.names.lookup y.1=some .local)(h:sc.names.lookup x=some .free) :
 (relabel sc env).names.lookup x=some .cell∨(relabel sc env).names.lookup x=some .free:=by
 have key:∀(names:List (Str × NameKind)),names.lookup x=some .free→((names.map fun(n,k)=>if (k == NameKind.free&&env.scope.kind == .function&&env.kindOf n == some .cell) then (n,NameKind.cell) else (n,k)).lookup x=some .cell ∨
  (names.map fun(n,k)=>if (k == NameKind.free&&env.scope.kind == .function&&env.kindOf n == some .cell) then (n,NameKind.cell) else (n,k)).lookup x=some .free):=by
  intro names
  induction names with
  |nil=>intro h;simp at h
  |cons p r ih=>
   obtain⟨n,k⟩:=p
   intro h
   rw[List.map_cons]
   dsimp only
   cases hx:(x == n) with
   |true=>
    rw[List.lookup_cons,hx]at h
    cases h
    split
    . left;simp only[List.lookup_cons,hx]
    . right;simp only[List.lookup_cons,hx]
   |false=>
    rw[List.lookup_cons,hx]at h
    have:=ih h
    split<;>simpa only[List.lookup_cons,hx] using this
 exact key sc.names h
section
variable {X:Cx}{pins:List (Addr × Obj)}{σ:St}{H:Hp}{s:Shared}{N:List Str}{sc:Scope}{fr:List (Option Nat)}{fp:List Addr}
theorem zq.cells(S:zq X N sc fr)(ok:X.Ok):∀x∈sc.names,x.2=.free→∃c,X.env.cells.lookup x.1=some c:=fun x hx hk=>ok.has x.1 (S.free x hx hk)
theorem eC(I:Inv X pins σ H s)(S:zq X N sc fr)(hf:∀b∈fp,vm X pins H b)(hlt:∀b∈fp,b<s.heap.objs.size):(X.comp N sc s.heap.objs.size s H fp).Ok:=by
 have sub:∀x c,(vz X.env.cells sc.names []).lookup x=some c→X.env.cells.lookup x=some c:=vL sc.names [] (fun x c e=>by simp at e)
 refine⟨I.ok.mod,S.kind,I.ok.glob,I.ok.blt,Nat.le_refl _,fun x y c e1 e2=>I.ok.inj x y c (sub x c e1) (sub y c e2),fun x h=>?_,fun x c h=>(nomatch h),I.ok.hd,I.ok.frames,.inl rfl,fun b hb=>?_,fun b o e=>I.bs b o e,?_,fun b o e hb=>?_,fun b hb z=>?_,I.stack,I.kC⟩
 . have m:(x,NameKind.free)∈sc.names:=pP S.nocell h
   obtain⟨c,hc⟩:=S.cells I.ok (x,.free) m rfl
   exact⟨c,wY sc.names [] x c hc (.inr m) (fun y d e=>by simp at e)⟩
 . obtain⟨f0,f1,f2,f3,f4,f5⟩:=hf b hb
   exact⟨Nat.ne_of_lt (hlt b hb),fun x c e=>f4 x c (sub x c e)⟩
 . exact Nat.le_trans I.ok.bsz I.sz
 . obtain⟨f0,f1,f2,f3,f4,f5⟩:=hf b hb
   rcases f3 with f3|f3
   . exact I.ok.noex b o e f3
   . exact absurd (Nat.lt_of_lt_of_le (Heap.lt_size e) (Nat.le_trans I.ok.bsz f3)) (Nat.lt_irrefl _)
 . obtain⟨f0,f1,f2,f3,f4,f5⟩:=hf b hb
   rcases List.mem_cons.mp (I.mY b z) with e|e
   . exact f1 e
   . exact f2 e
theorem nU{h':Heap}{tk:Nat}(I:Inv X pins σ H s)(S:zq X N sc fr)(hf:∀b∈fp,vm X pins H b)(hlt:∀b∈fp,b<s.heap.objs.size)
 (hns:h'.Ns s.heap.objs.size (fun _=>none)) (k:∀b o,s.heap.get? b=some o→h'.get? b=some o):Inv (X.comp N sc s.heap.objs.size s H fp) [] (zG fr σ) H {s with heap:=h',toks:=tk}:=by
 have sub:∀x c,(vz X.env.cells sc.names []).lookup x=some c→X.env.cells.lookup x=some c:=vL sc.names [] (fun x c e=>by simp at e)
 refine⟨eC I S hf hlt,rfl,I.bare,Un.kept k,⟨_,hns,fun i x v e1 e2 e3=>?_⟩,fun x c e=>?_,I.hok.fresh (Nat.le_refl _),fun x c e=>I.freeC x c (sub x c e),fun p hp=>(by simp at hp),I.hok.kept k,?_⟩
 . have e2':(fr.map fun o=>match o with|some j=>(σ[j]?).join|none=>none)[i]?=some (some v):=e2
   rw[List.getElem?_map]at e2'
   cases hfi:fr[i]? with
   |none=>rw[hfi]at e2';cases e2'
   |some o=>
    rw[hfi]at e2'
    cases o with
    |none=>cases e2'
    |some j=>
     obtain⟨n1,n2⟩:=S.from_ i j x e1 hfi
     have e3':σ[j]?=some (some v):=by
      have q:(σ[j]?).join=some v:=Option.some.inj e2'
      cases hσ:σ[j]? with
      |none=>rw[hσ]at q;cases q
      |some w=>rw[hσ]at q;cases w with
       |none=>cases q
       |some w'=>have:w'=v:=Option.some.inj q
                 rw[this]
     have hk:=S.free (x,.free) n2 rfl
     obtain⟨m,hn,hl⟩:=I.loc
     obtain⟨u,r,l⟩:=hl j x v n1 e3' (hk.elim (fun z=>.inr (.inl z)) fun z=>.inr (.inr z))
     refine⟨u,r,?_⟩
     rcases l with⟨hk',_⟩|⟨_,c,hc,z⟩
     . rcases hk with hk|hk<;>(rw[hk]at hk';cases hk')
     . refine .inr ⟨?_,c,wY sc.names [] x c hc (.inr n2) (fun y d e=>by simp at e),?_⟩
       . rcases e3 with e3|e3|e3
         . -- a local of that name: cannot be,the name is free in the block
           exfalso
           have hloc:sc.names.lookup x=some .local:=by
            have key:∀(names:List (Str × NameKind)),(names.map fun(n,k)=>if (k == NameKind.free&&X.env.scope.kind == .function&&X.env.kindOf n == some .cell) then (n,NameKind.cell) else (n,k)).lookup x=some .local→names.lookup x=some .local:=by
             intro names
             induction names with
             |nil=>intro h;simp at h
             |cons p r ih=>
              obtain⟨n,kk⟩:=p
              intro h
              rw[List.map_cons]at h
              dsimp only at h
              cases hx:(x == n) with
              |true=>
               split at h
               . simp only[List.lookup_cons,hx]at h;cases h
               . simp only[List.lookup_cons,hx]at h ⊢;exact h
              |false=>
               rw[List.lookup_cons,hx]
               refine ih ?_
               split at h<;>simpa only[List.lookup_cons,hx] using h
            exact key sc.names e3
           exact S.one x hloc n2
         . exact .inl e3
         . exact .inr e3
       . obtain⟨o,ho,hd⟩:=z
         exact⟨o,k _ _ ho,hd⟩
 . obtain⟨v,o,ho,hd⟩:=I.cell x c (sub x c e)
   exact⟨v,o,k _ _ ho,hd⟩
 . show (fr.map _).length=N.length
   rw[List.length_map];exact S.len
end
end L2
end
section
namespace L2
open PySem PySem.Spec PyProof.Rows
noncomputable def pd:List TT→TT
 |[]=>fun _ H Q=>Q true H
 |t::ts=>fun σ H Q=>t σ H fun c H1=>if c=true then pd ts σ H1 Q else Q false H1
inductive PTs(X:Cx):List Expr→List TT→Prop
 |nil:PTs X [] []
 |cons {c:Expr} {cs:List Expr} {t:TT} {ts:List TT}:PT X c t→PTs X cs ts→PTs X (c::cs) (t::ts)
theorem tX{X:Cx}{Q:Bool→Shared→Prop}{E:Value→Shared→Prop}{s:Shared}(h:Q false s):∀cs:List Expr,
 wpAny (model X.prog X.w) X.A (forIn cs false fun c r=>if r=true then do let ok ←isTrue c X.env (eval c X.env);pure (ForInStep.yield ok) else pure (ForInStep.yield r)) Q E s
 |[]=>wpAny_pure h
 |c::cs=>by
  rw[List.forIn_cons]
  exact wpAny_bind (wpAny_pure (tX h cs))
theorem PTs.run{X:Cx}:∀{cs:List Expr} {ts:List TT},PTs X cs ts→∀{pins:List (Addr × Obj)} {s:Shared} {σ:St} {H:Hp} {Q:Bool→Hp→Prop},Inv X pins σ H s→pd ts σ H Q →
 wpAny (model X.prog X.w) X.A (forIn cs true fun c r=>if r=true then do let ok ←isTrue c X.env (eval c X.env);pure (ForInStep.yield ok) else pure (ForInStep.yield r)) (TP X pins σ Q) X.xe s
 |_,_,.nil,pins,s,σ,H,Q,I,h=>wpAny_pure ⟨H,I,h⟩
 |_,_,.cons hc hs,pins,s,σ,H,Q,I,h=>by
  rw[List.forIn_cons]
  refine wpAny_bind (wpAny_bind (thn (hc pins s σ H _ I h) fun c s1 ⟨H1,I1,q1⟩=>wpAny_pure ?_))
  cases c with
  |true=>exact hs.run I1 q1
  |false=>exact tX ⟨H1,I1,q1⟩ _
noncomputable abbrev TB:=(St→Hp→Prop)→St→Hp→Prop
def PB(X:Cx)(B:Sem PUnit)(tb:TB):Prop:=
 ∀(pins:List (Addr × Obj)) (s:Shared) (σ:St) (H:Hp) (Nx:St→Hp→Prop),Inv X pins σ H s→tb Nx σ H→wpAny (model X.prog X.w) X.A B (fun _ s'=>∃σ' H',Inv X pins σ' H' s'∧Nx σ' H') X.xe s
noncomputable def tTB(ts:List TT)(tb:TB):TS:=fun D σ H=>pd ts σ H fun c H1=>if c=true then tb D.nx σ H1 else D.nx σ H1
def qV(J:It)(g:TG)(tb:TS)(D:Ends)(σ:St)(H:Hp):Prop:=∃W:Nat→Nat→St→Hp→Prop,(∃m,W 0 m σ H)∧∀i m σ H,W i m σ H →
 (J.stop i H∧D.nx σ H)∨(J.go i H∧∃N:St→Hp→Prop,(∀σ' H',N σ' H'→∃m',m'<m∧W (i+1) m' σ' H')∧∀x H',J.yld i H x H'→g x σ H' fun σ2 H2=>tb {D with nx:=N,ct:=N,bk:=D.nx} σ2 H2)
theorem wZ{X:Cx}{elt:Expr}{gens:List Comprehension}{csc:Scope}{cpos:Pos}{d:Nat}{tg:Expr}{p:Pos}{ifs:List Expr}{B:Sem PUnit}{acc:Value}{it:Addr}{fp:List Addr}{tn:Nat→Heap→Prop}{J:It}{g:TG}{ts:List TT}{tb:TB}{D:Ends}
 {pins:List (Addr × Obj)} {σ:St} {H:Hp} {s:Shared} {R:Result→Shared→Prop}
 (heq:compTurn (.ListComp elt gens csc cpos) d (.ref it) acc X.env=(do
  standAt p
  match ←pyNext (.ref it) with
  |none=>pure (.done .next)
  |some v=>
   letOwnedTupleGo tg (.ref it) v
   assign tg X.env v
   let mut ok:=true
   for c in ifs do
    if ok then ok ←isTrue c X.env (eval c X.env)
   if ok then B
   again (.compLoop (.ListComp elt gens csc cpos) d (.ref it) acc X.env)))
 (hx:X.xe=fun _ _=>False) (hc:X.calm=true) (T:Turn X.prog X.w X.K tg J fp it tn) (hg:PG X tg g) (ht:PTs X ifs ts) (hb:PB X B tb)
 (I:Inv X pins σ H s) (st:tn 0 s.heap) (f:∀b∈fp,vm X pins H b) (h:qV J g (tTB ts tb) D σ H)
 (hR:∀σ' H' s',Inv X pins σ' H' s'→D.nx σ' H'→(∀b∈fp,H' b=none)→R (.ok .next) s') :
 codeAny (model X.prog X.w) X.A (.compLoop (.ListComp elt gens csc cpos) d (.ref it) acc X.env) R s:=by
 obtain⟨W,⟨m0,w0⟩,turn⟩:=h
 have stat:∀{H':Hp},(∀b∈fp,H' b=none)→∀b∈fp,vm X pins H' b:=fun hn b hb=>⟨hn b hb,(f b hb).2⟩
 have no:∀{α:Type} {t:Sem α} {Q:α→Shared→Prop} {E':Value→Shared→Prop} {s:Shared},wpAny (model X.prog X.w) X.A t Q X.xe s→wpAny (model X.prog X.w) X.A t Q E' s:=fun h=>wpAny_mono h (fun _ _ q=>q) fun _ _ z=>by rw[hx]at z;exact z.elim
 refine codeAny_loop rfl (fun n s'=>∃i σ' H',Inv X pins σ' H' s'∧tn i s'.heap∧(∀b∈fp,H' b=none)∧W i n σ' H') (fun n s3 hI=>?_) m0 ⟨0,σ,H,I,st,fun b hb=>(f b hb).1,w0⟩
 obtain⟨i,σ3,H3,I3,st3,fr3,w3⟩:=hI
 show wpAny _ _ ((compTurn (.ListComp elt gens csc cpos) d (.ref it) acc X.env).onRaise (fun x=>do noteFrame x X.env;theTreesLotGoes x)) _ _ s3
 refine wpAny_noted ?_
 rw[heq]
 refine wpAny_bind (wpAny_standAt (wpAny_bind ?_))
 rcases turn i n σ3 H3 w3 with⟨stop,qn⟩|⟨go,N,hN,step⟩
 . refine no (thn (T.done X rfl rfl rfl hc i pins s3 σ3 H3 X.xe I3 (stat fr3) st3 stop) fun r s4 ⟨hr,I4⟩=>?_)
   subst hr
   exact wpAny_pure (hR σ3 H3 s4 I4 qn fr3)
 . refine no (thn (T.item X rfl rfl rfl hc i pins s3 σ3 H3 X.xe I3 (stat fr3) st3 go) fun r s4 ⟨u,hr,h4⟩=>?_)
   subst hr
   refine wpAny_bind (no (thn h4 fun _ s5 ⟨x,H5,I5,r5,y5,st5,fr5⟩=>?_))
   have I5':=I5.pinned (stat fr5) (T.obj _ _ st5)
   refine wpAny_bind (no (thn (hg _ s5 σ3 H5 x u _ I5' r5 (step x H5 y5)) fun _ s6 ⟨σ6,H6,I6,q6⟩=>?_))
   refine wpAny_bind (no (thn (ht.run I6 q6) fun ok s7 ⟨H7,I7,q7⟩=>?_))
   have again':∀{σ7:St} {H7:Hp} {s7:Shared},Inv X (pins++rC fp s5.heap) σ7 H7 s7→N σ7 H7→∃m,m<n∧∃i σ' H',Inv X pins σ' H' s7∧tn i s7.heap∧(∀b∈fp,H' b=none)∧W i m σ' H':=fun{σ7 H7 s7} I7 n7=>by
    obtain⟨m',hm,w7⟩:=hN σ7 H7 n7
    refine⟨m',hm,i+1,σ7,H7,I7.uq,T.keep _ _ _ st5 fun b hb o e=>(I7.pin (b,o) (List.mem_append_right _ (List.mem_append_right _ (w6 hb e)))).1,fun b hb=>?_,w7⟩
    obtain⟨o,e,d⟩:=T.obj _ _ st5 b hb
    exact(I7.pin (b,o) (List.mem_append_right _ (List.mem_append_right _ (w6 hb e)))).2.1
   cases ok with
   |false=>exact wpAny_pure ⟨rfl,again' I7 q7⟩
   |true=>exact wpAny_bind (no (thn (hb _ s7 σ6 H7 N I7 q7) fun _ s8 ⟨σ8,H8,I8,n8⟩=>wpAny_pure ⟨rfl,again' I8 n8⟩))
noncomputable def vt(acc:Addr)(te:TE):TB:=fun Nx σ H=>te σ H fun y H1=>∃ys,H1 acc=some (.lst ys)∧ys.length<sizeLine∧Nx σ (upd H1 acc (.lst (ys++[y])))
theorem sC{X:Cx}{acc:Addr}{elt:Expr}{te:TE}(he:PE X elt te):PB X (do let _ ←call (.builtin "list.append") [.ref acc,←eval elt X.env]) (vt acc te):=by
 intro pins s σ H Nx I h
 refine wpAny_bind (thn (he pins s σ H _ I h) fun u s1 ⟨y,H1,I1,r1,ys,hl,hz,q⟩=>?_)
 refine wpAny_bind (thn (qQ pins s1 σ H1 (.ref acc) [y] (.ref acc) [u] (fun _ H'=>Nx σ H') I1 rfl (.cons r1 .nil) ⟨acc,ys,y,rfl,rfl,hl,hz,q⟩) fun _ s2 ⟨_,H2,I2,_,q2⟩=>?_)
 exact wpAny_pure ⟨σ,H2,I2,q2⟩
end L2
end
section
namespace L2
open PySem PySem.Spec PyProof.Rows
def vS(fr:List (Option Nat))(wi:TI)(g:TG)(ts:List TT)(tb:Addr→TB)(σ:St)(H:Hp)(Q:VK):Prop:=
 wi σ H fun J H1=>∀acc,H1 acc=none→qV J g (tTB ts (tb acc)) ⟨fun _ H'=>Q (.ref acc) H',fun _ _=>False,fun _ _=>False,fun _ _=>False⟩ (zG fr σ) (upd H1 acc (.lst []))
section
variable {X:Cx}{pins:List (Addr × Obj)}{σ:St}{H:Hp}{s:Shared}{N:List Str}{csc:Scope}{fr:List (Option Nat)}{elt tg iter:Expr}{ifs:List Expr}{rest:List Comprehension}{cpos:Pos}{wi:TI}{g:TG}{ts:List TT}{tb:Addr→TB}
theorem qH{use:Option (Value→Sem Unit)}{QQ:Value→Shared→Prop}{Qv:VK}{B:Value→Env→Sem PUnit}{E:Value→Shared→Prop}(hE:E=X.xe)(hc:X.calm=true)(S:zq X N csc fr)(hi:PI X tg iter wi)
 (hturn:∀(it:Addr) (acc:Value) (env:Env),compTurn (.ListComp elt (⟨tg,iter,ifs,0⟩::rest) csc cpos) 0 (.ref it) acc env=(do
  standAt iter.pos
  match ←pyNext (.ref it) with
  |none=>pure (.done .next)
  |some v=>
   letOwnedTupleGo tg (.ref it) v
   assign tg env v
   let mut ok:=true
   for c in ifs do
    if ok then ok ←isTrue c env (eval c env)
   if ok then B acc env
   again (.compLoop (.ListComp elt (⟨tg,iter,ifs,0⟩::rest) csc cpos) 0 (.ref it) acc env)))
 (hg:∀C s0 H0 ex,PG (X.comp N csc C s0 H0 ex) tg g) (ht:∀C s0 H0 ex,PTs (X.comp N csc C s0 H0 ex) ifs ts)
 (hb:∀C s0 H0 ex acc,PB (X.comp N csc C s0 H0 ex) (B (.ref acc) (X.comp N csc C s0 H0 ex).env) (tb acc))
 (I:Inv X pins σ H s) (h:vS fr wi g ts tb σ H Qv)
 (hfin:∀acc C H' s',Inv X pins σ H' s'→Qv (.ref acc) H'→(∃m,s'.heap.Ns C m)→H' C=none→C≠X.env.locals→X.s₀.heap.objs.size≤C→(∀x c,X.env.cells.lookup x=some c→c≠C)→(∀p∈X.pn++pins,p.1≠C) →
  compPost (model X.prog X.w) X.A X.xe use QQ (.ref acc) C (.ok .next) s') :
 wpAny (model X.prog X.w) X.A (eval iter X.env) (fun x s₁=>wpAny (model X.prog X.w) X.A (pyIter x) (fun it s₂=>wpAny (model X.prog X.w) X.A (newList []) (fun acc s₃=>
  wpAny (model X.prog X.w) X.A (newFunctionEnv csc X.env.globals (vz X.env.cells csc.names []) [] X.env.qual none .none (some X.env)) (fun cenv s₄=>
   codeAny (model X.prog X.w) X.A (.compStart (.ListComp elt (⟨tg,iter,ifs,0⟩::rest) csc cpos) 0 it acc {cenv with scope:=relabel csc X.env}) (compPost (model X.prog X.w) X.A E use QQ acc cenv.locals) s₄) E s₃) E s₂) E s₁) E s:=by
 subst hE
 refine thn (hi pins s σ H _ I h) fun v s1 h1=>thn h1 fun itv s2 h2=>?_
 obtain⟨it,fp,tn,J,H2,e,I2,T,st2,f2,q2⟩:=h2
 subst e
 refine wpAny_newObj_type ?_
 have hfr:H2 s2.heap.objs.size=none:=I2.hok.fresh (Nat.le_refl _)
 have q3:=q2 s2.heap.objs.size hfr
 generalize hs3:({s2 with heap:=s2.heap.push {cls:=.type "list",dict:=none,data:=.seq ([]:List Value).toArray}}:Shared)=s3
 have k23:∀b u,s2.heap.get? b=some u→s3.heap.get? b=some u:=fun b u e=>by rw[←hs3];exact Heap.get?_push_of_some _ e
 have new3:s3.heap.get? s2.heap.objs.size=some {cls:=.type "list",dict:=none,data:=.seq ([]:List Value).toArray}:=by rw[←hs3];exact Heap.get?_push_size _ rfl
 have I3:Inv X pins σ (upd H2 s2.heap.objs.size (.lst [])) s3:=by
  rw[←hs3]
  exact I2.laid (t':=s2.toks) (fun b u e=>Heap.get?_push_of_some _ e) (Nat.le_refl _) ⟨Nat.zero_le _,[],0,.nil,Heap.get?_push_size _ rfl⟩
 have lt2:∀b∈fp,b<s2.heap.objs.size:=fun b hb=>by obtain⟨o,e,_⟩:=T.obj _ _ st2 b hb;exact Heap.lt_size e
 have hsz:s3.heap.objs.size=s2.heap.objs.size+1:=by rw[←hs3];exact Heap.size_push ..
 have f3:∀b∈fp,vm X pins (upd H2 s2.heap.objs.size (.lst [])) b:=fun b hb=>⟨by rw[zS (Nat.ne_of_lt (lt2 b hb))];exact(f2 b hb).1,(f2 b hb).2⟩
 have lt3:∀b∈fp,b<s3.heap.objs.size:=fun b hb=>by rw[hsz];exact Nat.lt_succ_of_lt (lt2 b hb)
 refine wpAny_newFunctionEnv S.nocell (by intro y hy;simp at hy) (fun h4 hns4 hsb4=>?_) S.kind
 have k34:∀b o,s3.heap.get? b=some o→h4.get? b=some o:=fun b o e=>hsb4.extBut b o (Nat.ne_of_lt (Heap.lt_size e)) (Heap.get?_push_of_some _ e)
 have hns4':h4.Ns s3.heap.objs.size (fun _=>none):=by simpa using hns4
 have I4:=nU (tk:=s3.toks+([]:List (Str × Value)).length) I3 S f3 lt3 hns4' k34
 have st4:tn 0 h4:=T.keep _ _ _ st2 fun b hb o e=>k34 b o (k23 b o e)
 have f4:∀b∈fp,vm (X.comp N csc s3.heap.objs.size s3 (upd H2 s2.heap.objs.size (.lst [])) fp) [] (upd H2 s2.heap.objs.size (.lst [])) b:=fun b hb=>by
  have ok:=I4.ok
  obtain⟨g1,g2⟩:=ok.exf b hb
  exact⟨(f3 b hb).1,g1,ok.exfs b hb,.inl hb,g2,fun p hp=>by simp at hp⟩
 have fin:∀σ' H' s',Inv (X.comp N csc s3.heap.objs.size s3 (upd H2 s2.heap.objs.size (.lst [])) fp) [] σ' H' s'→Qv (.ref s2.heap.objs.size) H'→(∀b∈fp,H' b=none) →
  compPost (model X.prog X.w) X.A X.xe use QQ (.ref s2.heap.objs.size) s3.heap.objs.size (.ok .next) s':=fun σ' H' s' I' q' _=>by
  have IX:Inv X pins σ H' s':=I3.YV I'.os I'.base I'.hok I'.bare fun b hb=>by
   obtain⟨g0,g1,g2,g3,g4,g5⟩:=f3 b hb
   exact⟨g3,g1,g4,g5⟩
  obtain⟨m,hn,_⟩:=I'.loc
  refine hfin _ _ H' s' IX q' ⟨m,hn⟩ I'.free (Nat.ne_of_gt I3.lt) I3.sz (fun x c e=>?_) fun p hp=>?_
  . obtain⟨w',z⟩:=I3.cell x c e
    exact Nat.ne_of_lt z.lt
  . exact Nat.ne_of_lt (Heap.lt_size (I3.pin p hp).1)
 have loop:codeAny (model X.prog X.w) X.A (.compLoop (.ListComp elt (⟨tg,iter,ifs,0⟩::rest) csc cpos) 0 (.ref it) (.ref s2.heap.objs.size) (compEnvC csc (vz X.env.cells csc.names []) s3.heap.objs.size X.env))
  (compPost (model X.prog X.w) X.A X.xe use QQ (.ref s2.heap.objs.size) s3.heap.objs.size) {s3 with heap:=h4,toks:=s3.toks+([]:List (Str × Value)).length}:=
  wZ (X:=X.comp N csc s3.heap.objs.size s3 (upd H2 s2.heap.objs.size (.lst [])) fp) (hturn it _ _) rfl hc T (hg _ _ _ _) (ht _ _ _ _) (hb _ _ _ _ _) I4 st4 f4 q3 fin
 exact codeAny_compStart_list loop (T.self X.A 0 _ _ _ st4 loop)
theorem oa{B:Value→Env→Sem PUnit}(hc:X.calm=true)(S:zq X N csc fr)(hi:PI X tg iter wi)
 (hturn:∀(it:Addr) (acc:Value) (env:Env),compTurn (.ListComp elt (⟨tg,iter,ifs,0⟩::rest) csc cpos) 0 (.ref it) acc env=(do
  standAt iter.pos
  match ←pyNext (.ref it) with
  |none=>pure (.done .next)
  |some v=>
   letOwnedTupleGo tg (.ref it) v
   assign tg env v
   let mut ok:=true
   for c in ifs do
    if ok then ok ←isTrue c env (eval c env)
   if ok then B acc env
   again (.compLoop (.ListComp elt (⟨tg,iter,ifs,0⟩::rest) csc cpos) 0 (.ref it) acc env)))
 (hg:∀C s0 H0 ex,PG (X.comp N csc C s0 H0 ex) tg g) (ht:∀C s0 H0 ex,PTs (X.comp N csc C s0 H0 ex) ifs ts)
 (hb:∀C s0 H0 ex acc,PB (X.comp N csc C s0 H0 ex) (B (.ref acc) (X.comp N csc C s0 H0 ex).env) (tb acc))
 (hs:∀x,foldedSetIterable iter X.env x=pure x:=by intro _;rfl) :
 PE X (.ListComp elt (⟨tg,iter,ifs,0⟩::rest) csc cpos) (vS fr wi g ts tb):=by
 intro pins s σ H Q I h
 rw[eval_ListComp]
 refine wpAny_comprehension_free (use:=none) rfl hs (vp (S.cells I.ok)) S.kind S.locals ?_
 refine qH (use:=none) rfl hc S hi hturn hg ht hb I h fun acc C H' s' I' q' hn hC hL h0 hcl hpn=>?_
 obtain⟨m,hn⟩:=hn
 refine⟨m,hn,fun h' sb=>⟨.ref acc,H',?_,rfl,q'⟩⟩
 exact I'.turned (t':=s'.toks) (fun b o hb e=>(sb.2 b hb).trans e) hC (Ne.symm (Ne.symm hL)) (.inr h0) hcl hpn
theorem om{B:Value→Env→Sem PUnit}{y:Str}{py spos:Pos}{i:Nat}(hc:X.calm=true)(S:zq X N csc fr)(hi:PI X tg iter wi)
 (hturn:∀(it:Addr) (acc:Value) (env:Env),compTurn (.ListComp elt (⟨tg,iter,ifs,0⟩::rest) csc cpos) 0 (.ref it) acc env=(do
  standAt iter.pos
  match ←pyNext (.ref it) with
  |none=>pure (.done .next)
  |some v=>
   letOwnedTupleGo tg (.ref it) v
   assign tg env v
   let mut ok:=true
   for c in ifs do
    if ok then ok ←isTrue c env (eval c env)
   if ok then B acc env
   again (.compLoop (.ListComp elt (⟨tg,iter,ifs,0⟩::rest) csc cpos) 0 (.ref it) acc env)))
 (hg:∀C s0 H0 ex,PG (X.comp N csc C s0 H0 ex) tg g) (ht:∀C s0 H0 ex,PTs (X.comp N csc C s0 H0 ex) ifs ts)
 (hb:∀C s0 H0 ex acc,PB (X.comp N csc C s0 H0 ex) (B (.ref acc) (X.comp N csc C s0 H0 ex).env) (tb acc))
 (hN:X.N.Nodup) (hy:X.N[i]?=some y) (hx:Loc X.env.scope y)
 (hsw:swapsWith (.ListComp elt (⟨tg,iter,ifs,0⟩::rest) csc cpos) (some (.Name y py)) spos.line X.env=pure true:=by rfl)
 (hf:X.fn y=true∨X.env.scope.names.lookup y=some .local:=by first|exact .inl rfl|exact .inr rfl|assumption)
 (hs:∀x,foldedSetIterable iter X.env x=pure x:=by intro _;rfl) :
 PS X (.Assign [.Name y py] (.ListComp elt (⟨tg,iter,ifs,0⟩::rest) csc cpos) spos) (rh (vS fr wi g ts tb) (vM i)):=by
 intro pins s σ H D I h
 rw[exec_Assign_Name_used _ _ _ _ hsw]
 refine wpAny_bind (wpAny_standAt (wpAny_bind ?_))
 show wpAny _ X.A (do let _ ←comprehension (.ListComp elt (⟨tg,iter,ifs,0⟩::rest) csc cpos) csc X.env _ (newList []) false (eval iter X.env) (some (assign (.Name y py) X.env))) _ _ s
 refine wpAny_bind (wpAny_mono (wpAny_comprehension_free (use:=some (assign (.Name y py) X.env)) (Q:=fun _ s'=>SP X pins D .next s') rfl hs (vp (S.cells I.ok)) S.kind S.locals ?_) (fun _ s' hq=>wpAny_pure (wpAny_pure hq)) fun _ _ e=>e)
 refine qH (use:=some (assign (.Name y py) X.env)) rfl hc S hi hturn hg ht hb I h fun acc C H' s' I' q' hn hC hL h0 hcl hpn=>?_
 obtain⟨m,hn⟩:=hn
 show wpAny _ X.A (assign (.Name y py) X.env (.ref acc)) _ _ _
 refine wpAny_assign_Name (qW I' hN hy hx (show RelV (.ref acc) (.ref acc) from rfl) (fun s2 I2 ⟨a,sb,ha⟩=>?_) hf)
 have haC:C≠a:=by
  rcases ha with ha|ha
  . rw[ha];exact hL
  . exact Ne.symm (hcl y a ha)
 refine⟨m,hn.sameBut sb haC,fun h' sb'=>⟨_,H',?_,q'⟩⟩
 exact I2.turned (t':=s2.toks) (fun b o hb e=>(sb'.2 b hb).trans e) hC hL (.inr h0) hcl hpn
theorem bb(elt tg iter:Expr)(ifs:List Expr)(csc:Scope)(cpos:Pos)(it:Addr)(acc:Value)(env:Env) :
 compTurn (.ListComp elt [⟨tg,iter,ifs,0⟩] csc cpos) 0 (.ref it) acc env=(do
  standAt iter.pos
  match ←pyNext (.ref it) with
  |none=>pure (.done .next)
  |some v=>
   letOwnedTupleGo tg (.ref it) v
   assign tg env v
   let mut ok:=true
   for c in ifs do
    if ok then ok ←isTrue c env (eval c env)
   if ok then (do let _ ←call (.builtin "list.append") [acc,←eval elt env])
   again (.compLoop (.ListComp elt [⟨tg,iter,ifs,0⟩] csc cpos) 0 (.ref it) acc env)):=by rfl
theorem bc(elt tg iter:Expr)(ifs:List Expr)(tg2 iter2:Expr)(ifs2:List Expr)(csc:Scope)(cpos:Pos)(it:Addr)(acc:Value)(env:Env) :
 compTurn (.ListComp elt [⟨tg,iter,ifs,0⟩,⟨tg2,iter2,ifs2,0⟩] csc cpos) 0 (.ref it) acc env=(do
  standAt iter.pos
  match ←pyNext (.ref it) with
  |none=>pure (.done .next)
  |some v=>
   letOwnedTupleGo tg (.ref it) v
   assign tg env v
   let mut ok:=true
   for c in ifs do
    if ok then ok ←isTrue c env (eval c env)
   if ok then (do
    let x ←eval iter2 env
    standAt iter2.pos
    let x ←foldedSetIterable iter2 env x
    let _ ←runOwn (.compStart (.ListComp elt [⟨tg,iter,ifs,0⟩,⟨tg2,iter2,ifs2,0⟩] csc cpos) 1 (←holding [x] (pyIter x)) acc env) env)
   again (.compLoop (.ListComp elt [⟨tg,iter,ifs,0⟩,⟨tg2,iter2,ifs2,0⟩] csc cpos) 0 (.ref it) acc env)):=by
 have e:compTurn (.ListComp elt [⟨tg,iter,ifs,0⟩,⟨tg2,iter2,ifs2,0⟩] csc cpos) 0 (.ref it) acc env=(do
  standAt iter.pos
  match ←pyNext (.ref it) with
  |none=>pure (.done .next)
  |some v=>
   letOwnedTupleGo tg (.ref it) v
   assign tg env v
   let mut ok:=true
   for c in ifs do
    if ok then ok ←isTrue c env (eval c env)
   if ok then
    let x ←eval iter2 env
    standAt iter2.pos
    let x ←foldedSetIterable iter2 env x
    let _ ←runOwn (.compStart (.ListComp elt [⟨tg,iter,ifs,0⟩,⟨tg2,iter2,ifs2,0⟩] csc cpos) 1 (←holding [x] (pyIter x)) acc env) env
   again (.compLoop (.ListComp elt [⟨tg,iter,ifs,0⟩,⟨tg2,iter2,ifs2,0⟩] csc cpos) 0 (.ref it) acc env)):=by rfl
 rw[e]
 simp only[bind_assoc,pure_bind]
theorem YG(elt tg iter:Expr)(ifs:List Expr)(tg2 iter2:Expr)(ifs2:List Expr)(csc:Scope)(cpos:Pos)(it:Addr)(acc:Value)(env:Env) :
 compTurn (.ListComp elt [⟨tg,iter,ifs,0⟩,⟨tg2,iter2,ifs2,0⟩] csc cpos) 1 (.ref it) acc env=(do
  standAt iter2.pos
  match ←pyNext (.ref it) with
  |none=>pure (.done .next)
  |some v=>
   letOwnedTupleGo tg2 (.ref it) v
   assign tg2 env v
   let mut ok:=true
   for c in ifs2 do
    if ok then ok ←isTrue c env (eval c env)
   if ok then (do let _ ←call (.builtin "list.append") [acc,←eval elt env])
   again (.compLoop (.ListComp elt [⟨tg,iter,ifs,0⟩,⟨tg2,iter2,ifs2,0⟩] csc cpos) 1 (.ref it) acc env)):=by rfl
end
end L2
end
section
namespace L2
open PySem PySem.Spec PyProof.Rows
theorem nT{prog:Program}{w:World}{A:Around}{R:Result→Shared→Prop}{s:Shared}{elt tg iter tg2 iter2:Expr}{ifs ifs2:List Expr}{csc:Scope}{cpos:Pos}{it acc:Value}{env:Env}
 (h0:codeAny (model prog w) A (.compLoop (.ListComp elt [⟨tg,iter,ifs,0⟩,⟨tg2,iter2,ifs2,0⟩] csc cpos) 1 it acc env) R s)
 (h:wpAny (model prog w) A (pyIter it) (fun it' s'=>codeAny (model prog w) A (.compLoop (.ListComp elt [⟨tg,iter,ifs,0⟩,⟨tg2,iter2,ifs2,0⟩] csc cpos) 1 it' acc env) R s')
  (notedBy (model prog w) A env fun x s'=>R (.error x) s') s) :
 codeAny (model prog w) A (.compStart (.ListComp elt [⟨tg,iter,ifs,0⟩,⟨tg2,iter2,ifs2,0⟩] csc cpos) 1 it acc env) R s:=by
 refine codeAny_of_tree ?_
 show wpAny _ _ ((compStart (.ListComp elt [⟨tg,iter,ifs,0⟩,⟨tg2,iter2,ifs2,0⟩] csc cpos) 1 it acc env).onRaise (fun x=>do noteFrame x env;standAt theWindowsPlace)) _ _ s
 refine wpAny_notedAt ?_
 unfold compStart
 show wpAny _ _ (ask >>= _) _ _ s
 refine wpAny_bind (wpAny_askSetting (wpAny_ite ?_))
 split
 . first
    |exact wpAny_bind (wpAny_pure (wpAny_pure (And.intro rfl h0)))
    |exact wpAny_pure (And.intro rfl h0)
 . first
    |exact wpAny_bind (wpAny_rule (wpAny_bind (wpAny_standAt (wpAny_bind (wpAny_mono h (fun it' s' h'=>wpAny_pure (And.intro rfl h')) fun _ _ x=>x)))))
    |(refine wpAny_bind (wpAny_rule ?_);show wpAny _ _ (standAt iter2.pos >>= _) _ _ s;exact wpAny_bind (wpAny_standAt (wpAny_bind (wpAny_mono h (fun it' s' h'=>wpAny_pure (And.intro rfl h')) fun _ _ x=>x))))
noncomputable def rH(wi:TI)(g:TG)(ts:List TT)(tb:TB):TB:=fun Nx σ H=>wi σ H fun J H1=>qV J g (tTB ts tb) ⟨Nx,fun _ _=>False,fun _ _=>False,fun _ _=>False⟩ σ H1
theorem oY{X:Cx}{acc:Addr}{elt tg iter tg2 iter2:Expr}{ifs ifs2:List Expr}{csc:Scope}{cpos:Pos}{wi:TI}{g:TG}{ts:List TT}{tb:TB}
 (hx:X.xe=fun _ _=>False) (hc:X.calm=true) (hi:PI X tg2 iter2 wi) (hg:PG X tg2 g) (ht:PTs X ifs2 ts) (hb:PB X (do let _ ←call (.builtin "list.append") [.ref acc,←eval elt X.env]) tb)
 (hs:∀x,foldedSetIterable iter2 X.env x=pure x:=by intro _;rfl) :
 PB X (do
       let x ←eval iter2 X.env
       standAt iter2.pos
       let x ←foldedSetIterable iter2 X.env x
       let _ ←runOwn (.compStart (.ListComp elt [⟨tg,iter,ifs,0⟩,⟨tg2,iter2,ifs2,0⟩] csc cpos) 1 (←holding [x] (pyIter x)) (.ref acc) X.env) X.env) (rH wi g ts tb):=by
 intro pins s σ H Nx I h
 refine wpAny_bind (thn (hi pins s σ H _ I h) fun v s1 h1=>wpAny_bind (wpAny_standAt (wpAny_bind (wpAny_of_eq (hs v) (wpAny_bind (wpAny_holding (thn h1 fun itv s2 h2=>?_)))))))
 obtain⟨it,fp,tn,J,H2,e,I2,T,st2,f2,q2⟩:=h2
 subst e
 refine wpAny_bind (wpAny_runOwn ?_)
 have loop:codeAny (model X.prog X.w) X.A (.compLoop (.ListComp elt [⟨tg,iter,ifs,0⟩,⟨tg2,iter2,ifs2,0⟩] csc cpos) 1 (.ref it) (.ref acc) X.env)
  (fun r s'=>match r with|.ok f=>wpAny (model X.prog X.w) X.A (pure PUnit.unit:Sem PUnit) (fun _ s'=>∃σ' H',Inv X pins σ' H' s'∧Nx σ' H') X.xe s'|.error e=>cameBackBy (model X.prog X.w) X.A X.env X.xe e s') s2:=
  wZ (YG ..) hx hc T hg ht hb I2 st2 f2 q2 fun σ' H' s' I' n' _=>wpAny_pure ⟨σ',H',I',n'⟩
 exact nT loop (T.self X.A 0 _ _ _ st2 loop)
section
variable {X:Cx}{N:List Str}{csc:Scope}{fr:List (Option Nat)}{elt tg iter tg2 iter2:Expr}{ifs ifs2:List Expr}{cpos:Pos}{wi wi2:TI}{g g2:TG}{ts ts2:List TT}{te:TE}
theorem lz(hc:X.calm=true)(S:zq X N csc fr)(hi:PI X tg iter wi)(hg:∀C s0 H0 ex,PG (X.comp N csc C s0 H0 ex) tg g)(ht:∀C s0 H0 ex,PTs (X.comp N csc C s0 H0 ex) ifs ts)
 (he:∀C s0 H0 ex,PE (X.comp N csc C s0 H0 ex) elt te) (hs:∀x,foldedSetIterable iter X.env x=pure x:=by intro _;rfl) :
 PE X (.ListComp elt [⟨tg,iter,ifs,0⟩] csc cpos) (vS fr wi g ts fun acc=>vt acc te):=
 oa hc S hi (B:=fun acc env=>(do let _ ←call (.builtin "list.append") [acc,←eval elt env])) (bb elt tg iter ifs csc cpos) hg ht (fun C s0 H0 ex acc=>sC (he C s0 H0 ex)) hs
theorem dw{y:Str}{py spos:Pos}{i:Nat}(hc:X.calm=true)(S:zq X N csc fr)(hi:PI X tg iter wi)(hg:∀C s0 H0 ex,PG (X.comp N csc C s0 H0 ex) tg g)(ht:∀C s0 H0 ex,PTs (X.comp N csc C s0 H0 ex) ifs ts)
 (he:∀C s0 H0 ex,PE (X.comp N csc C s0 H0 ex) elt te) (hN:X.N.Nodup) (hy:X.N[i]?=some y) (hx:Loc X.env.scope y)
 (hsw:swapsWith (.ListComp elt [⟨tg,iter,ifs,0⟩] csc cpos) (some (.Name y py)) spos.line X.env=pure true:=by rfl)
 (hf:X.fn y=true∨X.env.scope.names.lookup y=some .local:=by first|exact .inl rfl|exact .inr rfl|assumption)
 (hs:∀x,foldedSetIterable iter X.env x=pure x:=by intro _;rfl) :
 PS X (.Assign [.Name y py] (.ListComp elt [⟨tg,iter,ifs,0⟩] csc cpos) spos) (rh (vS fr wi g ts fun acc=>vt acc te) (vM i)):=
 om hc S hi (B:=fun acc env=>(do let _ ←call (.builtin "list.append") [acc,←eval elt env])) (bb elt tg iter ifs csc cpos) hg ht (fun C s0 H0 ex acc=>sC (he C s0 H0 ex)) hN hy hx hsw hf hs
theorem oZ(hc:X.calm=true)(S:zq X N csc fr)(hi:PI X tg iter wi)(hg:∀C s0 H0 ex,PG (X.comp N csc C s0 H0 ex) tg g)(ht:∀C s0 H0 ex,PTs (X.comp N csc C s0 H0 ex) ifs ts)
 (hi2:∀C s0 H0 ex,PI (X.comp N csc C s0 H0 ex) tg2 iter2 wi2) (hg2:∀C s0 H0 ex,PG (X.comp N csc C s0 H0 ex) tg2 g2) (ht2:∀C s0 H0 ex,PTs (X.comp N csc C s0 H0 ex) ifs2 ts2)
 (he:∀C s0 H0 ex,PE (X.comp N csc C s0 H0 ex) elt te) (hs:∀x,foldedSetIterable iter X.env x=pure x:=by intro _;rfl)
 (hs2:∀env x,foldedSetIterable iter2 env x=pure x:=by intro _ _;rfl) :
 PE X (.ListComp elt [⟨tg,iter,ifs,0⟩,⟨tg2,iter2,ifs2,0⟩] csc cpos) (vS fr wi g ts fun acc=>rH wi2 g2 ts2 (vt acc te)):=
 oa hc S hi (B:=fun acc env=>(do
         let x ←eval iter2 env
         standAt iter2.pos
         let x ←foldedSetIterable iter2 env x
         let _ ←runOwn (.compStart (.ListComp elt [⟨tg,iter,ifs,0⟩,⟨tg2,iter2,ifs2,0⟩] csc cpos) 1 (←holding [x] (pyIter x)) acc env) env)) (bc elt tg iter ifs tg2 iter2 ifs2 csc cpos) hg ht
  (fun C s0 H0 ex acc=>oY rfl hc (hi2 C s0 H0 ex) (hg2 C s0 H0 ex) (ht2 C s0 H0 ex) (sC (he C s0 H0 ex)) (hs2 _)) hs
end
end L2
end
section
namespace L2
open PySem PySem.Spec PyProof.Rows
section
variable {X:Cx}
theorem sO:z6 X (.builtin "isinstance") (fun xs H Q=>∃x c t b,xs=[x,.ty c]∧uH X.K H x (.type t)∧PySem.W.kitOne X.K (.type t) (.type c)=some b∧Q (.bl b) H):=by
 intro pins s σ H xs us Q I r h
 obtain⟨x,c,t,b,rfl,ty,e,q⟩:=h
 obtain⟨u,w',rfl,rx,rc⟩:=vals2 r
 cases (show w'=Value.type c from rc)
 exact kf I rx ty e fun tk=>⟨.bl b,H,I.tok _,rfl,q⟩
end
inductive Kd where
 |non|bl|int|str|lst|tup|dct
 deriving DecidableEq
noncomputable def Kd.nm:Kd→String
 |.non=>"NoneType"|.bl=>"bool"|.int=>"int"|.str=>"str"|.lst=>"list"|.tup=>"tuple"|.dct=>"dict"
noncomputable def Kd.sub(a c:Kd):Bool:=decide (a=c)||(decide (a=.bl)&&decide (c=.int))
theorem ZK(K:PySem.W.Frag)(a c:Kd)(hc:c≠.non):PySem.W.kitOne K (.type a.nm) (.type c.nm)=some (a.sub c):=by
 cases c with
 |non=>exact absurd rfl hc
 |bl=>cases a<;>rfl
 |int=>cases a<;>rfl
 |str=>cases a<;>rfl
 |lst=>cases a<;>rfl
 |tup=>cases a<;>rfl
 |dct=>cases a<;>rfl
section
variable {X:Cx}
theorem all_range:∀(bs:List Bool),((List.range bs.length).all fun i=>bs.getD i false)=bs.all id:=by
 intro bs
 induction bs with
 |nil=>rfl
 |cons b bs ih=>
  rw[List.length_cons,List.range_succ_eq_map,List.all_cons,List.all_cons,List.all_map]
  exact congrArg (b&&·) (Eq.trans (by congr 1) ih)
theorem Vals.bools:∀{bs:List Bool} {us:List Value},Vals (bs.map V.bl) us→us=bs.map Value.bool
 |[],us,r=>by cases r;rfl
 |b::bs,us,r=>by
  rw[List.map_cons]at r
  cases r with
  |cons r1 r2=>
   cases (show _=Value.bool b from r1)
   rw[Vals.bools r2,List.map_cons]
theorem sN(hc:X.calm=true):z6 X (.builtin "all") (fun xs H Q=>∃(a:Addr) (bs:List Bool),xs=[.ref a]∧SqL X.K H a (bs.map V.bl)∧Q (.bl (bs.all id)) H):=by
 intro pins s σ H xs us Q I r h
 obtain⟨a,bs,rfl,ha,q⟩:=h
 obtain⟨u,rfl,ru⟩:=vals1 r
 cases ru
 obtain⟨its,rv,pl,hz⟩:=I.list ha
 have hits:=rv.bools
 have alt:a<s.heap.objs.size:=by obtain⟨o,ho,_⟩:=pl.isList;exact Heap.lt_size ho
 refine call_all_walk (wpAny_pyIter_list pl.isList ?_)
 refine⟨s.heap.objs.size,_,_,_,_,_,fun i=>bs.getD i false,rfl,Walks.list (A:=X.A.in1) (I.ok.hd hc) s.heap.objs.size a (Nat.ne_of_lt alt) its.toArray,⟨⟨_,Heap.get?_push_size _ rfl,rfl,rfl⟩,?_⟩,?_,fun h' tk hk=>?_⟩
 . obtain⟨o,ho,hc',n,hd⟩:=pl.isList
   exact⟨o,Heap.get?_push_of_some _ ho,hc',n,hd⟩
 . intro i v s' Q' E' hv hq
   have hv':(bs.map Value.bool)[i]?=some v:=by rw[←hits];simpa using hv
   rw[List.getElem?_map]at hv'
   cases hb:bs[i]? with
   |none=>rw[hb]at hv';cases hv'
   |some b=>
    rw[hb]at hv'
    have:v=Value.bool b:=(Option.some.inj hv').symm
    subst this
    have e:bs.getD i false=b:=by rw[List.getD_eq_getElem?_getD,hb];rfl
    have hq':Q' (bs.getD i false) s':=hq
    rw[e]at hq'
    exact wpAny_truthy_bool hq'
 . have e:(List.range its.toArray.size).all (fun i=>bs.getD i false)=bs.all id:=by
    rw[List.size_toArray,hits,List.length_map];exact all_range bs
   rw[e]
   refine⟨.bl (bs.all id),H,I.kept fun b o ho=>hk b o ?_ (Heap.get?_push_of_some _ ho),rfl,q⟩
   simpa using Nat.ne_of_lt (Heap.lt_size ho)
end
end L2
end
section
namespace L2
open PySem PySem.Spec PyProof.Rows
theorem fO{H:Hp}{p:Addr}(h:H p=none)(o:HO):sF H (upd H p o):=fun b u q=>by rw[zS (zV q h)];exact q
def tP(H:Hp)(ys:List V)(Q:VK):Prop:=∀p H',sF H H'→H' p=some (.tup ys)→Q (.ref p) H'
theorem tP.new{H:Hp}{ys:List V}{Q:VK}(g:tP H ys Q):∀p,H p=none→Q (.ref p) (upd H p (.tup ys)):=fun p hp=>g p _ (fO hp _) zt
noncomputable def WU:V→Option Int→Option Int→Hp→VK→Prop:=fun x lo hi H Q=>∃a xs,x=.ref a∧H a=some (.tup xs)∧tP H (rS xs lo hi) Q
noncomputable def Xi:R2:=fun x y H Q=>∃a b xs ys,x=.ref a∧y=.ref b∧H a=some (.tup xs)∧H b=some (.tup ys)∧xs.length+ys.length≤sizeLine∧tP H (xs++ys) Q
noncomputable def Xn:R2:=fun x y H Q=>∃a k xs,x=.ref a∧y=.int k∧H a=some (.tup xs)∧2≤k∧k≤1000∧xs≠[]∧xs.length≤1000∧tP H (List.replicate k.toNat xs).flatten Q
section
variable {X:Cx}
theorem kY{t sl:Addr}{items:Array Value}{vl vu:Value}{lo hi:Option Int}{Q:Value→Shared→Prop}{A:Around}{E:Value→Shared→Prop}{s:Shared}{prog:Program}{w:World}(ht:IsTup s.heap t items)(hs:s.heap.IsSliceOf sl vl vu .none)(pl:IsPart vl lo)(pu:IsPart vu hi)
 (h0:HT.sIx items.size 0 lo=0) (h1:HT.sIx items.size items.size hi=items.size) (h:Q (.ref t) s):wpAny (model prog w) A (getItem (.ref t) (.ref sl)) Q E s:=by
 obtain⟨os,hos,hcs,hds⟩:=id hs
 have hTs:s.TypeIs (.ref sl) "slice":=⟨os,hos,hcs⟩
 unfold getItem
 try with_reducible refine wpAny_holding ?_
 first|refine wpAny_bind (wpAny_pure ?_)|skip
 refine wpAny_bind (wpAny_sequenceKey ht.typeIs (by decide) ?_)
 refine wpAny_bind (wpAny_callSpecial?_slot (name:=Str.ofString "__getitem__") ht.typeIs PyProof.Rows.slot_tuple_getitem
  (wpAny_call_entry PyProof.Rows.slot_tuple_getitem ht.typeIs entry_tuple_getitem ?_ (args_tuple_getitem _ _)))
 show wpAny _ _ (Builtin.Tuple.tupleItemsOf (.ref t) >>= _) _ _ s
 refine wpAny_bind (tupleItemsOf_ ht ?_)
 refine wpAny_bind (wpAny_typeOf hTs ?_)
 rw[if_pos (by decide)]
 refine wpAny_bind (HT.wm hs pl pu ?_)
 have hyes:(((HT.sIx items.size 0 lo:Nat):Int) == 0&&(1:Int) == 1&&(HT.sIx items.size items.size hi-HT.sIx items.size 0 lo) == items.size)=true:=by
  rw[h0,h1];simp
 show wpAny _ _ (if (((HT.sIx items.size 0 lo:Nat):Int) == 0&&(1:Int) == 1&&(HT.sIx items.size items.size hi-HT.sIx items.size 0 lo) == items.size)=true then _ else _) _ _ s
 rw[if_pos hyes]
 unfold Builtin.Tuple.tupleIsExact
 refine wpAny_bind (wpAny_bind (wpAny_typeOf ht.typeIs (wpAny_pure ?_)))
 rw[if_pos (by decide)]
 exact wpAny_bind (wpAny_rule (wpAny_pure ⟨_,rfl,wpAny_pure h⟩))
theorem cX:SlR X WU:=by
 intro pins s σ H x v vl vu lo hi sl Q I rx hs pl pu h
 obtain⟨a,xs,rfl,hx,g⟩:=h
 by_cases hw:HT.sIx xs.length 0 lo=0∧HT.sIx xs.length xs.length hi=xs.length
 . cases rx
   obtain⟨its,r,ht,hz⟩:=I.tuple (.inl (.inl hx))
   have hlen:its.toArray.size=xs.length:=by rw[List.size_toArray];exact r.length.symm
   refine⟨"tuple",_,PyProof.Rows.slot_tuple_getitem.lookup,ht.typeIs,?_⟩
   refine kY ht hs pl pu (by rw[hlen];exact hw.1) (by rw[hlen];exact hw.2) ⟨.ref a,H,I,rfl,g a H (sF.refl H) ?_⟩
   rw[hx]
   unfold rS
   rw[hw.1,hw.2,List.drop_zero,Nat.sub_zero,List.take_length]
 . exact pY pins s σ H (.ref a) v vl vu lo hi sl Q I rx hs pl pu ⟨a,xs,rfl,.inl (.inl hx),hw,g.new⟩
theorem gT:OpR X (binaryOp .Add) Xi:=by
 intro pins s σ H x y v u Q I rx ry h
 obtain⟨a,b,xs,ys,rfl,rfl,ha,hb,hz,g⟩:=h
 by_cases hx:xs=[]
 . cases rx
   cases ry
   subst hx
   obtain⟨its,r1,p1,_⟩:=I.tuple (.inl (.inl ha))
   obtain⟨its2,r2,p2,_⟩:=I.tuple (.inl (.inl hb))
   cases r1
   obtain⟨⟨cls,dd,data,sl⟩,ho,hc,n,hd⟩:=id p1
   obtain⟨⟨cls2,dd2,data2,sl2⟩,ho2,hc2,n2,hd2⟩:=id p2
   simp only at hc hd hc2 hd2
   subst hc hd hc2 hd2
   exact concat_meets ⟨_,ho,rfl⟩ ⟨_,ho2,rfl⟩ noFill_tuple_add seq_tuple_add PySem.F.slot_tuple_add PySem.F.entry_tuple_add (PySem.F.args_tuple_add_2 _ _)
    (tuple_addW0 a b #[] its2.toArray n n2 dd dd2 sl sl2 rfl) ⟨ho,ho2,⟨.ref b,H,I,rfl,g b H (sF.refl H) hb⟩⟩
 . refine dG pins s σ H (.ref a) (.ref b) v u Q I rx ry ⟨a,b,xs,ys,rfl,rfl,.inl (.inl ha),.inl (.inl hb),hx,hz,fun e=>?_,fun _=>g.new⟩
   subst e
   rw[List.append_nil]at g
   exact g a H (sF.refl H) ha
theorem xY:fillsNumberSlot (.type "tuple") "mul"=pure false:=
 PySem.fillsNumberSlot_seq (id:="tuple.__mul__") (r:=some (.builtin "tuple.__rmul__")) F.slot_tuple_mul.lookup (by decide +kernel) F.slot_tuple_rmul.lookup (by decide +kernel)
theorem vC:seqRepeat? (.type "tuple")=pure (some (.builtin "tuple.__mul__")):=by
 unfold seqRepeat?
 rw[PySem.seqSlot_of (T:="tuple") (name:="__mul__") (id:="tuple.__mul__") F.slot_tuple_mul.lookup (by decide +kernel),PySem.seqSlot_of (T:="tuple") (name:="__rmul__") (id:="tuple.__rmul__") F.slot_tuple_rmul.lookup (by decide +kernel)]
 rfl
theorem wA(a:Int)(t:Tok)(l:Addr)(items:Array Value)(n:Nat)(dd:Option Addr)(sl:Array (Option Value)) :
 Meets (Builtin.«int.__rmul__» ⟨[.int a t,.ref l],[]⟩) (fun _ R s=>s.heap.get? l=some {cls:=.type "tuple",dict:=dd,data:=.seq items n,slots:=sl}∧R (.ok (.ret Value.notImplemented)) s):=
 .of_wp fun prog w A R s h=>by obtain⟨hp,g,d,tk,os⟩:=s;obtain⟨hl,h⟩:=h;wp_walk;exact⟨_,rfl,h⟩
theorem mh(l:Addr)(items:Array Value)(n:Nat)(x:Int)(u:Tok)(dd:Option Addr)(sl:Array (Option Value))(h1:2≤x)(h2:x≤1000)(h3:¬items.isEmpty=true)(h4:items.size≤1000) :
 Meets (Builtin.«tuple.__mul__» ⟨[.ref l,.int x u],[]⟩) (fun _ R s=>s.heap.get? l=some {cls:=.type "tuple",dict:=dd,data:=.seq items n,slots:=sl} ∧
  R (.ok (.ret (Value.ref s.heap.objs.size))) {s with heap:=s.heap.push {cls:=Value.type "tuple",data:=Data.seq (List.foldl (fun x1 x2=>x1++x2) #[] (List.replicate x.toNat items))},toks:=s.toks}):=
 .of_wp fun prog w A R s h=>by
  obtain⟨hp,g,d,tk,os⟩:=s;obtain⟨hl,h⟩:=h
  have f1:=AutoSeq1.idx_int
  have c1:¬((decide (x < -(2 ^ 63))||decide (x ≥ 2 ^ 63))=true):=by simp;omega
  have c2:¬((items.isEmpty||x == 1)=true):=by simp at h3 ⊢;exact⟨h3,by omega⟩
  have c3:¬((decide (x≤0)||items.isEmpty)=true):=by simp at h3 ⊢;exact⟨by omega,h3⟩
  have hprod:(items.size:Int)*x≤1000*1000:=Int.mul_le_mul (by omega) h2 (by omega) (by omega)
  have c4:¬((items.size:Int)*x > (2 ^ 63-1)/8):=by omega
  have hL:sizeLine=16777216:=sizeLine_eq
  have c5:¬(Builtin.Tuple.tupleTooMany ((items.size:Int)*x)=true):=by
   unfold Builtin.Tuple.tupleTooMany
   rw[hL]
   simp only[decide_eq_true_eq]
   omega
  have hn:(List.foldl (fun x1 x2=>x1++x2) #[] (List.replicate x.toNat items)).size=x.toNat*items.size:=by
   have e:=foldl_rep items.toList x.toNat []
   simp only[Array.toArray_toList,List.nil_append]at e
   rw[e,List.size_toArray,len_rep,Array.length_toList]
  have htake:sizeOk (.seq (List.foldl (fun x1 x2=>x1++x2) #[] (List.replicate x.toNat items))):=by
   show (List.foldl (fun x1 x2=>x1++x2) #[] (List.replicate x.toNat items)).size≤sizeLine
   rw[hn,hL]
   have:x.toNat*items.size≤1000*1000:=Nat.mul_le_mul (by omega) h4
   omega
  wp_walk using wpAny_loadPart' hl
  rw[if_neg c1]
  refine wpAny_bind (tupleItemsOf_ (items:=items) ⟨_,hl,rfl,n,rfl⟩ ?_)
  rw[if_neg c2]
  show wpAny _ _ (if (decide (x≤0)||items.isEmpty)=true then _ else _) _ _ _
  rw[if_neg c3]
  show wpAny _ _ (if (items.size:Int)*x > (2 ^ 63-1)/8 then _ else _) _ _ _
  rw[if_neg c4]
  show wpAny _ _ (if Builtin.Tuple.tupleTooMany ((items.size:Int)*x)=true then _ else _) _ _ _
  rw[if_neg c5]
  exact wpAny_bind (m:=Builtin.Tuple.tupleExact _) (wpAny_newObj_type (wpAny_pure ⟨_,rfl,h⟩) htake)
theorem dM:OpR X (binaryOp .Mult) Xn:=by
 intro pins s σ H x y v u Q I rx ry h
 obtain⟨a,k,xs,rfl,rfl,ha,h1,h2,h3,h4,g⟩:=h
 cases rx
 obtain⟨t,rfl⟩:=ry
 obtain⟨its,r,p1,_⟩:=I.tuple (.inl (.inl ha))
 obtain⟨⟨cls,dd,data,sl⟩,ho,hc,n,hd⟩:=id p1
 simp only at hc hd
 subst hc hd
 have hl:=r.length
 have hne:¬its.toArray.isEmpty=true:=by
  simp
  intro e
  exact h3 (r.uY.mp e)
 refine wpAny_binaryOp_repeat_ref (T:="tuple") (U:="int") (by decide) ⟨_,ho,rfl⟩ (fun s'=>typeIs_int s' k t) xY F.fills_int_mul F.slot_int_rmul vC F.slot_int_index.lookup
  (call_meets F.slot_int_rmul (typeIs_int s k t) F.entry_int_rmul (F.args_int_rmul_2 _ _) (wA k t a its.toArray n dd sl)
   ⟨ho,rfl,⟨_,ho,rfl⟩,call_meets F.slot_tuple_mul ⟨_,ho,rfl⟩ F.entry_tuple_mul (F.args_tuple_mul_2 _ _) (mh a its.toArray n k t dd sl h1 h2 hne (by rw[List.size_toArray,←hl];exact h4)) ⟨ho,?_⟩⟩)
 have e:=foldl_rep its k.toNat []
 rw[List.nil_append]at e
 have hz:(List.replicate k.toNat xs).flatten.length≤sizeLine:=by
  rw[len_rep,sizeLine_eq]
  have:k.toNat*xs.length≤1000*1000:=Nat.mul_le_mul (by omega) h4
  omega
 refine⟨.ref s.heap.objs.size,_,I.laid (t':=s.toks) (o:=.tup (List.replicate k.toNat xs).flatten) (fun b ob q=>Heap.get?_push_of_some _ q) (Nat.le_refl _) ⟨hz,(List.replicate k.toNat its).flatten,r.rep k.toNat,?_⟩,rfl,g.new _ (I.hok.fresh (Nat.le_refl _))⟩
 rw[show (#[]:Array Value)=([]:List Value).toArray from rfl,e]
 exact uu.new _ _
end
end L2
end
section
namespace L2
open PySem PySem.Spec PyProof.Rows
section
variable {X:Cx}{pos:Pos}
noncomputable def bY(i j k:Nat)(ta:TA):TS:=fun D σ H=>ta σ H fun vs H1=>∃v w z,vs=[v,w,z]∧D.nx (((σ.set i (some v)).set j (some w)).set k (some z)) H1
theorem vals3{x y z:V}{us:List Value}(r:Vals [x,y,z] us):∃u1 u2 u3,us=[u1,u2,u3]∧RelV x u1∧RelV y u2∧RelV z u3:=by
 cases r with
 |cons r1 r2=>
  cases r2 with
  |cons r3 r4=>
   cases r4 with
   |cons r5 r6=>cases r6;exact⟨_,_,_,rfl,r1,r3,r5⟩
theorem d5{i j k:Nat}{x y z:Str}{a b c:Expr}{ta:TA}{px py pz pt:Pos}{kt k2 pt2}(hc:X.calm=true)(hN:X.N.Nodup)(hi:X.N[i]?=some x)(hj:X.N[j]?=some y)(hk:X.N[k]?=some z)(hij:i≠j)(hik:i≠k)(hjk:j≠k)
 (hx:X.env.scope.names.lookup x=some .local) (hy:X.env.scope.names.lookup y=some .local) (hz:X.env.scope.names.lookup z=some .local) (ha:PA X [a,b,c] ta)
 (hw:swappedStores [.Tuple [.Name x px,.Name y py,.Name z pz] kt pt] (.Tuple [a,b,c] k2 pt2) X.env=pure (some [x,y,z]))
 (hs:swapsWithSole [.Tuple [.Name x px,.Name y py,.Name z pz] kt pt] (.Tuple [a,b,c] k2 pt2) pos.line X.env=pure false:=by rfl) :
 PS X (.Assign [.Tuple [.Name x px,.Name y py,.Name z pz] kt pt] (.Tuple [a,b,c] k2 pt2) pos) (bY i j k ta):=by
 intro pins s σ H D I h
 rw[exec_Assign_arm]
 refine wpAny_bind (wpAny_standAt ?_)
 rw[hs]
 refine wpAny_bind (wpAny_pure ?_)
 rw[if_neg (by decide)]
 refine wpAny_bind (Tuple_ (thn (ha _ pins s σ H _ I h) fun us s1 ⟨vs,H1,I1,r1,q1⟩=>?_))
 obtain⟨v,w,zz,e1,q1⟩:=q1
 subst e1
 obtain⟨u1,u2,u3,rfl,rv,rw',rz⟩:=vals3 r1
 refine wpAny_newObj_type ?_ (by show 3≤sizeLine;decide)
 have I2:Inv X pins σ H1 {s1 with heap:=s1.heap.push {cls:=.type "tuple",data:=.seq [u1,u2,u3].toArray}}:=I1.kept (t':=s1.toks) fun b o e=>Heap.get?_push_of_some _ e
 rw[hw]
 refine wpAny_bind (wpAny_pure ?_)
 show wpAny (model X.prog X.w) X.A (do rule "assign.swapped-stores";let items ←unpackItems (.ref s1.heap.objs.size) 3 none;assignInOrder [fun v=>bindName X.env z v,fun v=>bindName X.env y v,fun v=>bindName X.env x v] items.reverse;pure Flow.next) _ _ _
 refine wpAny_bind (wpAny_rule (wpAny_bind (unpackItems_tuple (items:=#[u1,u2,u3]) (I.ok.hd hc) (IsTup.new s1.heap _) fun h' hx'=>?_)))
 have I3:=I2.kept (h':=h') (t':=s1.toks) fun b o e=>hx' b o (Nat.ne_of_lt (Heap.lt_size e)) e
 show wpAny _ _ (assignInOrder [fun v=>bindName X.env z v,fun v=>bindName X.env y v,fun v=>bindName X.env x v] [u3,u2,u1] >>= fun _=>pure Flow.next) _ _ _
 refine wpAny_bind (assignInOrder_cons (wpAny_bindName (xn I3 hN hk (.inl hz) rz (fun s2 I4=>?_) (.inr hz))))
 refine assignInOrder_cons (wpAny_bindName (xn I4 hN hj (.inl hy) rw' (fun s3 I5=>?_) (.inr hy)))
 refine assignInOrder_cons (wpAny_bindName (xn I5 hN hi (.inl hx) rv (fun s4 I6=>assignInOrder_nil (wpAny_pure ?_)) (.inr hx)))
 refine⟨_,H1,?_,q1⟩
 have e:((σ.set k (some zz)).set j (some w)).set i (some v)=((σ.set i (some v)).set j (some w)).set k (some zz):=by
  rw[List.set_comm _ _ (Ne.symm hij),List.set_comm _ _ (Ne.symm hik),List.set_comm _ _ (Ne.symm hjk)]
 rw[←e]
 exact I6
theorem de(hb:∀(pins:List (Addr × Obj)) (σ:St) (H:Hp) (s:Shared),Inv X pins σ H s→sysModules<s.heap.objs.size):PE X (.Dict [] [] pos) (fun _ H Q=>∀p,H p=none→Q (.ref p) (upd H p (.dK []))):=fun pins s σ H Q I h=>
 wpAny_Dict_empty ⟨.ref s.heap.objs.size,_,I.laid (a:=s.heap.objs.size) (o:=.dK []) (t':=s.toks) (fun _ _ q=>Heap.get?_push_of_some _ q) (Nat.le_refl _)
  ⟨Nat.zero_le _,beq_eq_false_iff_ne.mpr (Ne.symm (Nat.ne_of_lt (hb pins σ H s I))),[],.nil,Heap.DictOf.new s.heap⟩,rfl,h _ (I.hok.fresh (Nat.le_refl _))⟩
end
end L2
namespace L2
open PySem PySem.Spec PyProof.Rows
theorem Inv.big{X:Cx}{pins:List (Addr × Obj)}{σ:St}{H:Hp}{s:Shared}(I:Inv X pins σ H s):sysModules<s.heap.objs.size:=by
 have h:mainGlobals<s.heap.objs.size:=(I.mod.glob.keeps I.bk).lt
 exact Nat.lt_trans (by decide) h
mutual
inductive DD(H:Hp)(p:Addr):V→PyData→Prop
 |non:DD H p .non .none
 |bl (b:Bool):DD H p (.bl b) (.bool b)
 |int (i:Int):DD H p (.int i) (.int i)
 |str (x:Str):DD H p (.str x) (.str x)
 |lst {a:Addr} {xs:List V} {ds:List PyData}:H a=some (.lst xs)→a≠p→DDs H p xs ds→DD H p (.ref a) (.list ds)
 |tup {a:Addr} {xs:List V} {ds:List PyData}:H a=some (.tup xs)→a≠p→DDs H p xs ds→DD H p (.ref a) (.tuple ds)
 |dct {a:Addr}:H a=some (.dK [])→a≠p→DD H p (.ref a) (.dict [])
inductive DDs(H:Hp)(p:Addr):List V→List PyData→Prop
 |nil:DDs H p [] []
 |cons {x:V} {xs:List V} {d:PyData} {ds:List PyData}:DD H p x d→DDs H p xs ds→DDs H p (x::xs) (d::ds)
end
theorem DDs.length{H:Hp}{p:Addr}:∀{vs:List V} {ds:List PyData},DDs H p vs ds→vs.length=ds.length
 |_,_,.nil=>rfl
 |_,_,.cons _ rs=>by rw[List.length_cons,List.length_cons,rs.length]
theorem DDs.append{H:Hp}{p:Addr}:∀{vs ws:List V} {ds es:List PyData},DDs H p vs ds→DDs H p ws es→DDs H p (vs++ws) (ds++es)
 |_,_,_,_,.nil,r=>r
 |_,_,_,_,.cons r rs,q=>.cons r (rs.append q)
mutual
noncomputable def xJ:PyData→Bool
 |.none|.bool _|.int _|.str _=>false
 |.list _=>true
 |.tuple xs=>xW xs
 |.dict _=>false
noncomputable def xW:List PyData→Bool
 |[]=>false
 |x::xs=>xJ x||xW xs
end
structure bI(d:PyData):Prop where
 sh:d.showable=true
 mix:d.hasDict=true→xJ d=false
 dp:d.depth≤50
 ln:d.shown.length≤sizeLine
end L2
end
section
namespace L2
open PySem PySem.Spec PyProof.Rows
structure vH(k w:Nat)(d:PyData):Prop where
 sh:d.showable=true
 lf:d.leavesShort 40=true
 dp:d.depth≤k
 wt:d.weight≤w
theorem vH.mono{k w k' w':Nat}{d:PyData}(h:vH k w d)(h1:k≤k')(h2:w≤w'):vH k' w' d:=⟨h.sh,h.lf,Nat.le_trans h.dp h1,Nat.le_trans h.wt h2⟩
theorem gL{i:Int}(h1:-(10 ^ 30)<i)(h2:i<10 ^ 30):vH 0 100 (.int i):=by
 have hn:i.natAbs<10 ^ 30:=by omega
 have h100:i.natAbs<2 ^ 100:=Nat.lt_trans hn (by decide)
 have hlog:i.natAbs≠0→i.natAbs.log2<100:=fun z=>(Nat.log2_lt z).mpr h100
 refine⟨?_,?_,Nat.zero_le _,?_⟩
 . show decide (i.natAbs.log2<1920)=true
   by_cases z:i.natAbs=0
   . rw[z];decide
   . exact decide_eq_true (Nat.lt_trans (hlog z) (by decide))
 . show decide ((PyData.shown (.int i)).length≤40)=true
   refine decide_eq_true ?_
   show (Str.ofString (toString i)).length≤40
   by_cases z:0≤i
   . exact Nat.le_trans (toString_length_le z (k:=30) (by decide) h2) (by decide)
   . have e:=len_text_negI (n:=i) (by omega)
     have e2:=toString_length_le (v:=0-i) (k:=30) (by omega) (by decide) (by omega)
     omega
 . show (if i == 0 then 0 else i.natAbs.log2+1)≤100
   split
   . exact Nat.zero_le _
   . rename_i z
     have z':i≠0:=by simpa using z
     exact hlog (by omega)
theorem ku:vH 0 0 .none:=⟨rfl,rfl,Nat.le_refl _,Nat.le_refl _⟩
theorem kq(b:Bool):vH 0 0 (.bool b):=⟨rfl,rfl,Nat.le_refl _,Nat.le_refl _⟩
theorem wq:∀{ds:List PyData},(∀d∈ds,d.showable=true)→PyData.showableAll ds=true
 |[],_=>rfl
 |d::ds,h=>by rw[PyData.showableAll,h d List.mem_cons_self,wq fun x hx=>h x (List.mem_cons_of_mem _ hx)];rfl
theorem ux:∀{ds:List PyData},(∀d∈ds,d.leavesShort 40=true)→PyData.leavesShortAll 40 ds=true
 |[],_=>rfl
 |d::ds,h=>by rw[PyData.leavesShortAll,h d List.mem_cons_self,ux fun x hx=>h x (List.mem_cons_of_mem _ hx)];rfl
theorem uw{k:Nat}:∀{ds:List PyData},(∀d∈ds,d.depth≤k)→PyData.depthAll ds≤k
 |[],_=>Nat.zero_le _
 |d::ds,h=>by rw[PyData.depthAll];exact Nat.max_le.mpr ⟨h d List.mem_cons_self,uw fun x hx=>h x (List.mem_cons_of_mem _ hx)⟩
theorem vx{w:Nat}:∀{ds:List PyData},(∀d∈ds,d.weight≤w)→PyData.weightAll ds≤ds.length*(w+1)
 |[],_=>by simp[PyData.weightAll]
 |d::ds,h=>by
  rw[PyData.weightAll,List.length_cons,Nat.succ_mul]
  have h1:=h d List.mem_cons_self
  have h2:=vx fun x hx=>h x (List.mem_cons_of_mem _ hx)
  omega
theorem nj{k w n:Nat}{ds:List PyData}(h:∀d∈ds,vH k w d)(hn:ds.length≤n):vH (k+1) (n*(w+1)) (.tuple ds):=by
 refine⟨wq fun d hd=>(h d hd).sh,ux fun d hd=>(h d hd).lf,Nat.succ_le_succ (uw fun d hd=>(h d hd).dp),?_⟩
 exact Nat.le_trans (vx fun d hd=>(h d hd).wt) (Nat.mul_le_mul_right _ hn)
theorem kr{k w n:Nat}{ds:List PyData}(h:∀d∈ds,vH k w d)(hn:ds.length≤n):vH (k+1) (n*(w+1)) (.list ds):=by
 refine⟨wq fun d hd=>(h d hd).sh,ux fun d hd=>(h d hd).lf,Nat.succ_le_succ (uw fun d hd=>(h d hd).dp),?_⟩
 exact Nat.le_trans (vx fun d hd=>(h d hd).wt) (Nat.mul_le_mul_right _ hn)
theorem gM{x:Str}(h1:∀c∈x.cps.toList,c<16 ^ 8)(h2:x.cps.size≤100):vH 0 100 (.str x):=by
 refine⟨rfl,?_,Nat.zero_le _,h2⟩
 show (x.cps.toList.all fun c=>decide (c<16 ^ 8))=true
 rw[List.all_eq_true]
 exact fun c hc=>decide_eq_true (h1 c hc)
theorem vH.Xu{k w:Nat}{d:PyData}(h:vH k w d)(hk:k≤50)(hw:w≤300000)(mix:d.hasDict=true→xJ d=false):bI d:=by
 refine⟨h.sh,mix,Nat.le_trans h.dp hk,?_⟩
 have e:=PyData.shown_le 40 (by decide) d h.lf
 have e2:=h.wt
 rw[sizeLine_eq]
 have:(40+2)*d.weight≤42*300000:=Nat.mul_le_mul_left _ (Nat.le_trans e2 hw)
 omega
theorem tE:∀{ds:List PyData},(∀d∈ds,d.hasDict=false)→PyData.hasDictAll ds=false
 |[],_=>rfl
 |d::ds,h=>by rw[PyData.hasDictAll,h d List.mem_cons_self,tE fun x hx=>h x (List.mem_cons_of_mem _ hx)];rfl
end L2
end
section
namespace L2
open PySem PySem.Spec PyProof.Rows
section
variable {X:Cx}{pos:Pos}
theorem XX{x:Str}{n:String}(hg:Gl X x)(hm:X.mg x=none)(hv:bootBuiltins x=some (.type n))(hn:x≠"__name__":=by decide)(hd:(x == ("__debug__":Str))=false:=by decide):PE X (.Name x pos) (tC (.ty n)):=
 dX hg hm hv (show RelV (.ty n) (.type n) from rfl) hn hd
noncomputable def noStar:Expr→Bool
 |.Starred ..=>false
 |_=>true
theorem yA{e:Expr}{es:List Expr}{env:Env}(h:noStar e=true):starEach (e::es) env=(false,eval e env)::starEach es env:=by
 cases e<;>first|rfl|cases h
theorem pac{X:Cx}{e:Expr}{es:List Expr}{te:TE}{t:TA}(ha:PE X e te)(hr:PA X es t)(hs:noStar e=true:=by rfl):PA X (e::es) (qX te t):=dU ha hr (yA hs)
noncomputable def qq(sc0:Scope)(N0 N:List Str)(csc:Scope)(fr:List (Option Nat)):Bool:=
 decide (csc.kind=.function)&&csc.names.all (fun x=>decide (x.2≠.cell))&&csc.names.all (fun x=>decide (x.2≠.local)||decide (csc.names.lookup x.1=some .local)) &&
 csc.names.all (fun x=>decide (x.2≠.free)||(decide (sc0.names.lookup x.1=some .cell)||decide (sc0.names.lookup x.1=some .free)))&&decide (fr.length=N.length) &&
 (List.range N.length).all (fun i=>match fr[i]?,N[i]? with|some (some j),some x=>decide (N0[j]?=some x)&&csc.names.any (fun y=>decide (y.1=x)&&decide (y.2=.free))|_,_=>true) &&
 csc.names.all (fun x=>decide (x.2≠.free)||decide (csc.names.lookup x.1≠some .local))
end
end L2
end
section
namespace L2
open PySem PySem.Spec PyProof.Rows
noncomputable def zb{α:Type}(xs:List α)(lo st:Int)(n:Nat):List α:=(List.range n).filterMap fun(k:Nat)=>xs[(lo+(k:Int)*st).toNat]?
theorem Vals.pick{xs:List V}{us:List Value}(r:Vals xs us):∀(is:List Nat),Vals (is.filterMap fun i=>xs[i]?) (is.filterMap fun i=>us[i]?)
 |[]=>.nil
 |i::is=>by
  rw[List.filterMap_cons,List.filterMap_cons]
  cases hx:xs[i]? with
  |none=>rw[r.none_of hx];exact Vals.pick r is
  |some x=>
   obtain⟨u,hu,ru⟩:=r.get hx
   rw[hu]
   exact .cons ru (Vals.pick r is)
theorem Vals.zb{xs:List V}{us:List Value}(r:Vals xs us)(lo st:Int)(n:Nat):Vals (zb xs lo st n) (L2.zb us lo st n):=by
 have h:=r.pick ((List.range n).map fun(k:Nat)=>(lo+(k:Int)*st).toNat)
 rw[List.filterMap_map,List.filterMap_map]at h
 exact h
theorem oe{α:Type}(xs:List α)(lo st:Int)(n:Nat):(zb xs lo st n).length≤n:=by
 have:=List.length_filterMap_le (fun(k:Nat)=>xs[(lo+(k:Int)*st).toNat]?) (List.range n)
 rw[List.length_range]at this
 exact this
noncomputable def yB(n:Nat)(lo hi:Option Int)(st:Int):Int × Nat:=((Builtin.Slice.sliceAdjust lo hi st (n:Int)).1,Builtin.Slice.slicePlaces (Builtin.Slice.sliceAdjust lo hi st (n:Int)).1 (Builtin.Slice.sliceAdjust lo hi st (n:Int)).2 st)
section
variable {prog:Program}{w:World}{A:Around}{E:Value→Shared→Prop}{s:Shared}
theorem rZ{sl:Addr}{vl vu vc:Value}{lo hi:Option Int}{st:Int}{n:Nat}{Q:Int × Int × Nat→Shared→Prop}(hs:s.heap.IsSliceOf sl vl vu vc)(pl:IsPart vl lo)(pu:IsPart vu hi)(pc:IsPart vc (some st))(h0:st≠0)
 (h:Q ((yB n lo hi st).1,st,(yB n lo hi st).2) s):wpAny (model prog w) A (Builtin.Slice.sliceApplied (.ref sl) (pure (n:Int))) Q E s:=by
 obtain⟨os,hos,hcs,hds⟩:=id hs
 unfold Builtin.Slice.sliceApplied Builtin.Slice.sliceFields
 refine wpAny_bind (wpAny_bind (wpAny_field hos hds (x:=vl) rfl (wpAny_bind (wpAny_field hos hds (x:=vu) rfl (wpAny_bind (wpAny_field hos hds (x:=vc) rfl (wpAny_pure ?_)))))))
 refine wpAny_bind (HT.wF pc ?_)
 show wpAny _ _ (if (st == 0)=true then _ else _) _ _ s
 rw[if_neg (by simpa using h0)]
 exact wpAny_bind (HT.wF pl (wpAny_bind (HT.wF pu (wpAny_bind (wpAny_pure (wpAny_pure h))))))
theorem fZ{t sl:Addr}{items:Array Value}{vl vu vc:Value}{lo hi:Option Int}{st:Int}{Q:Value→Shared→Prop}(ht:IsTup s.heap t items)(hs:s.heap.IsSliceOf sl vl vu vc)(pl:IsPart vl lo)(pu:IsPart vu hi)(pc:IsPart vc (some st))(h0:st≠0)
 (hq1:(yB items.size lo hi st).1=0→st=1→(yB items.size lo hi st).2=items.size→Q (.ref t) s)
 (hq2:Q (.ref s.heap.objs.size) {s with heap:=s.heap.push {cls:=.type "tuple",data:=.seq (zb items.toList (yB items.size lo hi st).1 st (yB items.size lo hi st).2).toArray}})
 (hsz:(yB items.size lo hi st).2≤sizeLine):wpAny (model prog w) A (getItem (.ref t) (.ref sl)) Q E s:=by
 obtain⟨os,hos,hcs,hds⟩:=id hs
 have hTs:s.TypeIs (.ref sl) "slice":=⟨os,hos,hcs⟩
 have htake:sizeOk (.seq (zb items.toList (yB items.size lo hi st).1 st (yB items.size lo hi st).2).toArray):=by
  show (zb items.toList (yB items.size lo hi st).1 st (yB items.size lo hi st).2).toArray.size≤sizeLine
  rw[List.size_toArray]
  exact Nat.le_trans (oe _ _ _ _) hsz
 have epick:((List.range (yB items.size lo hi st).2).filterMap fun(k:Nat)=>items[((yB items.size lo hi st).1+(k:Int)*st).toNat]?).toArray=(zb items.toList (yB items.size lo hi st).1 st (yB items.size lo hi st).2).toArray:=by
  unfold zb
  simp only[Array.getElem?_toList]
 unfold getItem
 try with_reducible refine wpAny_holding ?_
 first|refine wpAny_bind (wpAny_pure ?_)|skip
 refine wpAny_bind (wpAny_sequenceKey ht.typeIs (by decide) ?_)
 refine wpAny_bind (wpAny_callSpecial?_slot (name:=Str.ofString "__getitem__") ht.typeIs PyProof.Rows.slot_tuple_getitem
  (wpAny_call_entry PyProof.Rows.slot_tuple_getitem ht.typeIs entry_tuple_getitem ?_ (args_tuple_getitem _ _)))
 show wpAny _ _ (Builtin.Tuple.tupleItemsOf (.ref t) >>= _) _ _ s
 refine wpAny_bind (tupleItemsOf_ ht ?_)
 refine wpAny_bind (wpAny_typeOf hTs ?_)
 rw[if_pos (by decide)]
 refine wpAny_bind (rZ (n:=items.size) hs pl pu pc h0 ?_)
 by_cases hw:((yB items.size lo hi st).1 == 0&&st == 1&&(yB items.size lo hi st).2 == items.size)=true
 . show wpAny _ _ (if ((yB items.size lo hi st).1 == 0&&st == 1&&(yB items.size lo hi st).2 == items.size)=true then _ else _) _ _ s
   rw[if_pos hw]
   simp only[Bool.and_eq_true,beq_iff_eq]at hw
   unfold Builtin.Tuple.tupleIsExact
   refine wpAny_bind (wpAny_bind (wpAny_typeOf ht.typeIs (wpAny_pure ?_)))
   rw[if_pos (by decide)]
   exact wpAny_bind (wpAny_rule (wpAny_pure ⟨_,rfl,wpAny_pure (hq1 hw.1.1 hw.1.2 hw.2)⟩))
 . show wpAny _ _ (if ((yB items.size lo hi st).1 == 0&&st == 1&&(yB items.size lo hi st).2 == items.size)=true then _ else _) _ _ s
   rw[if_neg hw,epick]
   first
    |exact wpAny_bind (m:=Builtin.Tuple.tupleExact _) (wpAny_newObj_type (wpAny_pure ⟨_,rfl,wpAny_pure hq2⟩) htake)
    |exact wpAny_bind (wpAny_bind (m:=Builtin.Tuple.tupleExact _) (wpAny_newObj_type (wpAny_pure ⟨_,rfl,wpAny_pure hq2⟩) htake))
end
theorem og{α:Type}:∀xs:List α,(List.range xs.length).filterMap (fun k=>xs[k]?)=xs
 |[]=>rfl
 |x::xs=>by
  rw[List.length_cons,List.range_succ_eq_map,List.filterMap_cons,List.filterMap_map]
  show x::_=_
  refine congrArg (x::·) (Eq.trans ?_ (og xs))
  congr 1
theorem mF{α:Type}(xs:List α):zb xs 0 1 xs.length=xs:=by
 unfold zb
 have e:(fun(k:Nat)=>xs[(0+(k:Int)*1).toNat]?)=fun k=>xs[k]?:=by
  funext k
  rw[show (0+(k:Int)*1).toNat=k by omega]
 rw[e]
 exact og xs
noncomputable def WV:V→Option Int→Option Int→Option Int→Hp→VK→Prop:=fun x lo hi st H Q=>∃a xs c,x=.ref a∧H a=some (.tup xs)∧st=some c∧c≠0∧(yB xs.length lo hi c).2≤sizeLine∧tP H (zb xs (yB xs.length lo hi c).1 c (yB xs.length lo hi c).2) Q
noncomputable def X4(r:V→Option Int→Option Int→Option Int→Hp→VK→Prop)(te:TE)(tl th tc:TO):TE:=fun σ H Q=>te σ H fun x H1=>tl σ H1 fun l H2=>th σ H2 fun u H3=>tc σ H3 fun c H4=>r x l u c H4 Q
theorem jZ{X:Cx}{e:Expr}{te:TE}{lo hi:Option Expr}{st:Expr}{tl th tc:TO}{pos p2:Pos}(he:PE X e te)(hl:PO X lo tl)(hu:PO X hi th)(hc:PO X (some st) tc):PE X (.Subscript e (.Slice lo hi (some st) p2) pos) (X4 WV te tl th tc):=by
 intro pins s σ H Q I h
 refine Subscript_ (thn (he pins s σ H _ I h) fun v s1 ⟨x,H1,I1,r1,q1⟩=>?_)
 refine wpAny_Slice (thn (hl pins s1 σ H1 _ I1 q1) fun vl s2 ⟨l,H2,I2,pl,q2⟩=>thn (hu pins s2 σ H2 _ I2 q2) fun vu s3 ⟨u,H3,I3,pu,q3⟩=>thn (hc pins s3 σ H3 _ I3 q3) fun vc s4 ⟨c,H4,I4,pc,q4⟩=>?_)
 obtain⟨a,xs,cc,rfl,hx,ec,h0,hsz,g⟩:=q4
 subst ec
 cases r1
 have I5:Inv X pins σ H4 {s4 with heap:=s4.heap.push {cls:=.type "slice",data:=.fields #[vl,vu,vc]}}:=I4.kept (t':=s4.toks) fun b ob q=>Heap.get?_push_of_some _ q
 obtain⟨its,r,ht,hz⟩:=I5.tuple (.inl (.inl hx))
 have hlen:its.toArray.size=xs.length:=by rw[List.size_toArray];exact r.length.symm
 show wpAny (model X.prog X.w) X.A (subscriptTail e (.Slice lo hi (some st) p2) (.ref a) (.ref s4.heap.objs.size)) (EP X pins σ Q) X.xe {s4 with heap:=s4.heap.push {cls:=.type "slice",data:=.fields #[vl,vu,vc]}}
 refine tail_any (ops:=[.ref a,.ref s4.heap.objs.size]) ht.typeIs PyProof.Rows.slot_tuple_getitem.lookup (fZ ht (Heap.IsSliceOf.new ..) pl pu pc h0 (fun z1 z2 z3=>?_) ?_ (by rw[hlen];exact hsz)) (by with_unfolding_all rfl)
 . refine⟨.ref a,H4,I5,rfl,g a H4 (sF.refl H4) ?_⟩
   rw[hlen]at z1 z3
   rw[hx,z1,z3,z2,mF]
 . rw[hlen]
   refine⟨.ref _,_,I5.laid (t':=s4.toks) (o:=.tup (zb xs (yB xs.length l u cc).1 cc (yB xs.length l u cc).2)) (fun b ob q=>Heap.get?_push_of_some _ q) (Nat.le_refl _) ?_,rfl,g.new _ (I5.hok.fresh (Nat.le_refl _))⟩
   refine⟨Nat.le_trans (oe _ _ _ _) hsz,_,r.zb _ _ _,?_⟩
   exact uu.new _ _
end L2
end
section
namespace L2
open PySem PyProof.Rows
section
variable {X:Cx}
noncomputable def tU(d:Int):List Int→Int
 |[]=>d
 |n::ns=>ns.foldl (fun a b=>if b > a then b else a) n
theorem sP:∀(ns:List Int) (a:Int),a≤ns.foldl (fun a b=>if b > a then b else a) a∧(∀x∈ns,x≤ns.foldl (fun a b=>if b > a then b else a) a)∧(ns.foldl (fun a b=>if b > a then b else a) a=a∨ns.foldl (fun a b=>if b > a then b else a) a∈ns)
 |[],a=>⟨Int.le_refl _,fun _ h=>(nomatch h),.inl rfl⟩
 |n::ns,a=>by
  obtain⟨h1,h2,h3⟩:=sP ns (if n > a then n else a)
  show a≤ns.foldl _ (if n > a then n else a)∧_
  have hc:a≤(if n > a then n else a)∧n≤(if n > a then n else a):=by split<;>omega
  refine⟨Int.le_trans hc.1 h1,fun x hx=>?_,?_⟩
  . rcases List.mem_cons.mp hx with e|hx
    . rw[e];exact Int.le_trans hc.2 h1
    . exact h2 x hx
  . rcases h3 with h3|h3
    . show ns.foldl _ (if n > a then n else a)=a∨ns.foldl _ (if n > a then n else a)∈n::ns
      rw[h3]
      split
      . exact .inr (List.mem_cons_self ..)
      . exact .inl rfl
    . exact .inr (List.mem_cons_of_mem _ h3)
theorem nt{d:Int}{ns:List Int}(h:ns≠[]):tU d ns∈ns∧∀x∈ns,x≤tU d ns:=by
 cases ns with
 |nil=>exact absurd rfl h
 |cons n ns=>
  obtain⟨h1,h2,h3⟩:=sP ns n
  refine⟨?_,fun x hx=>?_⟩
  . rcases h3 with h3|h3
    . show ns.foldl _ n∈_;rw[h3];exact List.mem_cons_self ..
    . exact List.mem_cons_of_mem _ h3
  . rcases List.mem_cons.mp hx with e|hx
    . rw[e];exact h1
    . exact h2 x hx
theorem gN{d M:Int}{ns:List Int}(h1:M∈ns)(h2:∀x∈ns,x≤M):tU d ns=M:=by
 have hne:ns≠[]:=fun e=>by rw[e]at h1;exact nomatch h1
 obtain⟨a,b⟩:=nt (d:=d) hne
 exact Int.le_antisymm (h2 _ a) (b _ h1)
theorem Vals.ints:∀{ns:List Int} {us:List Value},Vals (ns.map V.int) us→∀{i:Nat} {v:Value},us[i]?=some v→∃t,v=.int (ns.getD i 0) t
 |[],_,.nil,_,_,h=>by cases h
 |n::ns,_,.cons r rs,0,v,h=>by
  obtain⟨t,e⟩:=r
  have:v=.int n t:=(Option.some.inj h).symm.trans e
  exact⟨t,this⟩
 |n::ns,_,.cons r rs,i+1,v,h=>by
  have:=Vals.ints rs (i:=i) (v:=v) h
  exact this
end
end L2
end
section
namespace L2
open PySem PyProof PyProof.Rows
section
variable {X:Cx}
theorem mf(l:Addr)(items:Array Value)(n:Nat)(u:Tok)(dd:Option Addr)(sl:Array (Option Value)) :
 Meets (Builtin.«tuple.__mul__» ⟨[.ref l,.int 1 u],[]⟩) (fun _ R s=>s.heap.get? l=some {cls:=.type "tuple",dict:=dd,data:=.seq items n,slots:=sl}∧R (.ok (.ret (Value.ref l))) s):=
 .of_wp fun prog w A R s h=>by
  obtain⟨hp,g,d,tk,os⟩:=s;obtain⟨hl,h⟩:=h
  have f1:=AutoSeq1.idx_int
  have c1:¬((decide ((1:Int) < -(2 ^ 63))||decide ((1:Int) ≥ 2 ^ 63))=true):=by decide
  have c2:((items.isEmpty||((1:Int) == 1))=true):=by simp
  wp_walk using wpAny_loadPart' hl
  exact⟨_,rfl,h⟩
theorem me(l:Addr)(items:Array Value)(n:Nat)(x:Int)(u:Tok)(dd:Option Addr)(sl:Array (Option Value))(h1:x≤0)(h2:-1000≤x)(h3:¬items.isEmpty=true) :
 Meets (Builtin.«tuple.__mul__» ⟨[.ref l,.int x u],[]⟩) (fun _ R s=>s.heap.get? l=some {cls:=.type "tuple",dict:=dd,data:=.seq items n,slots:=sl} ∧
  R (.ok (.ret (Value.ref s.heap.objs.size))) {s with heap:=s.heap.push {cls:=Value.type "tuple",data:=Data.seq #[]},toks:=s.toks}):=
 .of_wp fun prog w A R s h=>by
  obtain⟨hp,g,d,tk,os⟩:=s;obtain⟨hl,h⟩:=h
  have f1:=AutoSeq1.idx_int
  have c1:¬((decide (x < -(2 ^ 63))||decide (x ≥ 2 ^ 63))=true):=by simp;omega
  have c2:¬((items.isEmpty||x == 1)=true):=by simp at h3 ⊢;exact⟨h3,by omega⟩
  have c3:((decide (x≤0)||items.isEmpty)=true):=by simp;exact .inl h1
  wp_walk using wpAny_loadPart' hl
  rw[if_neg c1]
  refine wpAny_bind (tupleItemsOf_ (items:=items) ⟨_,hl,rfl,n,rfl⟩ ?_)
  rw[if_neg c2]
  show wpAny _ _ (if (decide (x≤0)||items.isEmpty)=true then _ else _) _ _ _
  rw[if_pos c3]
  exact wpAny_bind (m:=Builtin.Tuple.tupleExact _) (wpAny_newObj_type (wpAny_pure ⟨_,rfl,h⟩))
noncomputable def Xo:R2:=fun x y H Q=>∃a k xs,x=.ref a∧y=.int k∧H a=some (.tup xs)∧-1000≤k∧k≤1000∧xs≠[]∧xs.length≤1000∧tP H (List.replicate k.toNat xs).flatten Q
theorem dJ:OpR X (binaryOp .Mult) Xo:=by
 intro pins s σ H x y v u Q I rx ry h
 obtain⟨a,k,xs,rfl,rfl,ha,h1,h2,h3,h4,g⟩:=h
 by_cases hk2:2≤k
 . exact dM pins s σ H _ _ v u Q I rx ry ⟨a,k,xs,rfl,rfl,ha,hk2,h2,h3,h4,g⟩
 cases rx
 obtain⟨t,rfl⟩:=ry
 obtain⟨its,r,p1,_⟩:=I.tuple (.inl (.inl ha))
 obtain⟨⟨cls,dd,data,sl⟩,ho,hc,n,hd⟩:=id p1
 simp only at hc hd
 subst hc hd
 by_cases hk1:k=1
 . subst hk1
   refine wpAny_binaryOp_repeat_ref (T:="tuple") (U:="int") (by decide) ⟨_,ho,rfl⟩ (fun s'=>typeIs_int s' 1 t) xY F.fills_int_mul F.slot_int_rmul vC F.slot_int_index.lookup
    (call_meets F.slot_int_rmul (typeIs_int s 1 t) F.entry_int_rmul (F.args_int_rmul_2 _ _) (wA 1 t a its.toArray n dd sl)
     ⟨ho,rfl,⟨_,ho,rfl⟩,call_meets F.slot_tuple_mul ⟨_,ho,rfl⟩ F.entry_tuple_mul (F.args_tuple_mul_2 _ _) (mf a its.toArray n t dd sl) ⟨ho,?_⟩⟩)
   refine⟨.ref a,H,I,rfl,g a H (sF.refl H) ?_⟩
   rw[ha];simp
 . have hne:¬its.toArray.isEmpty=true:=by
    simp
    intro e
    exact h3 (r.uY.mp e)
   have e0:k.toNat=0:=by omega
   refine wpAny_binaryOp_repeat_ref (T:="tuple") (U:="int") (by decide) ⟨_,ho,rfl⟩ (fun s'=>typeIs_int s' k t) xY F.fills_int_mul F.slot_int_rmul vC F.slot_int_index.lookup
    (call_meets F.slot_int_rmul (typeIs_int s k t) F.entry_int_rmul (F.args_int_rmul_2 _ _) (wA k t a its.toArray n dd sl)
     ⟨ho,rfl,⟨_,ho,rfl⟩,call_meets F.slot_tuple_mul ⟨_,ho,rfl⟩ F.entry_tuple_mul (F.args_tuple_mul_2 _ _) (me a its.toArray n k t dd sl (by omega) h1 hne) ⟨ho,?_⟩⟩)
   rw[e0]at g
   refine⟨.ref s.heap.objs.size,_,I.laid (t':=s.toks) (o:=.tup []) (fun b ob q=>Heap.get?_push_of_some _ q) (Nat.le_refl _) ⟨Nat.zero_le _,[],.nil,uu.new _ _⟩,rfl,g.new _ (I.hok.fresh (Nat.le_refl _))⟩
noncomputable def Z0(a b c:Int):List Int:=(List.range (Builtin.Range.rangeSize a b c).toNat).map fun(i:Nat)=>a+(i:Int)*c
end
end L2
end
section
namespace L2
open PySem PyProof PyProof.Rows
section
variable {X:Cx}{k:Nat}
theorem p8:∀ns:List Int,PyData.canLayAll0 (ns.map PyData.int)=true
 |[]=>rfl
 |n::ns=>by
  show (PyData.canLay0 (.int n)&&PyData.canLayAll0 (ns.map PyData.int))=true
  rw[p8 ns];rfl
theorem wz:∀ns:List Int,PyData.depthAll (ns.map PyData.int)=0
 |[]=>by simp[PyData.depthAll]
 |n::ns=>by simp only[List.map_cons,PyData.depthAll,PyData.depth,wz ns];rfl
end
end L2
end
section
namespace L2
open PySem PyProof PyProof.Rows
section
variable {X:Cx}
theorem uz{x:V}:∀{xs:List V} {us:List Value},Vals xs us→xs.all wK=true→us.countP (eqU x)=xs.countP fun y=>eqV y x
 |_,_,.nil,_=>rfl
 |y::ys,u::us,.cons r rs,h=>by
  rw[List.all_cons,Bool.and_eq_true]at h
  rw[List.countP_cons,List.countP_cons,uz rs h.2,nX r h.1]
noncomputable def pN(K:PySem.W.Frag)(tup:Bool):V→List V→Hp→VK→Prop:=fun x vs H Q=>∃t xs y,x=.ref t∧vs=[y]∧(if tup=true then SqT K H t xs else SqL K H t xs)∧wK y=true∧xs.all wK=true∧Q (.int (xs.countP fun z=>eqV z y:Nat)) H
theorem jF:MtR X "tuple.count" (pN X.K true):=by
 intro pins s σ H x xs v us Q I rx rs h
 obtain⟨t,ys,y,rfl,rfl,ht,fy,fs,q⟩:=h
 cases rx
 obtain⟨u,rfl,ru⟩:=vals1 rs
 obtain⟨its,r,p1,_⟩:=I.tuple ht
 obtain⟨⟨cls,dd,data,sl⟩,ho,hc,n,hd⟩:=id p1
 simp only at hc hd
 subst hc hd
 refine call_meets F.slot_tuple_count ⟨_,ho,rfl⟩ F.entry_tuple_count (F.args_tuple_count_2 _ _) (SeqAt.tuple_countAt t its.toArray n dd sl u (eqU y)) ⟨ho,fun w hw=>wB ru fy r fs w (by simpa using hw),?_⟩
 rw[show its.toArray.toList=its from rfl,uz r fs]
 exact⟨.int _,H,I.tok _,⟨s.toks,rfl⟩,q⟩
theorem jD:MtR X "list.count" (pN X.K false):=by
 intro pins s σ H x xs v us Q I rx rs h
 obtain⟨t,ys,y,rfl,rfl,ht,fy,fs,q⟩:=h
 cases rx
 obtain⟨u,rfl,ru⟩:=vals1 rs
 obtain⟨its,r,p1,_⟩:=I.list ht
 obtain⟨⟨cls,dd,data,sl⟩,ho,hc,n,hd⟩:=id p1.isList
 simp only at hc hd
 subst hc hd
 refine call_meets F.slot_list_count ⟨_,ho,rfl⟩ F.entry_list_count (F.args_list_count_2 _ _) (SeqAt.list_countAt t its.toArray n dd sl u (eqU y)) ⟨ho,fun w hw=>wB ru fy r fs w (by simpa using hw),?_⟩
 rw[show its.toArray.toList=its from rfl,uz r fs]
 exact⟨.int _,H,I.tok _,⟨s.toks,rfl⟩,q⟩
theorem v5(h:Int):∀ns:List Int,((ns.map V.int).countP fun z=>eqV z (.int h))=ns.count h
 |[]=>rfl
 |n::ns=>by
  rw[List.map_cons,List.countP_cons,v5 h ns,List.count_cons]
  rfl
theorem vd:∀ns:List Int,(ns.map V.int).all wK=true
 |[]=>rfl
 |n::ns=>by rw[List.map_cons,List.all_cons,vd ns];rfl
noncomputable def sm(d:Int):List Int→Int
 |[]=>d
 |n::ns=>ns.foldl (fun a b=>if b<a then b else a) n
theorem sQ:∀(ns:List Int) (a:Int),ns.foldl (fun a b=>if b<a then b else a) a≤a∧(∀x∈ns,ns.foldl (fun a b=>if b<a then b else a) a≤x)∧(ns.foldl (fun a b=>if b<a then b else a) a=a∨ns.foldl (fun a b=>if b<a then b else a) a∈ns)
 |[],a=>⟨Int.le_refl _,fun _ h=>(nomatch h),.inl rfl⟩
 |n::ns,a=>by
  obtain⟨h1,h2,h3⟩:=sQ ns (if n<a then n else a)
  show ns.foldl _ (if n<a then n else a)≤a∧_
  have hc:(if n<a then n else a)≤a∧(if n<a then n else a)≤n:=by split<;>omega
  refine⟨Int.le_trans h1 hc.1,fun x hx=>?_,?_⟩
  . rcases List.mem_cons.mp hx with e|hx
    . rw[e];exact Int.le_trans h1 hc.2
    . exact h2 x hx
  . rcases h3 with h3|h3
    . show ns.foldl _ (if n<a then n else a)=a∨ns.foldl _ (if n<a then n else a)∈n::ns
      rw[h3]
      split
      . exact .inr (List.mem_cons_self ..)
      . exact .inl rfl
    . exact .inr (List.mem_cons_of_mem _ h3)
theorem nu{d:Int}{ns:List Int}(h:ns≠[]):sm d ns∈ns∧∀x∈ns,sm d ns≤x:=by
 cases ns with
 |nil=>exact absurd rfl h
 |cons n ns=>
  obtain⟨h1,h2,h3⟩:=sQ ns n
  refine⟨?_,fun x hx=>?_⟩
  . rcases h3 with h3|h3
    . show ns.foldl _ n∈_;rw[h3];exact List.mem_cons_self ..
    . exact List.mem_cons_of_mem _ h3
  . rcases List.mem_cons.mp hx with e|hx
    . rw[e];exact h1
    . exact h2 x hx
theorem gO{d M:Int}{ns:List Int}(h1:M∈ns)(h2:∀x∈ns,M≤x):sm d ns=M:=by
 have hne:ns≠[]:=fun e=>by rw[e]at h1;exact nomatch h1
 obtain⟨a,b⟩:=nu (d:=d) hne
 exact Int.le_antisymm (b _ h1) (h2 _ a)
noncomputable def bU(K:PySem.W.Frag)(g:List Int→Int):List V→Hp→VK→Prop:=fun xs H Q=>∃(a:Addr) (ns:List Int),xs=[.ref a]∧SqL K H a (ns.map V.int)∧ns≠[]∧Q (.int (g ns)) H
theorem kT(hc:X.calm=true):z6 X (.builtin "max") (bU X.K (tU 0)):=by
 intro pins s σ H xs us Q I r h
 obtain⟨a,ns,rfl,ha,hne,q⟩:=h
 obtain⟨u,rfl,ru⟩:=vals1 r
 cases ru
 obtain⟨its,rv,pl,hz⟩:=I.list ha
 have hlen:=rv.length
 have alt:a<s.heap.objs.size:=by obtain⟨o,ho,_⟩:=pl.isList;exact Heap.lt_size ho
 have hl:its.toArray.size=ns.length:=by rw[List.size_toArray,←hlen,List.length_map]
 have hpos:0<ns.length:=List.length_pos_iff.mpr hne
 have hat:∀(i:Nat) (v:Value),its.toArray[i]?=some v→∃t,v=.int (ns.getD i 0) t:=fun i v hv=>rv.ints (by simpa using hv)
 refine call_max_walk (wpAny_pyIter_list pl.isList ?_)
 refine⟨s.heap.objs.size,_,_,_,_,_,_,rfl,Walks.list (A:=X.A.in1) (I.ok.hd hc) s.heap.objs.size a (Nat.ne_of_lt alt) its.toArray,⟨⟨_,Heap.get?_push_size _ rfl,rfl,rfl⟩,?_⟩,fun b hb=>?_,by omega,CmpOf.ints_gt (fun i=>ns.getD i 0) hat,fun v h' tk hP hk=>?_⟩
 . obtain⟨o,ho,hc',n,hd⟩:=pl.isList
   exact⟨o,Heap.get?_push_of_some _ ho,hc',n,hd⟩
 . rw[Heap.size_push]
   simp only[List.mem_cons,List.not_mem_nil,or_false]at hb
   rcases hb with e|e
   . rw[e];exact Nat.lt_succ_self _
   . rw[e];exact Nat.lt_succ_of_lt alt
 . obtain⟨t,rfl⟩:=hat _ _ hP
   obtain⟨b1,b2⟩:=argBest_gt (fun i=>ns.getD i 0) (its.toArray.size-1)
   have e:tU 0 ns=ns.getD (argBest (fun i j=>decide (ns.getD i 0 > ns.getD j 0)) (its.toArray.size-1)) 0:=by
    refine gN ?_ fun x hx=>?_
    . have:argBest (fun i j=>decide (ns.getD i 0 > ns.getD j 0)) (its.toArray.size-1)<ns.length:=by omega
      rw[List.getD_eq_getElem?_getD,List.getElem?_eq_getElem this];exact List.getElem_mem this
    . obtain⟨i,hi,rfl⟩:=List.getElem_of_mem hx
      have:=b2 i (by omega)
      simpa [List.getD_eq_getElem?_getD,List.getElem?_eq_getElem hi] using this
   refine⟨.int (tU 0 ns),H,I.kept fun b o ho=>hk b o ?_ (Heap.get?_push_of_some _ ho),⟨t,by rw[e]⟩,q⟩
   simpa using Nat.ne_of_lt (Heap.lt_size ho)
theorem kW(hc:X.calm=true):z6 X (.builtin "min") (bU X.K (sm 0)):=by
 intro pins s σ H xs us Q I r h
 obtain⟨a,ns,rfl,ha,hne,q⟩:=h
 obtain⟨u,rfl,ru⟩:=vals1 r
 cases ru
 obtain⟨its,rv,pl,hz⟩:=I.list ha
 have hlen:=rv.length
 have alt:a<s.heap.objs.size:=by obtain⟨o,ho,_⟩:=pl.isList;exact Heap.lt_size ho
 have hl:its.toArray.size=ns.length:=by rw[List.size_toArray,←hlen,List.length_map]
 have hpos:0<ns.length:=List.length_pos_iff.mpr hne
 have hat:∀(i:Nat) (v:Value),its.toArray[i]?=some v→∃t,v=.int (ns.getD i 0) t:=fun i v hv=>rv.ints (by simpa using hv)
 refine call_min_walk (wpAny_pyIter_list pl.isList ?_)
 refine⟨s.heap.objs.size,_,_,_,_,_,_,rfl,Walks.list (A:=X.A.in1) (I.ok.hd hc) s.heap.objs.size a (Nat.ne_of_lt alt) its.toArray,⟨⟨_,Heap.get?_push_size _ rfl,rfl,rfl⟩,?_⟩,fun b hb=>?_,by omega,CmpOf.ints_lt (fun i=>ns.getD i 0) hat,fun v h' tk hP hk=>?_⟩
 . obtain⟨o,ho,hc',n,hd⟩:=pl.isList
   exact⟨o,Heap.get?_push_of_some _ ho,hc',n,hd⟩
 . rw[Heap.size_push]
   simp only[List.mem_cons,List.not_mem_nil,or_false]at hb
   rcases hb with e|e
   . rw[e];exact Nat.lt_succ_self _
   . rw[e];exact Nat.lt_succ_of_lt alt
 . obtain⟨t,rfl⟩:=hat _ _ hP
   obtain⟨b1,b2⟩:=argBest_lt (fun i=>ns.getD i 0) (its.toArray.size-1)
   have e:sm 0 ns=ns.getD (argBest (fun i j=>decide (ns.getD i 0<ns.getD j 0)) (its.toArray.size-1)) 0:=by
    refine gO ?_ fun x hx=>?_
    . have:argBest (fun i j=>decide (ns.getD i 0<ns.getD j 0)) (its.toArray.size-1)<ns.length:=by omega
      rw[List.getD_eq_getElem?_getD,List.getElem?_eq_getElem this];exact List.getElem_mem this
    . obtain⟨i,hi,rfl⟩:=List.getElem_of_mem hx
      have:=b2 i (by omega)
      simpa [List.getD_eq_getElem?_getD,List.getElem?_eq_getElem hi] using this
   refine⟨.int (sm 0 ns),H,I.kept fun b o ho=>hk b o ?_ (Heap.get?_push_of_some _ ho),⟨t,by rw[e]⟩,q⟩
   simpa using Nat.ne_of_lt (Heap.lt_size ho)
theorem jW{o e:Expr}{to te:TE}{apos cpos:Pos}{es:List Expr}(ho:PE X o to)(he:PE X e te)(hbase:attributeBase o "append" X.env (eval o X.env)=eval o X.env:=by rfl)(hst:noStar e=true:=by rfl)(hline:(apos.endLine == cpos.line)=true:=by rfl) :
 PE X (.Call (.Attribute o "append" apos) [e] [] cpos) (tBM X.K "list" l7 to (qX te jz)):=by
 have hs1:starEach [e] X.env=(false,eval e X.env)::starEach [] X.env:=yA hst
 refine gi PySem.F.plainAttrs_list PySem.F.slot_list_append PySem.F.type_list_append qQ ho (pac he vR hst) hbase ?_ hline hs1 rfl
 rw[hs1];rfl
theorem jX{o e:Expr}{to te:TE}{apos cpos:Pos}(ho:PE X o to)(he:PE X e te)(hbase:attributeBase o "count" X.env (eval o X.env)=eval o X.env:=by rfl)(hst:noStar e=true:=by rfl)(hline:(apos.endLine == cpos.line)=true:=by rfl) :
 PE X (.Call (.Attribute o "count" apos) [e] [] cpos) (tBM X.K "list" (pN X.K false) to (qX te jz)):=by
 have hs1:starEach [e] X.env=(false,eval e X.env)::starEach [] X.env:=yA hst
 refine gi PySem.F.plainAttrs_list PySem.F.slot_list_count PySem.F.type_list_count jD ho (pac he vR hst) hbase ?_ hline hs1 rfl
 rw[hs1];rfl
noncomputable def Wb(r:V→List V→Hp→VK→Prop)(to:TE)(t:TA):TE:=fun σ H Q=>to σ H fun x H1=>(∃a xs,x=.ref a∧H1 a=some (.tup xs))∧t σ H1 fun xs H2=>r x xs H2 Q
theorem jY{o e:Expr}{to te:TE}{apos cpos:Pos}(ho:PE X o to)(he:PE X e te)(hbase:attributeBase o "count" X.env (eval o X.env)=eval o X.env:=by rfl)(hst:noStar e=true:=by rfl)(hline:(apos.endLine == cpos.line)=true:=by rfl) :
 PE X (.Call (.Attribute o "count" apos) [e] [] cpos) (Wb (pN X.K true) to (qX te jz)):=by
 have hs1:starEach [e] X.env=(false,eval e X.env)::starEach [] X.env:=yA hst
 intro pins s σ H Q I h
 refine wpAny_Call_method_late hbase (by rw[hs1];rfl) hline rfl (thn (ho pins s σ H _ I h) fun v s1 ⟨x,H1,I1,r1,ty,q1⟩=>?_)
 obtain⟨a,xs,rfl,hx⟩:=ty
 cases r1
 obtain⟨z,its,rv,ob,e1,c1,n,d1,nd⟩:=(show zy X.prog X.w H1 s1.heap a (.tup xs) from I1.hok a _ hx)
 refine⟨"tuple",_,PySem.F.plainAttrs_tuple,PySem.F.slot_tuple_count,PySem.F.type_tuple_count,⟨ob,e1,c1⟩,fun b hb=>?_,?_⟩
 . cases hb;exact⟨ob,e1,nd⟩
 have hA:=(pac he vR hst:PA X [e] _) cpos pins s1 σ H1 _ I1 q1
 rw[hs1]at hA ⊢
 refine Calls.callWith_builtin rfl (Calls.evalArgs_plain ?_)
 exact thn hA fun us s2 ⟨vs,H2,I2,r2,q2⟩=>jF pins s2 σ H2 (.ref a) vs _ us Q I2 rfl r2 q2
end
end L2
namespace L2
open PySem
end L2
namespace L2
open PySem
end L2
end
section
namespace L2
open PySem PySem.W PyProof PyProof.Rows
noncomputable def wpT(f:Nat→Nat→Bool)(n:Nat){α:Type}:KasT α→(α→Prop)→Prop
 |.ret a,Q=>Q a
 |.ask i j k,Q=>i<n∧j<n∧wpT f n (k (f i j)) Q
theorem wo{f:Nat→Nat→Bool}{n:Nat}{α β:Type}{g:α→KasT β}{Q:β→Prop}:∀{t:KasT α},wpT f n t (fun a=>wpT f n (g a) Q)→wpT f n (t.bind g) Q
 |.ret _,h=>h
 |.ask _ _ _,⟨h1,h2,h3⟩=>⟨h1,h2,wo h3⟩
theorem kH{f:Nat→Nat→Bool}{n:Nat}{cmp:Nat→Nat→(Bool→Shared→Prop)→Shared→Prop}{s:Shared}(hc:∀i j (C:Bool→Shared→Prop),i<n→j<n→C (f i j) s→cmp i j C s){α:Type}{Q:α→Shared→Prop} :
 ∀{t:KasT α},wpT f n t (fun a=>Q a s)→t.kasWp cmp Q s
 |.ret _,h=>h
 |.ask i j k,⟨h1,h2,h3⟩=>hc i j _ h1 h2 (kH hc h3)
section
variable {key:Nat→Int}{n:Nat}
noncomputable def kp(key:Nat→Int)(p:Array Nat)(i:Nat):Int:=key (p.getD i 0)
def Inc(key:Nat→Int)(p:Array Nat)(m:Nat):Prop:=∀i j,i<j→j<m→kp key p i<kp key p j
def Dec(key:Nat→Int)(p:Array Nat)(m:Nat):Prop:=∀i j,i<j→j<m→kp key p j<kp key p i
structure Pm(key:Nat→Int)(n:Nat)(p:Array Nat):Prop where
 perm:p.toList.Perm (List.range n)
 inj:∀i j,i<n→j<n→key i=key j→i=j
theorem Pm.size{p:Array Nat}(h:Pm key n p):p.size=n:=by have:=h.perm.length_eq;simpa using this
theorem Pm.lt{p:Array Nat}(h:Pm key n p){i:Nat}(hi:i<n):p.getD i 0<n:=by
 have hs:=h.size
 have hi':i<p.size:=by omega
 have:p.getD i 0=p[i]:=by simp[Array.getD,hi']
 rw[this]
 have hm:p[i]∈p.toList:=by simp
 exact List.mem_range.mp (h.perm.mem_iff.mp hm)
theorem Pm.ne{p:Array Nat}(h:Pm key n p){i j:Nat}(hi:i<n)(hj:j<n)(hij:i≠j):kp key p i≠kp key p j:=fun e=>by
 have hs:=h.size
 have e2:=h.inj _ _ (h.lt hi) (h.lt hj) e
 have hnd:p.toList.Nodup:=h.perm.nodup_iff.mpr List.nodup_range
 have hi':i<p.toList.length:=by rw[Array.length_toList];omega
 have hj':j<p.toList.length:=by rw[Array.length_toList];omega
 have a1:p.getD i 0=p.toList[i]:=by simp[Array.getD,show i<p.size by omega]
 have a2:p.getD j 0=p.toList[j]:=by simp[Array.getD,show j<p.size by omega]
 rw[a1,a2]at e2
 have hpw:=List.pairwise_iff_getElem.mp hnd
 rcases Nat.lt_or_gt_of_ne hij with h1|h1
 . exact hpw i j hi' hj' h1 e2
 . exact hpw j i hj' hi' h1 e2.symm
theorem Pm.of{p q:Array Nat}(h:Pm key n p)(hq:q.Perm p):Pm key n q:=⟨(Array.perm_iff_toList_perm.mp hq).trans h.perm,h.inj⟩
noncomputable abbrev fOf(key:Nat→Int)(i j:Nat):Bool:=decide (key i<key j)
theorem nM{p:Array Nat}(hp:Pm key n p){Q:Nat→Prop}:∀(fu m:Nat),1≤m→m+fu≤n→Inc key p m→(∀m',m≤m'→m'≤m+fu→Inc key p m'→(m'=m+fu∨kp key p m'<kp key p (m'-1))→Q m')→wpT (fOf key) n (kas_asc p fu m) Q
 |0,m,_,_,h,q=>q m (Nat.le_refl _) (Nat.le_refl _) h (.inl rfl)
 |fu+1,m,h1,h2,h,q=>by
  refine⟨hp.lt (by omega),hp.lt (by omega),?_⟩
  by_cases c:key (p.getD m 0)<key (p.getD (m-1) 0)
  . rw[show fOf key (p.getD m 0) (p.getD (m-1) 0)=true from decide_eq_true c]
    dsimp only
    rw[if_pos rfl]
    exact q m (Nat.le_refl _) (by omega) h (.inr c)
  . rw[show fOf key (p.getD m 0) (p.getD (m-1) 0)=false from decide_eq_false c]
    dsimp only
    rw[if_neg Bool.false_ne_true]
    have hne:=hp.ne (i:=m) (j:=m-1) (by omega) (by omega) (by omega)
    refine nM hp fu (m+1) (by omega) (by omega) (fun i j hij hj=>?_) fun m' a b c' d=>q m' (by omega) (by omega) c' (by rcases d with d|d;exact .inl (by omega);exact .inr d)
    by_cases hjm:j<m
    . exact h i j hij hjm
    . have:j=m:=by omega
      subst this
      have h3:kp key p (j-1)<kp key p j:=by
       have:¬kp key p j<kp key p (j-1):=c
       omega
      by_cases hi:i=j-1
      . rw[hi];exact h3
      . exact Int.lt_trans (h i (j-1) (by omega) (by omega)) h3
theorem lN{p:Array Nat}(hp:Pm key n p){Q:Array Nat × Nat × Nat→Prop}:∀(fu m:Nat),1≤m→m+fu≤n→Dec key p m→(∀m',m≤m'→m'≤m+fu→Dec key p m'→Q (p,m',0))→wpT (fOf key) n (kas_desc fu p m 0) Q
 |0,m,_,_,h,q=>q m (Nat.le_refl _) (Nat.le_refl _) h
 |fu+1,m,h1,h2,h,q=>by
  refine⟨hp.lt (by omega),hp.lt (by omega),?_⟩
  have hne:=hp.ne (i:=m) (j:=m-1) (by omega) (by omega) (by omega)
  by_cases c:key (p.getD m 0)<key (p.getD (m-1) 0)
  . rw[show fOf key (p.getD m 0) (p.getD (m-1) 0)=true from decide_eq_true c]
    dsimp only
    rw[if_pos rfl,if_neg (Nat.lt_irrefl 0)]
    refine lN hp fu (m+1) (by omega) (by omega) (fun i j hij hj=>?_) fun m' a b c'=>q m' (by omega) (by omega) c'
    by_cases hjm:j<m
    . exact h i j hij hjm
    . have:j=m:=by omega
      subst this
      have h3:kp key p j<kp key p (j-1):=c
      by_cases hi:i=j-1
      . rw[hi];exact h3
      . exact Int.lt_trans h3 (h i (j-1) (by omega) (by omega))
  . rw[show fOf key (p.getD m 0) (p.getD (m-1) 0)=false from decide_eq_false c]
    dsimp only
    rw[if_neg Bool.false_ne_true]
    refine⟨hp.lt (by omega),hp.lt (by omega),?_⟩
    have c2:key (p.getD (m-1) 0)<key (p.getD m 0):=by
     have a1:¬kp key p m<kp key p (m-1):=c
     show kp key p (m-1)<kp key p m
     omega
    rw[show fOf key (p.getD (m-1) 0) (p.getD m 0)=true from decide_eq_true c2]
    dsimp only
    rw[if_pos rfl]
    exact q m (Nat.le_refl _) (by omega) h
theorem gH{p:Array Nat}{m k:Nat}(hm:m≤p.size):kp key (kas_rev p 0 m) k=if k<m then kp key p (m-1-k) else kp key p k:=by
 unfold kp kas_rev
 have e:=getElem?_mirror_all (i:=0) (j:=m) hm k
 by_cases hk:k<m
 . rw[if_pos ⟨Nat.zero_le _,hk⟩]at e
   rw[if_pos hk]
   congr 1
   rw[Array.getD_eq_getD_getElem?,Array.getD_eq_getD_getElem?,e]
   rw[show 0+m-1-k=m-1-k by omega]
 . rw[if_neg (by omega)]at e
   rw[if_neg hk]
   congr 1
   rw[Array.getD_eq_getD_getElem?,Array.getD_eq_getD_getElem?,e]
theorem cw{p:Array Nat}(hp:Pm key n p){m:Nat}(h1:1≤m)(h2:m≤n)(h:Dec key p m){Q:Nat × Array Nat→Prop}(q:∀m' p',Pm key n p'→1≤m'→m'≤n→Inc key p' m'→Q (m',p')):wpT (fOf key) n (kas_tail3 m n p) Q:=by
 have hs:=hp.size
 have hp':Pm key n (kas_rev p 0 m):=hp.of (mirror_perm _ _ _ _)
 refine wo (nM hp' (n-m) m h1 (by omega) (fun i j hij hj=>?_) fun m' a b c _=>q m' _ hp' (by omega) (by omega) c)
 rw[gH (by omega),gH (by omega),if_pos (by omega),if_pos hj]
 exact h _ _ (by omega) (by omega)
theorem iT{p:Array Nat}(hp:Pm key n p)(hn:2≤n){Q:Nat × Array Nat→Prop}(q:∀m' p',Pm key n p'→1≤m'→m'≤n→Inc key p' m'→Q (m',p')):wpT (fOf key) n (kas_count n p) Q:=by
 refine wo (nM hp (n-1) 1 (Nat.le_refl _) (by omega) (fun i j hij hj=>by omega) fun m a b c d=>?_)
 by_cases hm:m=n
 . rw[if_pos (by simpa using hm)]
   exact q m p hp a (by omega) c
 . rw[if_neg (by simpa using hm)]
   have hlt:kp key p m<kp key p (m-1):=by rcases d with d|d;omega;exact d
   by_cases hg:m > 1
   . rw[if_pos hg]
     refine⟨hp.lt (by omega),hp.lt (by omega),?_⟩
     have c2:key (p.getD 0 0)<key (p.getD (m-1) 0):=c 0 (m-1) (by omega) (by omega)
     rw[show fOf key (p.getD 0 0) (p.getD (m-1) 0)=true from decide_eq_true c2]
     dsimp only
     rw[if_pos rfl]
     exact q m p hp a (by omega) c
   . rw[if_neg hg]
     have hm1:m=1:=by omega
     subst hm1
     refine wo (lN hp (n-(1+1)) (1+1) (by omega) (by omega) (fun i j hij hj=>?_) fun m' a' b' c'=>?_)
     . have hi:i=0:=by omega
       have hj':j=1:=by omega
       subst hi hj'
       exact hlt
     . show wpT (fOf key) n (if 0 > 0 then _ else kas_tail3 m' n p) Q
       rw[if_neg (Nat.lt_irrefl 0)]
       exact cw hp (by omega) (by omega) c' q
theorem rD{p:Array Nat}(hp:Pm key n p){k:Nat}(hk:k<n)(hi:Inc key p k){Q:Nat→Prop}(q:∀l,l≤k→(∀i,i<l→kp key p i<kp key p k)→(∀i,l≤i→i<k→kp key p k<kp key p i)→Q l) :
 ∀(fu l r:Nat),r-l≤fu→l≤r→r≤k→(∀i,i<l→kp key p i<kp key p k)→(∀i,r≤i→i<k→kp key p k<kp key p i)→wpT (fOf key) n (kas_place p k fu l r) Q
 |0,l,r,h0,h1,h2,h3,h4=>q l (by omega) h3 fun i a b=>h4 i (by omega) b
 |fu+1,l,r,h0,h1,h2,h3,h4=>by
  show wpT (fOf key) n (if l ≥ r then _ else _) Q
  by_cases hlr:l ≥ r
  . rw[if_pos hlr]
    exact q l (by omega) h3 fun i a b=>h4 i (by omega) b
  . rw[if_neg hlr]
    refine⟨hp.lt hk,hp.lt (by omega),?_⟩
    by_cases c:key (p.getD k 0)<key (p.getD ((l+r)/2) 0)
    . rw[show fOf key (p.getD k 0) (p.getD ((l+r)/2) 0)=true from decide_eq_true c]
      dsimp only
      rw[if_pos rfl]
      refine rD hp hk hi q fu l ((l+r)/2) (by omega) (by omega) (by omega) h3 fun i a b=>?_
      by_cases he:i=(l+r)/2
      . rw[he];exact c
      . exact Int.lt_trans c (hi _ _ (by omega) b)
    . rw[show fOf key (p.getD k 0) (p.getD ((l+r)/2) 0)=false from decide_eq_false c]
      dsimp only
      rw[if_neg Bool.false_ne_true]
      have hne:=hp.ne (i:=k) (j:=(l+r)/2) hk (by omega) (by omega)
      have c2:kp key p ((l+r)/2)<kp key p k:=by
       have a1:¬kp key p k<kp key p ((l+r)/2):=c
       omega
      refine rD hp hk hi q fu ((l+r)/2+1) r (by omega) (by omega) h2 (fun i a=>?_) h4
      by_cases he:i=(l+r)/2
      . rw[he];exact c2
      . exact Int.lt_trans (hi i _ (by omega) (by omega)) c2
theorem qL{p:Array Nat}{src d k:Nat}(hs:src<p.size)(hd:d≤src):kp key (bubble p src d) k=if k=src-d then kp key p src else if src-d<k∧k≤src then kp key p (k-1) else kp key p k:=by
 have e:=getElem?_bubble hs d hd k
 unfold kp
 by_cases h1:k=src-d
 . rw[if_pos h1]at e ⊢
   rw[Array.getD_eq_getD_getElem?,Array.getD_eq_getD_getElem?,e]
 . rw[if_neg h1]at e ⊢
   by_cases h2:src-d<k∧k≤src
   . rw[if_pos h2]at e ⊢
     rw[Array.getD_eq_getD_getElem?,Array.getD_eq_getD_getElem?,e]
   . rw[if_neg h2]at e ⊢
     rw[Array.getD_eq_getD_getElem?,Array.getD_eq_getD_getElem?,e]
theorem iI{Q:Array Nat→Prop}(q:∀p',Pm key n p'→Inc key p' n→Q p'):∀(fu k:Nat) (p:Array Nat),Pm key n p→1≤k→k+fu=n→Inc key p k→wpT (fOf key) n (kas_bin fu p k) Q
 |0,k,p,hp,_,h2,h=>q p hp (by have:k=n:=(by omega);rw[←this];exact h)
 |fu+1,k,p,hp,h1,h2,h=>by
  have hs:=hp.size
  refine wo (rD hp (by omega) h (fun l a b c=>?_) k 0 k (by omega) (by omega) (Nat.le_refl _) (fun i hi=>by omega) (fun i a b=>by omega))
  refine iI q fu (k+1) _ (hp.of (bubble_perm _ _ _)) (by omega) (by omega) fun i j hij hj=>?_
  rw[qL (by omega) (by omega),qL (by omega) (by omega),show k-(k-l)=l by omega]
  repeat' split
  all_goals first
   |(exfalso;omega)
   |exact b _ (by omega)
   |exact c _ (by omega) (by omega)
   |exact h _ _ (by omega) (by omega)
theorem cZ(hn:2≤n)(hinj:∀i j,i<n→j<n→key i=key j→i=j){Q:Array Nat→Prop}(q:∀p,Pm key n p→Inc key p n→Q p):wpT (fOf key) n (kas_sort n) Q:=by
 have hp:Pm key n (List.toArray (List.range n)):=⟨by simp,hinj⟩
 refine wo (iT hp hn fun m p' hp' a b c=>?_)
 show wpT (fOf key) n (if m<n then _ else _) Q
 by_cases hm:m<n
 . rw[if_pos hm]
   rw[show max m 1=m by omega]
   exact iI q (n-m) m p' hp' a (by omega) c
 . rw[if_neg hm]
   have:m=n:=by omega
   subst this
   exact q p' hp' c
end
end L2
end
section
namespace L2
open PySem PySem.W PySem.Calls PyProof PyProof.Rows
def fo(K:PySem.W.Frag)(H:Hp)(ys:List V)(zs:List (Int × Int)):Prop:=ys.length=zs.length∧∀(i:Nat) (z:Int × Int),zs[i]?=some z→∃b,ys[i]?=some (V.ref b)∧SqT K H b [.int z.1,.int z.2]
noncomputable def zo(z:Int × Int):Int:=z.1*1000+z.2
theorem iQ{a b:Int × Int}(ha:0≤a.2∧a.2<1000)(hb:0≤b.2∧b.2<1000):zo a<zo b↔a.1<b.1∨a.1=b.1∧a.2<b.2:=by
 unfold zo;omega
theorem qG{a b:Int × Int}(ha:0≤a.2∧a.2<1000)(hb:0≤b.2∧b.2<1000)(e:zo a=zo b):a=b:=by
 unfold zo at e
 have h1:a.1=b.1:=by omega
 have h2:a.2=b.2:=by omega
 exact Prod.ext h1 h2
section
variable {prog:Program}{w:World}{A:Around}{E:Value→Shared→Prop}{s:Shared}
theorem iF{x y:Addr}{ox oy:Obj}{n k:Nat}{a b c d:Int}{t1 t2 t3 t4:Tok}{Q:Bool→Shared→Prop}(hx:s.heap.get? x=some ox)(dx:ox.data=.seq #[.int a t1,.int b t2] n)(hy:s.heap.get? y=some oy)(dy:oy.data=.seq #[.int c t3,.int d t4] k)
 (h:Q (decide (a<c∨a=c∧b<d)) s):wpAny (model prog w) A (keyLt' (tuples' true) (.ref x) (.ref y)) Q E s:=by
 refine kat_lt hx dx hy dy ?_
 show KatLex prog w A true false Q [(Value.int a t1,Value.int c t3),(Value.int b t2,Value.int d t4)] 0 s
 refine kat_cons (wpAny_eqBool_int (kat_go (fun e=>?_) fun e=>?_))
 . have e':a=c:=by simpa using e
   refine kat_yes (kat_cons (wpAny_eqBool_int (kat_go (fun e2=>?_) fun e2=>?_)))
   . have e2':b=d:=by simpa using e2
     refine kat_yes (kat_nil ?_)
     rwa [decide_eq_false (by omega)]at h
   . have e2':b≠d:=by simpa using e2
     refine kat_no (kat_one _ _ (lt_int ?_))
     show Q (decide (b<d)) s
     by_cases hbd:b<d
     . rw[decide_eq_true hbd];rwa [decide_eq_true (by omega)]at h
     . rw[decide_eq_false hbd];rwa [decide_eq_false (by omega)]at h
 . have e':a≠c:=by simpa using e
   refine kat_no (oneLt_int ?_)
   by_cases hbd:a<c
   . rw[decide_eq_true hbd];rwa [decide_eq_true (by omega)]at h
   . rw[decide_eq_false hbd];rwa [decide_eq_false (by omega)]at h
end
end L2
end
section
namespace L2
open PySem PySem.W PySem.Calls PyProof PyProof.Rows
section
variable {prog:Program}{w:World}{A:Around}{E:Value→Shared→Prop}{s:Shared}
theorem uj{l:Addr}{vs:List Value}{Q:Value→Shared→Prop}(hl:s.heap.IsList l vs.toArray)(h2:vs.length<2)
 (h:∀(h':Heap) (c:Nat),(∀b o,s.heap.get? b=some o→h'.get? b=some o)→h'.get? (s.heap.objs.size+1)=some (seqObj "list" vs.toArray c)→Q (.ref (s.heap.objs.size+1)) {s with heap:=h'}) :
 wpAny (model prog w) A (call (.builtin "sorted") [.ref l]) Q E s:=by
 refine Calls.call_function_entry kind_sorted plain_sorted entry_sorted (args_sorted1 _) ?_
 unfold Builtin.«sorted»
 refine wpAny_bind (m:=checkCount "sorted" 1 1 _) (wpAny_pure ?_)
 refine wpAny_bind (collect_list hl ?_ (by rw[sizeLine_eq];omega))
 refine wpAny_bind (wpAny_newList ?_ (by rw[sizeLine_eq];omega))
 have hsz:((s.heap.push (seqObj "list" #[] 0)).update s.heap.objs.size (Obj.mapSeq (·++vs.toArray))).objs.size=s.heap.objs.size+1:=by
  rw[Heap.size_update,size_push']
 have hoL:(((s.heap.push (seqObj "list" #[] 0)).update s.heap.objs.size (Obj.mapSeq (·++vs.toArray))).push (seqObj "list" vs.toArray 0)).get? (s.heap.objs.size+1)=some (seqObj "list" vs.toArray 0):=by
  rw[←hsz];exact Heap.get?_push_size _ rfl
 have keep:∀b o,s.heap.get? b=some o→(((s.heap.push (seqObj "list" #[] 0)).update s.heap.objs.size (Obj.mapSeq (·++vs.toArray))).push (seqObj "list" vs.toArray 0)).get? b=some o:=fun b o q=>by
  have hlt:b<s.heap.objs.size:=Heap.lt_size q
  rw[Heap.get?_push_ne _ _ _ (by rw[hsz];exact Nat.ne_of_lt (Nat.lt_succ_of_lt hlt)),Heap.get?_update_ne _ _ _ _ (Nat.ne_of_lt hlt),Heap.get?_push_ne _ _ _ (Nat.ne_of_lt hlt)]
  exact q
 show wpAny _ _ _ _ _ {s with heap:=((s.heap.push (seqObj "list" #[] 0)).update s.heap.objs.size (Obj.mapSeq (·++vs.toArray))).push (seqObj "list" vs.toArray 0)}
 rw[hsz]
 generalize hg:((s.heap.push (seqObj "list" #[] 0)).update s.heap.objs.size (Obj.mapSeq (·++vs.toArray))).push (seqObj "list" vs.toArray 0)=g at hoL keep ⊢
 refine wpAny_bind (wpAny_holding (wpAny_call_entry slot_list_sort ⟨_,hoL,rfl⟩ entry_list_sort ?body (args_list_sort _)))
 case body=>
  have ha:s.heap.objs.size+1<g.objs.size:=Heap.lt_size hoL
  rw[list_sort_plain]
  refine wpAny_bind (listItems_at hoL rfl ?_)
  refine wpAny_bind (listUpdate_at hoL rfl ?_ (by rw[List.size_toArray,sizeLine_eq];omega) (Nat.zero_le _))
  obtain⟨e1,ho1⟩:∃e1,(g.update (s.heap.objs.size+1) (Obj.mapSeq fun _=>(#[]:Array Value))).get? (s.heap.objs.size+1)=some (seqObj "list" #[] e1):=⟨_,get?_update_seq hoL fun _=>#[]⟩
  refine wpAny_bind (seqEpoch_at ho1 rfl ?_)
  refine wpAny_bind (wpAny_newTuple ?_ (by show vs.length≤_;rw[sizeLine_eq];omega))
  refine wpAny_bind (wpAny_newList ?_ (Nat.zero_le _))
  refine wpAny_holding ?_
  have ho6:(((g.update (s.heap.objs.size+1) (Obj.mapSeq fun _=>(#[]:Array Value))).push (seqObj "tuple" vs.toArray 0)).push (seqObj "list" #[] 0)).get? (s.heap.objs.size+1)=some (seqObj "list" #[] e1):=
   Heap.get?_push_of_some _ (Heap.get?_push_of_some _ ho1)
  show wpAny (model prog w) _ _ _ _ {s with heap:=((g.update (s.heap.objs.size+1) (Obj.mapSeq fun _=>(#[]:Array Value))).push (seqObj "tuple" vs.toArray 0)).push (seqObj "list" #[] 0)}
  dsimp only
  have h2':vs.toArray.size<2:=by rw[List.size_toArray];exact h2
  rw[if_pos h2',if_pos h2']
  refine wpAny_bind (wpAny_pure ?_)
  rw[StateT.run_pure]
  refine wpAny_bind (wpAny_pure ?_)
  dsimp only
  refine wpAny_bind (seqEpoch_at ho6 rfl ?_)
  have hout:(arrOf (SortSt.mk' general' (vs.toArray.zip vs.toArray) #[] 7 none)).map (·.2)=vs.toArray:=by
   show (vs.toArray.zip vs.toArray).map (·.2)=vs.toArray
   apply Array.toList_inj.mp
   simp[List.map_snd_zip]
  rw[hout]
  refine wpAny_bind (listUpdate_at ho6 rfl ?_ (Nat.zero_le _) (by rw[List.size_toArray,sizeLine_eq];omega))
  simp only[bne_self_eq_false,Bool.false_eq_true,if_false]
  refine wpAny_pure ⟨_,rfl,wpAny_pure ⟨_,rfl,?_⟩⟩
  have hc:=get?_update_seq ho6 fun _=>vs.toArray
  refine h _ _ (fun b o e=>?_) hc
  have hlt:b<s.heap.objs.size:=Heap.lt_size e
  have hb:b≠s.heap.objs.size+1:=Nat.ne_of_lt (Nat.lt_succ_of_lt hlt)
  rw[Heap.get?_update_ne _ _ _ _ hb]
  refine Heap.get?_push_of_some _ (Heap.get?_push_of_some _ ?_)
  rw[Heap.get?_update_ne _ _ _ _ hb]
  exact keep b o e
end
section
variable {P:Program}{w:World}{H:Hp}{h:Heap}{a:Addr}{o:HO}
theorem zy.got(x:zy P w H h a o):∃u,h.get? a=some u:=by
 cases o with
 |lst xs=>obtain⟨_,_,_,_,e⟩:=x;exact⟨_,e⟩
 |tup xs=>obtain⟨_,_,_,_,e,_⟩:=x;exact⟨_,e⟩
 |dK kvs=>obtain⟨_,_,_,_,o,_,_,e,_⟩:=x;exact⟨_,e⟩
 |dT kvs=>obtain⟨_,_,_,_,o,_,_,e,_⟩:=x;exact⟨_,e⟩
 |set S n=>obtain⟨o,_,_,_,e,_⟩:=x;exact⟨_,e⟩
 |ins C dx fs=>obtain⟨_,_,_,e,_⟩:=x;exact⟨_,e⟩
 |own y=>exact x
 |xd fs=>obtain⟨_,⟨_,_,_,e,_⟩,_⟩:=x;exact⟨_,e⟩
 |rng lo hi=>obtain⟨_,_,_,e⟩:=x;exact⟨_,e⟩
 |frz ob u=>obtain⟨e,_⟩:=x;exact⟨_,e⟩
 |tbl ps=>exact⟨_,x⟩
 |met f y=>exact⟨_,x⟩
 |ext φ=>exact x.2.1
end
end L2
end
section
namespace L2
open PySem PySem.W PySem.Calls PyProof PyProof.Rows
def PV(h:Heap)(its:List Value)(zs:List (Int × Int)):Prop:=
 its.length=zs.length∧∀(i:Nat) (z:Int × Int),zs[i]?=some z→∃b o n t1 t2,its[i]?=some (Value.ref b)∧h.get? b=some o∧o.cls=.type "tuple"∧o.data=.seq #[.int z.1 t1,.int z.2 t2] n
theorem PV.um{h:Heap}:∀{its:List Value} {zs:List (Int × Int)},PV h its zs→∃fs,KatTups h its fs∧fs.length=its.length∧∀v∈fs,∃i t,v=Value.int i t
 |[],[],_=>⟨[],KatTups.nil,rfl,fun _ x=>nomatch x⟩
 |[],_::_,⟨l,_⟩=>by cases l
 |_::_,[],⟨l,_⟩=>by cases l
 |v::its,z::zs,⟨l,f⟩=>by
  obtain⟨b,o,n,t1,t2,e,ho,hc,hd⟩:=f 0 z rfl
  have e':v=Value.ref b:=by simpa using e
  subst e'
  obtain⟨fs,k,kl,ki⟩:=PV.um (h:=h) (its:=its) (zs:=zs) ⟨by simpa using l,fun i z' e=>by simpa using f (i+1) z' (by simpa using e)⟩
  refine⟨Value.int z.1 t1::fs,KatTups.cons ho hc hd rfl k,by simp[kl],fun v hv=>?_⟩
  rcases List.mem_cons.mp hv with rfl|hv
  . exact⟨_,_,rfl⟩
  . exact ki v hv
theorem qb{ys:List V}{its:List Value}(r:Vals ys its):∀(l:List Nat),(∀i∈l,i<ys.length)→Vals (l.map fun i=>ys.getD i .non) (l.map fun i=>its.getD i Value.none)
 |[],_=>.nil
 |i::l,h=>by
  have hi:i<ys.length:=h i (.head _)
  obtain⟨u,e,ru⟩:=r.get (i:=i) (x:=ys[i]) (by simp[hi])
  refine .cons ?_ (qb r l fun j hj=>h j (.tail _ hj))
  show RelV (ys.getD i .non) (its.getD i Value.none)
  rw[List.getD_eq_getElem?_getD,List.getD_eq_getElem?_getD,e]
  simp only[List.getElem?_eq_getElem hi,Option.getD_some]
  exact ru
section
variable {X:Cx}{pins:List (Addr × Obj)}{σ:St}{H:Hp}{s:Shared}
theorem fo.pv(I:Inv X pins σ H s){ys:List V}{its:List Value}{zs:List (Int × Int)}(h:fo X.K H ys zs)(r:Vals ys its):PV s.heap its zs:=by
 refine⟨by rw[←r.length];exact h.1,fun i z e=>?_⟩
 obtain⟨b,e1,e2⟩:=h.2 i z e
 obtain⟨u,e3,ru⟩:=r.get e1
 obtain⟨us,rt,⟨o,ho,hc,n,hd⟩,_⟩:=I.tuple e2
 obtain⟨u1,u2,rfl,r1,r2⟩:=vals2 rt
 obtain⟨t1,rfl⟩:=r1
 obtain⟨t2,rfl⟩:=r2
 have ru':u=Value.ref b:=ru
 subst ru'
 exact⟨b,o,n,t1,t2,e3,ho,hc,hd⟩
theorem Inv.nN{D:Addr}{ys:List V}{its:List Value}{c:Nat}{h':Heap}(I:Inv X pins σ H s)(hz:ys.length≤sizeLine)(r:Vals ys its)(hD:s.heap.get? D=none)(keep:∀b o,b≠X.env.locals→s.heap.get? b=some o→h'.get? b=some o)
 (ns:∀m,s.heap.Ns X.env.locals m→h'.Ns X.env.locals m) (e:h'.get? D=some {cls:=.type "list",data:=.seq its.toArray c}):H D=none∧Inv X pins σ (upd H D (.lst ys)) {s with heap:=h'}:=by
 have hn:H D=none:=by
  cases q:H D with
  |none=>rfl
  |some o=>
   obtain⟨u,hu⟩:=zy.got (I.hok D o q)
   rw[hD]at hu;cases hu
 have ne:∀b o,H b=some o→b≠D:=fun b o q z=>by rw[z,hn]at q;cases q
 have neo:∀b o,s.heap.get? b=some o→b≠D:=fun b o q z=>by rw[z,hD]at q;cases q
 refine⟨hn,I.step (g':=s.gens) (d':=s.drawn) (t':=s.toks) (ch:=[]) (fun _ z=>nomatch z) (fun b o hL _ _ q _=>keep b o hL q) (fun b o hL _ _ q _=>⟨o.slots,keep b o hL q⟩) (fun b o _ q n=>?_) (fun b o _ q=>?_) (fun b xs q=>?_) (fun b o u q=>?_) (fun b ps q=>?_) ns (fun b o q=>?_) I.bare⟩
 . rw[zS (neo b o q)];exact n
 . by_cases hb:b=X.env.locals
   . subst hb
     obtain⟨m,hm,_⟩:=I.loc
     obtain⟨o',_,_,ho',_⟩:=ns m hm
     exact⟨o',ho'⟩
   . exact⟨o,keep b o hb q⟩
 . rw[zS (ne b _ q)];exact q
 . rw[zS (ne b _ q)];exact q
 . exact⟨#[],by rw[zS (ne b _ q),q];simp⟩
 . by_cases hb:b=D
   . subst hb
     rw[zt]at q
     cases q
     exact⟨hz,its,c,r,e⟩
   . rw[zS hb]at q
     refine(I.hok b o q).mX (fun x u hx hu=>keep x u ?_ hu) (fun x hx=>by rw[zS (ne x _ hx)];exact hx) (fun x xs hx=>by rw[zS (ne x _ hx)];exact hx)
     rcases hx with rfl|hx
     . intro z;rw[z,I.free]at q;cases q
     . intro z;rw[z,I.free]at hx;cases hx
theorem eu{h:Heap}{a:Addr}{m m':Str→Option Value}(x:h.Ns a m)(y:h.Ns a m'):m=m':=by
 obtain⟨o,es,ep,e,d,_,f⟩:=x
 obtain⟨o',es',ep',e',d',_,f'⟩:=y
 rw[e]at e';cases e'
 rw[d]at d';cases d'
 funext n
 rw[←f n,←f' n]
end
end L2
end
section
namespace L2
open PySem PySem.W PySem.Calls PyProof PyProof.Rows Att
theorem tJ{α:Type}{zs:List α}(d:α):(List.range zs.length).map (fun i=>zs.getD i d)=zs:=by
 apply List.ext_getElem
 . simp
 . intro i h1 h2
   simp[List.getElem?_eq_getElem h2]
theorem nQ{X:Cx}:z6 X (.builtin "sorted") (fun xs H Q=>∃p ys zs,xs=[.ref p]∧SqL X.K H p ys∧fo X.K H ys zs∧zs.length<64∧zs.Nodup∧(∀z∈zs,0≤z.2∧z.2<1000) ∧
 ∀(l:Addr) (ix:List Nat),H l=none→ix.Perm (List.range zs.length)→(ix.map fun i=>zs.getD i (0,0)).Pairwise (fun a b=>zo a<zo b)→Q (.ref l) (upd H l (.lst (ix.map fun i=>ys.getD i .non)))):=by
 intro pins s σ H xs us Q I r h
 obtain⟨p,ys,zs,rfl,hq,hP,h64,hnd,hb,q⟩:=h
 obtain⟨u,rfl,rx⟩:=vals1 r
 cases rx
 obtain⟨its,rv,pl,hz⟩:=I.list hq
 have hlen:=rv.length
 have hl:s.heap.IsList p its.toArray:=pl.isList
 have pv:=hP.pv I rv
 have hn:its.length=zs.length:=pv.1
 obtain⟨m,hm,_⟩:=id I.loc
 by_cases h2:its.length<2
 . refine uj hl h2 fun h' c keep e=>?_
   have hD:s.heap.get? (s.heap.objs.size+1)=none:=Heap.get?_none_of_le (Nat.le_succ _)
   obtain⟨hn',I'⟩:=I.nN (h':=h') hz rv hD (fun b o _ e=>keep b o e) (fun m ⟨o,es,ep,ho,r⟩=>⟨o,es,ep,keep _ o ho,r⟩) e
   have ey:(List.range zs.length).map (fun i=>ys.getD i .non)=ys:=by rw[←hn,←hlen];exact tJ _
   have:=q _ (List.range zs.length) hn' (.refl _) (by
    rw[tJ]
    match zs,show zs.length<2 by omega with
    |[],_=>exact .nil
    |[_],_=>exact List.pairwise_singleton _ _)
   rw[ey]at this
   exact⟨V.ref _,_,I',rfl,this⟩
 . let key:Nat→Int:=fun i=>zo (zs.getD i (0,0))
   have gz:∀{i:Nat},i<its.length→∃z,zs[i]?=some z∧zs.getD i (0,0)=z∧z∈zs:=fun{i} hi=>by
    have hi':i<zs.length:=by omega
    exact⟨zs[i],List.getElem?_eq_getElem hi',by rw[List.getD_eq_getElem?_getD,List.getElem?_eq_getElem hi'];rfl,List.getElem_mem hi'⟩
   have hinj:∀i j,i<its.length→j<its.length→key i=key j→i=j:=fun i j hi hj e=>by
    obtain⟨z,e1,e2,e3⟩:=gz hi
    obtain⟨z',e1',e2',e3'⟩:=gz hj
    have e:zo (zs.getD i (0,0))=zo (zs.getD j (0,0)):=e
    rw[e2,e2']at e
    have ez:=qG (hb z e3) (hb z' e3') e
    subst ez
    exact(List.getElem?_inj (by omega) hnd).mp (e1.trans e1'.symm)
   refine kat_sorted (h₀:=tF s.heap) (L:=X.env.locals) (m:=m) (news:=uJ (tF s.heap) s.heap X.env.locals) (aK hm) gQ hl (by omega) (by omega) fun D e1 h' F' N' lo=>?_
   have all:∀b o,b≠X.env.locals→s.heap.get? b=some o→(b,o)∈uJ (tF s.heap) s.heap X.env.locals:=fun b o hL e=>oP hL (su _ _) e
   have keep1:∀b o,b≠X.env.locals→s.heap.get? b=some o→h'.get? b=some o:=fun b o hL e=>(N' _ (List.mem_cons_of_mem _ (all b o hL e))).1
   have hDL:D≠X.env.locals:=(N' _ (.head _)).2.1
   have hD:s.heap.get? D=none:=by
    cases e:s.heap.get? D with
    |none=>rfl
    |some o=>exact absurd (lo _ (all D o hDL e)) (Nat.lt_irrefl _)
   have pv':PV h' its zs:=⟨hn,fun i z e=>by
    obtain⟨b,o,n,t1,t2,f1,f2,f3,f4⟩:=pv.2 i z e
    refine⟨b,o,n,t1,t2,f1,keep1 b o (fun x=>?_) f2,f3,f4⟩
    obtain⟨o',es,ep,ho',d',_⟩:=hm
    rw[x,ho']at f2;cases f2
    rw[d']at f4;cases f4⟩
   obtain⟨fs,kt,kl,ki⟩:=pv'.um
   refine kat_kind (s:={s with heap:=h'}) (T:=.type "int") kt (by omega) (fun v hv=>?_) rfl ?_
   . obtain⟨i,t,rfl⟩:=ki v hv
     exact Looks.of_pure rfl
   . show (kas_sort its.length).kasWp (kas_ask X.prog X.w X.A.in1.in1 (tuples' true) its) _ {s with heap:=h'}
     refine kH (f:=fOf key) (n:=its.length) (fun i j C hi hj hc=>?_) (cZ (by omega) hinj fun pp hp hi=>?_)
     . obtain⟨z,e1,e2,e3⟩:=gz hi
       obtain⟨z',e1',e2',e3'⟩:=gz hj
       obtain⟨b,o,n,t1,t2,f1,f2,f3,f4⟩:=pv'.2 i z e1
       obtain⟨b',o',n',t1',t2',f1',f2',f3',f4'⟩:=pv'.2 j z' e1'
       show wpAny (model X.prog X.w) X.A.in1.in1 (keyLt' (tuples' true) (its.getD i Value.none) (its.getD j Value.none)) C (fun _ _=>False) {s with heap:=h'}
       rw[List.getD_eq_getElem?_getD,List.getD_eq_getElem?_getD,f1,f1']
       refine iF f2 f4 f2' f4' ?_
       have ec:fOf key i j=decide (z.1<z'.1∨z.1=z'.1∧z.2<z'.2):=by
        show decide (zo (zs.getD i (0,0))<zo (zs.getD j (0,0)))=_
        rw[e2,e2']
        exact decide_eq_decide.mpr (iQ (hb z e3) (hb z' e3'))
       rw[ec]at hc
       exact hc
     . refine KasFin.intro F' N' (.head fun x hx=>Nat.ne_of_lt (lo x hx)) fun h'' c F'' N''=>?_
       have keep2:∀b o,b≠X.env.locals→s.heap.get? b=some o→h''.get? b=some o:=fun b o hL e=>(N'' _ (List.mem_cons_of_mem _ (all b o hL e))).1
       have hlt:∀i∈pp.toList,i<its.length:=fun i hi=>List.mem_range.mp (hp.perm.mem_iff.mp hi)
       have hps:=hp.size
       obtain⟨hn',I'⟩:=I.nN (h':=h'') (ys:=pp.toList.map fun i=>ys.getD i .non) (by rw[List.length_map,Array.length_toList,hps];omega) (qb rv pp.toList fun i hi=>by have:=hlt i hi;omega) hD keep2
        (fun m' hm'=>by rw[←eu hm hm'];exact F''.ns) (N'' _ (.head _)).1
       refine⟨V.ref _,_,I',rfl,q _ pp.toList hn' (by rw[←hn];exact hp.perm) ?_⟩
       rw[List.pairwise_iff_getElem]
       intro i j h1 h2' hij
       rw[List.length_map,Array.length_toList,hps]at h1 h2'
       have w:=hi i j hij h2'
       have g1:∀{k:Nat} (hk:k<its.length),kp key pp k=zo (zs.getD (pp.toList[k]'(by rw[Array.length_toList];omega)) (0,0)):=fun{k} hk=>by
        show zo (zs.getD (pp.getD k 0) (0,0))=_
        congr 2
        simp[Array.getD,show k<pp.size by omega]
       rw[g1 h1,g1 h2']at w
       rw[List.getElem_map,List.getElem_map]
       exact w
theorem uF:∀{l l':List (Int × Int)},l.Pairwise (fun a b=>zo a<zo b)→l'.Pairwise (fun a b=>zo a<zo b)→(∀x,x∈l↔x∈l')→l=l'
 |[],[],_,_,_=>rfl
 |[],y::t',_,_,h=>by have:=(h y).mpr (.head _);cases this
 |x::t,[],_,_,h=>by have:=(h x).mp (.head _);cases this
 |x::t,y::t',h1,h2,h=>by
  rw[List.pairwise_cons]at h1 h2
  have exy:x=y:=by
   rcases List.mem_cons.mp ((h x).mp (.head _)) with e|m
   . exact e
   . rcases List.mem_cons.mp ((h y).mpr (.head _)) with e|m'
     . exact e.symm
     . have a:=h2.1 x m
       have b:=h1.1 y m'
       omega
  subst exy
  congr 1
  refine uF h1.2 h2.2 fun a=>⟨fun m=>?_,fun m=>?_⟩
  . rcases List.mem_cons.mp ((h a).mp (.tail _ m)) with e|m'
    . have:=h1.1 a m
      rw[e]at this;omega
    . exact m'
  . rcases List.mem_cons.mp ((h a).mpr (.tail _ m)) with e|m'
    . have:=h2.1 a m
      rw[e]at this;omega
    . exact m'
end L2
end
section
namespace L2
open PySem PySem.W PySem.Calls PyProof PyProof.Rows
theorem qP:∀(f n r:Nat),r≤1→minRun' f n r≤n+r
 |0,n,r,_=>Nat.le_refl _
 |f+1,n,r,h=>by
  rw[minRun'_succ]
  split
  . exact Nat.le_refl _
  . have:=qP f (n/2) (max r (n%2)) (by omega)
    omega
section
variable {prog:Program}{w:World}{A:Around}{E:Value→Shared→Prop}{κ:SortKind}{it:Array Keyed}{s:Shared}
theorem p4{p:Array Nat}{n:Nat}{G:Nat→Shared→Prop}(ask:∀i C,i+1<n→C false s→kas_cmp prog w A κ it (p.getD (i+1) 0) (p.getD i 0) C s)(g:G n s):∀(f m:Nat),1≤m→m+f=n→(kas_asc p f m).kasWp (kas_cmp prog w A κ it) G s
 |0,m,_,e=>by rw[←e]at g;exact g
 |f+1,m,h1,e=>by
  have:=ask (m-1) (fun b s'=>(if b=true then KasT.ret m else kas_asc p f (m+1)).kasWp (kas_cmp prog w A κ it) G s') (by omega) (by
   rw[if_neg (by simp)]
   exact p4 ask g f (m+1) (by omega) (by omega))
  rw[show m-1+1=m by omega]at this
  exact this
theorem ju{n:Nat}{Q:Unit→SortSt→Shared→Prop}(h2:2≤n)(ask:∀i C,i+1<n→C false s→kas_cmp prog w A κ it (i+1) i C s)
 (hQ:∀st',arrOf st'=(List.toArray (List.range n)).map (kas_item it)→failedOf st'=none→Q () st' s):kasC (model prog w) A E sortRuns' Q (kas_st κ it (List.toArray (List.range n))) s:=by
 obtain⟨r,rfl⟩:∃r,n=r+2:=⟨n-2,by omega⟩
 have hrs:(List.toArray (List.range (r+2))).size=r+2:=by simp
 rw[sortRuns'_eq]
 refine kasC_bind (kasC_get ?_)
 dsimp only
 have hsz:(arrOf (kas_st κ it (List.toArray (List.range (r+2))))).size=r+2:=by
  show ((List.toArray (List.range (r+2))).map (kas_item it)).size=_
  rw[Array.size_map,hrs]
 have hmr:=qP (r+2) (r+2) 0 (by omega)
 simp only[hsz]
 generalize minRun' (r+2) (r+2) 0=mr at hmr
 refine kasC_bind (kasC_range ?_)
 show kasC _ _ _ (forIn (0::1::List.range' 2 r) _ _) _ _ _
 refine kasC_cons ?_
 dsimp only
 rw[if_neg (by omega)]
 simp only[Nat.sub_zero,Nat.zero_add]
 have hd:∀i,i<r+2→(List.toArray (List.range (r+2))).getD i 0=i:=fun i hi=>by simp[Array.getD,hi]
 refine kasC_bind (kas_count_ (G:=fun q s'=>q=(r+2,List.toArray (List.range (r+2)))∧s'=s) (by omega) (by rw[hrs];exact Nat.le_refl _) (fun m p' s' hm1 hm2 hp hg=>?_) ?_)
 . obtain⟨hg,rfl⟩:=hg
   cases hg
   dsimp only
   rw[if_neg (by omega)]
   refine kasC_bind (kasC_get ?_)
   rw[show (pendingOf (kas_st κ it (List.toArray (List.range (r+2))))).back?=none from rfl]
   dsimp only
   refine kasC_bind (kasC_modify (kasC_pure ?_))
   show kasC _ _ _ (forIn (1::List.range' 2 r) _ _) _ _ _
   refine kasC_cons ?_
   dsimp only
   rw[if_pos (Nat.le_refl _)]
   refine kasC_pure ?_
   dsimp only
   refine kasC_bind (kasC_range ?_)
   show kasC _ _ _ (forIn (0::1::List.range' 2 r) _ _) _ _ _
   refine kasC_cons ?_
   refine kasC_bind (kasC_get ?_)
   rw[if_pos (show (pendingOf (setPending (kas_st κ it (List.toArray (List.range (r+2)))) ((pendingOf (kas_st κ it (List.toArray (List.range (r+2))))).push (0,r+2,0)))).size≤1 from Nat.le_refl 1)]
   refine kasC_pure ?_
   dsimp only
   exact kasC_pure (hQ _ rfl rfl)
 . unfold kas_count
   rw[KasT.kasWp_bind]
   refine p4 (n:=r+2) (fun i C hi hc=>?_) ?_ _ 1 (Nat.le_refl _) (by omega)
   . rw[hd _ hi,hd _ (by omega)]
     exact ask i C hi hc
   . rw[if_pos (by simp)]
     exact⟨rfl,rfl⟩
theorem nF{l:Addr}{vs:List Value}{Q:Value→Shared→Prop}(hl:s.heap.IsList l vs.toArray)(h2:2≤vs.length)(hz:vs.length≤16777216)
 (kind:∀h' (Q':SortKind→Shared→Prop),(∀b o,s.heap.get? b=some o→h'.get? b=some o)→Q' κ {s with heap:=h'}→wpAny (model prog w) A.in1.in1 (keyKind' vs.toArray) Q' (fun _ _=>False) {s with heap:=h'})
 (ask:∀h' i C,(∀b o,s.heap.get? b=some o→h'.get? b=some o)→i+1<vs.length→C false {s with heap:=h'}→wpAny (model prog w) A.in1.in1 (keyLt' κ (vs.getD (i+1) Value.none) (vs.getD i Value.none)) C (fun _ _=>False) {s with heap:=h'})
 (h:∀(h':Heap) (c:Nat),(∀b o,s.heap.get? b=some o→h'.get? b=some o)→h'.get? (s.heap.objs.size+1)=some (seqObj "list" vs.toArray c)→Q (.ref (s.heap.objs.size+1)) {s with heap:=h'}) :
 wpAny (model prog w) A (call (.builtin "sorted") [.ref l]) Q E s:=by
 refine Calls.call_function_entry kind_sorted plain_sorted entry_sorted (args_sorted1 _) ?_
 unfold Builtin.«sorted»
 refine wpAny_bind (m:=checkCount "sorted" 1 1 _) (wpAny_pure ?_)
 refine wpAny_bind (collect_list hl ?_ (by rw[sizeLine_eq];omega))
 refine wpAny_bind (wpAny_newList ?_ (by rw[sizeLine_eq];omega))
 have hsz:((s.heap.push (seqObj "list" #[] 0)).update s.heap.objs.size (Obj.mapSeq (·++vs.toArray))).objs.size=s.heap.objs.size+1:=by
  rw[Heap.size_update,size_push']
 have hoL:(((s.heap.push (seqObj "list" #[] 0)).update s.heap.objs.size (Obj.mapSeq (·++vs.toArray))).push (seqObj "list" vs.toArray 0)).get? (s.heap.objs.size+1)=some (seqObj "list" vs.toArray 0):=by
  rw[←hsz];exact Heap.get?_push_size _ rfl
 have keep:∀b o,s.heap.get? b=some o→(((s.heap.push (seqObj "list" #[] 0)).update s.heap.objs.size (Obj.mapSeq (·++vs.toArray))).push (seqObj "list" vs.toArray 0)).get? b=some o:=fun b o q=>by
  have hlt:b<s.heap.objs.size:=Heap.lt_size q
  rw[Heap.get?_push_ne _ _ _ (by rw[hsz];exact Nat.ne_of_lt (Nat.lt_succ_of_lt hlt)),Heap.get?_update_ne _ _ _ _ (Nat.ne_of_lt hlt),Heap.get?_push_ne _ _ _ (Nat.ne_of_lt hlt)]
  exact q
 show wpAny _ _ _ _ _ {s with heap:=((s.heap.push (seqObj "list" #[] 0)).update s.heap.objs.size (Obj.mapSeq (·++vs.toArray))).push (seqObj "list" vs.toArray 0)}
 rw[hsz]
 generalize hg:((s.heap.push (seqObj "list" #[] 0)).update s.heap.objs.size (Obj.mapSeq (·++vs.toArray))).push (seqObj "list" vs.toArray 0)=g at hoL keep ⊢
 refine wpAny_bind (wpAny_holding (wpAny_call_entry slot_list_sort ⟨_,hoL,rfl⟩ entry_list_sort ?body (args_list_sort _)))
 case body=>
  rw[list_sort_plain]
  refine wpAny_bind (listItems_at hoL rfl ?_)
  refine wpAny_bind (listUpdate_at hoL rfl ?_ (by rw[List.size_toArray,sizeLine_eq];omega) (Nat.zero_le _))
  obtain⟨e1,ho1⟩:∃e1,(g.update (s.heap.objs.size+1) (Obj.mapSeq fun _=>(#[]:Array Value))).get? (s.heap.objs.size+1)=some (seqObj "list" #[] e1):=⟨_,get?_update_seq hoL fun _=>#[]⟩
  refine wpAny_bind (seqEpoch_at ho1 rfl ?_)
  refine wpAny_bind (wpAny_newTuple ?_ (by show vs.length≤_;rw[sizeLine_eq];omega))
  refine wpAny_bind (wpAny_newList ?_ (Nat.zero_le _))
  refine wpAny_holding ?_
  have keep6:∀b o,s.heap.get? b=some o→(((g.update (s.heap.objs.size+1) (Obj.mapSeq fun _=>(#[]:Array Value))).push (seqObj "tuple" vs.toArray 0)).push (seqObj "list" #[] 0)).get? b=some o:=fun b o e=>by
   have hlt:b<s.heap.objs.size:=Heap.lt_size e
   refine Heap.get?_push_of_some _ (Heap.get?_push_of_some _ ?_)
   rw[Heap.get?_update_ne _ _ _ _ (Nat.ne_of_lt (Nat.lt_succ_of_lt hlt))]
   exact keep b o e
  have ho6:(((g.update (s.heap.objs.size+1) (Obj.mapSeq fun _=>(#[]:Array Value))).push (seqObj "tuple" vs.toArray 0)).push (seqObj "list" #[] 0)).get? (s.heap.objs.size+1)=some (seqObj "list" #[] e1):=
   Heap.get?_push_of_some _ (Heap.get?_push_of_some _ ho1)
  show wpAny (model prog w) _ _ _ _ {s with heap:=((g.update (s.heap.objs.size+1) (Obj.mapSeq fun _=>(#[]:Array Value))).push (seqObj "tuple" vs.toArray 0)).push (seqObj "list" #[] 0)}
  generalize ((g.update (s.heap.objs.size+1) (Obj.mapSeq fun _=>(#[]:Array Value))).push (seqObj "tuple" vs.toArray 0)).push (seqObj "list" #[] 0)=g6 at ho6 keep6 ⊢
  dsimp only
  have h2':¬vs.toArray.size<2:=by rw[List.size_toArray];omega
  rw[if_neg h2',if_neg h2']
  refine wpAny_bind (wpAny_mono (kind g6 (fun κ' s'=>κ'=κ∧s'={s with heap:=g6}) keep6 ⟨rfl,rfl⟩) (fun κ' s' hk=>?_) fun _ _ x=>x.elim)
  obtain⟨rfl,rfl⟩:=hk
  have est:SortSt.mk' κ' (vs.toArray.zip vs.toArray) #[] 7 none=kas_st κ' (vs.toArray.zip vs.toArray) (List.toArray (List.range vs.length)):=by
   have e:=kas_range (vs.toArray.zip vs.toArray)
   rw[show (vs.toArray.zip vs.toArray).size=vs.length by simp]at e
   show SortSt.mk' κ' (vs.toArray.zip vs.toArray) #[] 7 none=SortSt.mk' κ' ((List.toArray (List.range vs.length)).map (kas_item (vs.toArray.zip vs.toArray))) #[] 7 none
   rw[e]
  rw[est]
  refine wpAny_bind (wpAny_mono (ju (E:=fun _ _=>False) (s:={s with heap:=g6}) (Q:=fun _ st' s'=>arrOf st'=(List.toArray (List.range vs.length)).map (kas_item (vs.toArray.zip vs.toArray))∧failedOf st'=none∧s'={s with heap:=g6}) h2 (fun i C hi hc=>?_) fun st' a b=>⟨a,b,rfl⟩) ?_ fun _ _ x=>x.elim)
  . rw[←kat_ask_eq (ks:=vs) rfl]
    exact ask g6 i C keep6 hi hc
  rintro ⟨⟨⟩,st'⟩ s' ⟨har,hf,rfl⟩
  dsimp only at har hf ⊢
  have hout:=kat_snds (ks:=vs) (vs:=vs) rfl har
  have ev:(List.toArray ((List.toArray (List.range vs.length)).toList.map fun i=>vs.getD i Value.none))=vs.toArray:=by
   congr 1
   exact tJ _
  rw[ev]at hout
  rw[hout]
  refine wpAny_bind (seqEpoch_at ho6 rfl ?_)
  refine wpAny_bind (listUpdate_at ho6 rfl ?_ (Nat.zero_le _) (by rw[List.size_toArray,sizeLine_eq];omega))
  rw[hf]
  simp only[bne_self_eq_false,Bool.false_eq_true,if_false]
  refine wpAny_pure ⟨_,rfl,wpAny_pure ⟨_,rfl,?_⟩⟩
  refine h _ _ (fun b o e=>?_) (get?_update_seq ho6 fun _=>vs.toArray)
  have hlt:b<s.heap.objs.size:=Heap.lt_size e
  rw[Heap.get?_update_ne _ _ _ _ (Nat.ne_of_lt (Nat.lt_succ_of_lt hlt))]
  exact keep6 b o e
end
noncomputable def oM:List Int→List Int→Bool
 |x::xs,y::ys=>if x=y then oM xs ys else decide (x<y)
 |_,_=>false
inductive tQ:List Value→List Int→Prop
 |nil:tQ [] []
 |cons {i:Int} {t:Tok} {us:List Value} {ns:List Int}:tQ us ns→tQ (.int i t::us) (i::ns)
theorem bL:∀{ns:List Int} {us:List Value},Vals (ns.map V.int) us→tQ us ns
 |[],_,.nil=>.nil
 |n::ns,_,.cons r rs=>by
  obtain⟨t,rfl⟩:=(show ∃t,_=Value.int n t from r)
  exact .cons (bL rs)
section
variable {prog:Program}{w:World}{A:Around}{E:Value→Shared→Prop}{s:Shared}
theorem lr{Q:Bool→Shared→Prop}:∀{us vs:List Value} {xs ys:List Int} (i:Nat),tQ us xs→tQ vs ys→Q (oM xs ys) s→KatLex prog w A true false Q (us.zip vs) i s
 |_,_,_,_,i,.nil,_,h=>h
 |_,_,_,_,i,.cons _,.nil,h=>h
 |_,_,_,_,i,.cons (i:=a) (t:=t) (us:=us) (ns:=xs) r,.cons (i:=b) (t:=u) (us:=vs) (ns:=ys) r',h=>by
  show KatLex prog w A true false Q ((Value.int a t,Value.int b u)::us.zip vs) i s
  refine kat_cons (wpAny_eqBool_int (kat_go (fun e=>?_) fun e=>?_))
  . have e':a=b:=by simpa using e
    refine kat_yes (lr (i+1) r r' ?_)
    unfold oM at h
    rwa [if_pos e']at h
  . have e':a≠b:=by simpa using e
    unfold oM at h
    rw[if_neg e']at h
    refine kat_no ?_
    by_cases h0:i=0
    . subst h0
      exact oneLt_int h
    . rw[show (true&&i == 0)=false by simp[h0]]
      exact kat_one _ _ (lt_int h)
end
def ft(K:PySem.W.Frag)(H:Hp)(ys:List V)(zs:List (List Int)):Prop:=ys.length=zs.length∧∀(i:Nat) (z:List Int),zs[i]?=some z→∃b,ys[i]?=some (V.ref b)∧SqT K H b (z.map V.int)
def TV(h:Heap)(its:List Value)(zs:List (List Int)):Prop:=
 its.length=zs.length∧∀(i:Nat) (z:List Int),zs[i]?=some z→∃b o n us,its[i]?=some (Value.ref b)∧h.get? b=some o∧o.cls=.type "tuple"∧o.data=.seq (List.toArray us) n∧tQ us z
theorem ft.tv{X:Cx}{pins:List (Addr × Obj)}{σ:St}{H:Hp}{s:Shared}(I:Inv X pins σ H s){ys:List V}{its:List Value}{zs:List (List Int)}(h:ft X.K H ys zs)(r:Vals ys its):TV s.heap its zs:=by
 refine⟨by rw[←r.length];exact h.1,fun i z e=>?_⟩
 obtain⟨b,e1,e2⟩:=h.2 i z e
 obtain⟨u,e3,ru⟩:=r.get e1
 obtain⟨us,rt,⟨o,ho,hc,n,hd⟩,_⟩:=I.tuple e2
 have ru':u=Value.ref b:=ru
 subst ru'
 exact⟨b,o,n,us,e3,ho,hc,hd,bL rt⟩
theorem TV.um{h:Heap}:∀{its:List Value} {zs:List (List Int)},TV h its zs→(∀z∈zs,z≠[])→∃fs,KatTups h its fs∧fs.length=its.length∧∀v∈fs,∃i t,v=Value.int i t
 |[],[],_,_=>⟨[],KatTups.nil,rfl,fun _ x=>nomatch x⟩
 |[],_::_,⟨l,_⟩,_=>by cases l
 |_::_,[],⟨l,_⟩,_=>by cases l
 |v::its,z::zs,⟨l,f⟩,hn=>by
  obtain⟨b,o,n,us,e,ho,hc,hd,iv⟩:=f 0 z rfl
  have e':v=Value.ref b:=by simpa using e
  subst e'
  obtain⟨fs,k,kl,ki⟩:=TV.um (h:=h) (its:=its) (zs:=zs) ⟨by simpa using l,fun i z' e=>by simpa using f (i+1) z' (by simpa using e)⟩ fun z' hz=>hn z' (.tail _ hz)
  cases iv with
  |nil=>exact absurd rfl (hn [] (.head _))
  |@cons i t us ns r=>
   refine⟨Value.int i t::fs,KatTups.cons ho hc hd (by simp) k,by simp[kl],fun v hv=>?_⟩
   rcases List.mem_cons.mp hv with rfl|hv
   . exact⟨_,_,rfl⟩
   . exact ki v hv
theorem qJ{us:List Value}{ns:List Int}(h:tQ us ns):us.length=ns.length:=by
 induction h with
 |nil=>rfl
 |cons _ ih=>simp[ih]
theorem nR{X:Cx}:z6 X (.builtin "sorted") (fun xs H Q=>∃p ys zs k,xs=[.ref p]∧SqL X.K H p ys∧ft X.K H ys zs∧(zs.length<2∨0<k∧(∀z∈zs,z.length=k)∧∀i,i+1<zs.length→oM (zs.getD (i+1) []) (zs.getD i [])=false) ∧
 ∀l,H l=none→Q (.ref l) (upd H l (.lst ys))):=by
 intro pins s σ H xs us Q I r h
 obtain⟨p,ys,zs,k,rfl,hq,hP,hr,q⟩:=h
 obtain⟨u,rfl,rx⟩:=vals1 r
 cases rx
 obtain⟨its,rv,pl,hz⟩:=I.list hq
 have hlen:=rv.length
 have hl:s.heap.IsList p its.toArray:=pl.isList
 have tv:=hP.tv I rv
 have hn:its.length=zs.length:=tv.1
 have hD:s.heap.get? (s.heap.objs.size+1)=none:=Heap.get?_none_of_le (Nat.le_succ _)
 have fin:∀(h':Heap) (c:Nat),(∀b o,s.heap.get? b=some o→h'.get? b=some o)→h'.get? (s.heap.objs.size+1)=some (seqObj "list" its.toArray c)→EP X pins σ Q (.ref (s.heap.objs.size+1)) {s with heap:=h'}:=fun h' c keep e=>by
  obtain⟨hn',I'⟩:=I.nN (h':=h') hz rv hD (fun b o _ e=>keep b o e) (fun m ⟨o,es,ep,ho,r⟩=>⟨o,es,ep,keep _ o ho,r⟩) e
  exact⟨V.ref _,_,I',rfl,q _ hn'⟩
 by_cases h2:its.length<2
 . exact uj hl h2 fin
 . rcases hr with hr|⟨hk,hlen2,hr⟩
   . omega
   have hne:∀z∈zs,z≠[]:=fun z hm e=>by have:=hlen2 z hm;rw[e]at this;simp at this;omega
   have hzl:its.length≤16777216:=by rw[sizeLine_eq]at hz;omega
   have up:∀{h':Heap},(∀b o,s.heap.get? b=some o→h'.get? b=some o)→TV h' its zs:=fun keep=>⟨hn,fun i z e=>by
    obtain⟨b,o,n,us,f1,f2,f3⟩:=tv.2 i z e
    exact⟨b,o,n,us,f1,keep _ _ f2,f3⟩⟩
   refine nF (κ:=tuples' true) hl (by omega) hzl (fun h' Q' keep hq'=>?_) (fun h' i C keep hi hc=>?_) fin
   . obtain⟨fs,kt,kl,ki⟩:=(up keep).um hne
     refine kat_kind (s:={s with heap:=h'}) (T:=.type "int") kt (by omega) (fun v hv=>?_) rfl hq'
     obtain⟨i,t,rfl⟩:=ki v hv
     exact Looks.of_pure rfl
   . have hi1:i+1<zs.length:=by omega
     have hi0:i<zs.length:=by omega
     obtain⟨b,o,n,us,f1,f2,f3,f4,f5⟩:=(up keep).2 (i+1) zs[i+1] (List.getElem?_eq_getElem hi1)
     obtain⟨b',o',n',us',f1',f2',f3',f4',f5'⟩:=(up keep).2 i zs[i] (List.getElem?_eq_getElem hi0)
     rw[List.getD_eq_getElem?_getD,List.getD_eq_getElem?_getD,f1,f1']
     refine kat_lt (s:={s with heap:=h'}) f2 f4 f2' f4' ?_
     have l1:=qJ f5
     have l2:=qJ f5'
     have l3:=hlen2 zs[i+1] (List.getElem_mem hi1)
     have l4:=hlen2 zs[i] (List.getElem_mem hi0)
     rw[show decide ((List.toArray us).size<(List.toArray us').size)=false from decide_eq_false (by rw[List.size_toArray,List.size_toArray];omega)]
     refine lr (s:={s with heap:=h'}) 0 f5 f5' ?_
     have:=hr i hi1
     rw[List.getD_eq_getElem?_getD,List.getElem?_eq_getElem hi1,List.getD_eq_getElem?_getD,List.getElem?_eq_getElem hi0]at this
     rw[show oM zs[i+1] zs[i]=false from this]
     exact hc
end L2
end
section
namespace L2
open PySem PyProof.Rows
section
variable {X:Cx}{N:List Str}{csc:Scope}{fr:List (Option Nat)}{elt tg iter tg2 iter2:Expr}{ifs ifs2:List Expr}{cpos:Pos}{wi wi2:TI}{g g2:TG}{ts ts2:List TT}{te:TE}
theorem g7{y:Str}{py spos:Pos}{i:Nat}(hc:X.calm=true)(S:zq X N csc fr)(hi:PI X tg iter wi)(hg:∀C s0 H0 ex,PG (X.comp N csc C s0 H0 ex) tg g)(ht:∀C s0 H0 ex,PTs (X.comp N csc C s0 H0 ex) ifs ts)
 (hi2:∀C s0 H0 ex,PI (X.comp N csc C s0 H0 ex) tg2 iter2 wi2) (hg2:∀C s0 H0 ex,PG (X.comp N csc C s0 H0 ex) tg2 g2) (ht2:∀C s0 H0 ex,PTs (X.comp N csc C s0 H0 ex) ifs2 ts2)
 (he:∀C s0 H0 ex,PE (X.comp N csc C s0 H0 ex) elt te) (hN:X.N.Nodup) (hy:X.N[i]?=some y) (hx:Loc X.env.scope y)
 (hsw:swapsWith (.ListComp elt [⟨tg,iter,ifs,0⟩,⟨tg2,iter2,ifs2,0⟩] csc cpos) (some (.Name y py)) spos.line X.env=pure true:=by rfl)
 (hf:X.fn y=true∨X.env.scope.names.lookup y=some .local:=by first|exact .inl rfl|exact .inr rfl|assumption)
 (hs:∀x,foldedSetIterable iter X.env x=pure x:=by intro _;rfl)
 (hs2:∀env x,foldedSetIterable iter2 env x=pure x:=by intro _ _;rfl) :
 PS X (.Assign [.Name y py] (.ListComp elt [⟨tg,iter,ifs,0⟩,⟨tg2,iter2,ifs2,0⟩] csc cpos) spos) (rh (vS fr wi g ts fun acc=>rH wi2 g2 ts2 (vt acc te)) (vM i)):=
 om hc S hi (B:=fun acc env=>(do
         let x ←eval iter2 env
         standAt iter2.pos
         let x ←foldedSetIterable iter2 env x
         let _ ←runOwn (.compStart (.ListComp elt [⟨tg,iter,ifs,0⟩,⟨tg2,iter2,ifs2,0⟩] csc cpos) 1 (←holding [x] (pyIter x)) acc env) env)) (bc elt tg iter ifs tg2 iter2 ifs2 csc cpos) hg ht
  (fun C s0 H0 ex acc=>oY rfl hc (hi2 C s0 H0 ex) (hg2 C s0 H0 ex) (ht2 C s0 H0 ex) (sC (he C s0 H0 ex)) (hs2 _)) hN hy hx hsw hf hs
end
end L2
end
section
namespace L2
open PySem PySem.Calls PyProof PyProof.Rows
open AutoSeq1 (wpAny_loadPart')
section
variable {prog:Program}{w:World}{A:Around}{E:Value→Shared→Prop}{s:Shared}
theorem tj{it t:Addr}{i:Nat}{items:Array Value}{x:Value}{Q:Value→Shared→Prop}(hit:s.heap.IsTupleIter it t i)(ht:s.heap.IsTuple t items)(hx:items[i]?=some x)
 (hQ:∀h',h'.IsTupleIter it t (i+1)→Heap.SameBut it s.heap h'→Q x {s with heap:=h'}):wpAny (model prog w) A (Builtin.SmallTypes.nextOf (.ref it)) Q E s:=by
 obtain⟨o,ho,hc,hd⟩:=id hit
 obtain⟨ol,hol,_,nl,hdl⟩:=ht
 unfold Builtin.SmallTypes.nextOf
 refine wpAny_bind (wpAny_callSpecial?_slot (name:=Str.ofString "__next__") hit.typeIs F.slot_tuple_iterator_next
  (wpAny_call_entry F.slot_tuple_iterator_next hit.typeIs F.entry_tuple_iterator_next ?_ (F.args_tuple_iterator_next_1 _)))
 show wpAny _ _ (field (.ref it) 0 >>= _) _ _ s
 refine wpAny_bind (wpAny_field ho hd (x:=.ref t) rfl ?_)
 show wpAny _ _ (if (Value.ref t == Value.none)=true then _ else _) _ _ s
 rw[if_neg (show ¬((Value.ref t == Value.none)=true) from Bool.false_ne_true)]
 show wpAny _ _ (field (.ref it) 1 >>= _) _ _ s
 refine wpAny_bind (wpAny_field ho hd (x:=.int i 0) rfl ?_)
 show wpAny _ _ (seqItems? (.ref t) >>= _) _ _ s
 refine wpAny_bind (wpAny_seqItems hol hdl ?_)
 simp only[Int.toNat_natCast,hx]
 refine wpAny_bind (wpAny_setField ho hd (by simp) (wpAny_pure ⟨x,rfl,wpAny_pure (hQ _ ?_ (Heap.SameBut.update ..))⟩))
 exact⟨_,Heap.get?_update_self _ ho (Obj.isFreed_of_fields (Obj.data_mapFields hd _)),(Obj.cls_mapFields ..).trans hc,by
  rw[Obj.data_mapFields hd];simp[rawInt]⟩
theorem sr{it t:Addr}{i:Nat}{items:Array Value}{Q:Value→Shared→Prop}(hh:A.handled=none)(hit:s.heap.IsTupleIter it t i)(ht:s.heap.IsTuple t items)(hx:items[i]?=none)
 (hE:∀h' e,Heap.ExtBut it s.heap h'→(∃o,h'.get? e=some o∧o.cls=.type "StopIteration")→E (.ref e) {s with heap:=h'}):wpAny (model prog w) A (Builtin.SmallTypes.nextOf (.ref it)) Q E s:=by
 obtain⟨o,ho,hc,hd⟩:=id hit
 obtain⟨ol,hol,_,nl,hdl⟩:=ht
 unfold Builtin.SmallTypes.nextOf
 refine wpAny_bind (wpAny_callSpecial?_slot (name:=Str.ofString "__next__") hit.typeIs F.slot_tuple_iterator_next
  (wpAny_call_entry F.slot_tuple_iterator_next hit.typeIs F.entry_tuple_iterator_next ?_ (F.args_tuple_iterator_next_1 _)))
 show wpAny _ _ (field (.ref it) 0 >>= _) _ _ s
 refine wpAny_bind (wpAny_field ho hd (x:=.ref t) rfl ?_)
 show wpAny _ _ (if (Value.ref t == Value.none)=true then _ else _) _ _ s
 rw[if_neg (show ¬((Value.ref t == Value.none)=true) from Bool.false_ne_true)]
 show wpAny _ _ (field (.ref it) 1 >>= _) _ _ s
 refine wpAny_bind (wpAny_field ho hd (x:=.int i 0) rfl ?_)
 show wpAny _ _ (seqItems? (.ref t) >>= _) _ _ s
 refine wpAny_bind (wpAny_seqItems hol hdl ?_)
 simp only[Int.toNat_natCast,hx]
 first
  |refine wpAny_bind (wpAny_rule (wpAny_bind (wpAny_setField ho hd (by simp) ?_)))
  |refine wpAny_bind (wpAny_setField ho hd (by simp) ?_)
 first
  |show wpAny _ _ (newExc (.type "StopIteration") [] >>= _) _ _ _
  |(refine wpAny_bind (wpAny_letGo ?_);show wpAny _ _ (newExc (.type "StopIteration") [] >>= _) _ _ _)
 refine wpAny_bind ?_
 simp only[newExc,newTuple]
 refine wpAny_bind (wpAny_newObj_type ?_ (by size_fits))
 refine wpAny_bind (m:=firstArgMember _ _) (wpAny_of_eq (a:=Value.none) (by first|rfl|(simp only[firstArgMember];rfl)) ?_)
 refine wpAny_newObj_type ?_ (by size_fits)
 simp only[raiseNew]
 refine wpAny_bind (wpAny_handled ?_)
 first|rw[show A.in1.handled=none from hh]|rw[hh]
 refine wpAny_bind (wpAny_pure (wpAny_throw ?_))
 exact hE _ _ (((Heap.SameBut.update ..).extBut.push _).push _) ⟨_,Heap.get?_push_size _ rfl,rfl⟩
end
theorem qI{prog:Program}{w:World}{A:Around}(hh:A.handled=none)(it t:Addr)(hne:t≠it)(items:Array Value) :
 Draws prog w A it [it,t] items.size (fun i v=>items[i]?=some v) (fun i h=>h.IsTupleIter it t i∧h.IsTuple t items) where
 live:=fun _ _ st=>let ⟨o,ho,_⟩:=st.1;⟨o,ho⟩
 frame:=fun _ _ _ st hk=>⟨st.1.at fun o e=>hk it (by simp) o e,let ⟨o,ho,r⟩:=st.2;⟨o,hk t (by simp) o ho,r⟩⟩
 item:=fun i s Q E hi st hQ=>by
  refine tj st.1 st.2 (x:=items[i]) (by simp[hi]) fun h' hit' hs'=>?_
  exact hQ _ h' s.toks (by simp[hi]) ⟨hit',let ⟨o,ho,r⟩:=st.2;⟨o,hs'.extBut t o hne ho,r⟩⟩ hs'
 done:=fun s Q E st hE=>sr hh st.1 st.2 (by simp) hE
theorem si(l:Addr)(items:Array Value)(n:Nat)(dct:Option Addr)(sl:Array (Option Value)) :
 Meets (Builtin.«enumerate.__new__» ⟨[.type "enumerate",.ref l],[]⟩) (fun _ R s=>s.heap.get? l=some {cls:=.type "tuple",dict:=dct,data:=.seq items n,slots:=sl} ∧
  R (.ok (.ret (.ref (s.heap.push {cls:=.type "tuple_iterator",data:=.fields #[.ref l,.int 0 0]}).objs.size)))
    {s with heap:=(s.heap.push {cls:=.type "tuple_iterator",data:=.fields #[.ref l,.int 0 0]}).push {cls:=.type "enumerate",data:=.fields #[.none,.bool false,.ref s.heap.objs.size,rawInt 0,.none,.none]}}):=
 .of_wp fun prog w A R s h=>by
  obtain⟨hp,g,d,tk,os⟩:=s;obtain⟨hl,h⟩:=h
  have hsub:=sub_enumerate
  have hL:Heap.IsTuple (Shared.heap ⟨hp,g,d,tk,os⟩) l items:=⟨_,hl,rfl,n,rfl⟩
  wp_walk using wpAny_loadPart' hl
  refine wpAny_stack_any fun st=>wpAny_pure ?_
  split
  . rename_i c _ _ _ _ _
    cases (c == Value.type "enumerate")
    . wp_walk using wpAny_loadPart' hl,wpAny_pyIter_tuple hL
      exact⟨_,rfl,h⟩
    . wp_walk using wpAny_loadPart' hl,wpAny_pyIter_tuple hL
      exact⟨_,rfl,h⟩
  . wp_walk using wpAny_loadPart' hl,wpAny_pyIter_tuple hL
    exact⟨_,rfl,h⟩
section
variable {prog:Program}{w:World}{A:Around}{E:Value→Shared→Prop}{s:Shared}
theorem rQ{l:Addr}{items:Array Value}{Q:Value→Shared→Prop}(hL:s.heap.IsTuple l items)
 (h:∀h',IsEnum h' (s.heap.objs.size+1) s.heap.objs.size 0 .none→h'.IsTupleIter s.heap.objs.size l 0→h'.objs.size=s.heap.objs.size+2 →
  (∀b o,s.heap.get? b=some o→h'.get? b=some o)→Q (.ref (s.heap.objs.size+1)) {s with heap:=h'}) :
 wpAny (model prog w) A (call (.type "enumerate") [.ref l]) Q E s:=by
 obtain⟨⟨c,dct,dt,sl⟩,hl,hc,n,hd⟩:=hL
 replace hc:c=.type "tuple":=hc
 replace hd:dt=.seq items n:=hd
 subst hc hd
 refine callType_new F.called_enumerate (by decide) (F.typeCall_enumerate_1 _) (F.newCall_enumerate_1 _) (fun obj=>F.args_object_init_2 obj _) F.entry_enumerate_new
  (si l items n dct sl) ⟨hl,?_⟩
 have hz:(s.heap.push {cls:=.type "tuple_iterator",data:=.fields #[.ref l,.int 0 0]}).objs.size=s.heap.objs.size+1:=Heap.size_push ..
 show _∧_
 rw[hz]
 have he:IsEnum ((s.heap.push {cls:=.type "tuple_iterator",data:=.fields #[.ref l,.int 0 0]}).push
  {cls:=.type "enumerate",data:=.fields #[.none,.bool false,.ref s.heap.objs.size,rawInt 0,.none,.none]}) (s.heap.objs.size+1) s.heap.objs.size 0 .none:=by
  have:=Heap.get?_push_size (s.heap.push {cls:=.type "tuple_iterator",data:=.fields #[.ref l,.int 0 0]})
   (o:={cls:=.type "enumerate",data:=.fields #[.none,.bool false,.ref s.heap.objs.size,rawInt 0,.none,.none]}) rfl
  rw[hz]at this;exact this
 refine⟨⟨_,he,rfl⟩,h _ he ⟨_,Heap.get?_push_of_some _ (Heap.get?_push_size _ rfl),rfl,rfl⟩ (by rw[Heap.size_push,hz]) fun b o x=>Heap.get?_push_of_some _ (Heap.get?_push_of_some _ x)⟩
end
end L2
end
section
namespace L2
open PySem PySem.Calls PyProof PyProof.Rows
noncomputable def Ite(K:PySem.W.Frag)(a:Addr):It:=
 ⟨fun i H=>∃xs x,SqT K H a xs∧xs[i]?=some x,fun i H x H'=>∃t y,H t=none∧x=.ref t∧(∀xs,SqT K H a xs→xs[i]?=some y)∧H'=upd H t (.tup [.int (i:Nat),y]),fun i H=>∃xs,SqT K H a xs∧xs.length=i⟩
theorem Inv.kG{X:Cx}{pins:List (Addr × Obj)}{σ:St}{H:Hp}{s:Shared}{h':Heap}{t':Nat}{e it T:Addr}{ys:List V}{its:List Value}{n:Nat}(I:Inv X pins σ H s)(fe:vm X pins H e)(fi:vm X pins H it)
 (k:∀b o,b≠e→b≠it→s.heap.get? b=some o→h'.get? b=some o) (hT:s.heap.objs.size≤T) (hz:ys.length≤sizeLine) (r:Vals ys its) (ho:h'.get? T=some {cls:=.type "tuple",data:=.seq its.toArray n}) :
 Inv X pins σ (upd H T (.tup ys)) {s with heap:=h',toks:=t'}:=by
 obtain⟨e0,e1,e2,e3,e4,e5⟩:=fe
 obtain⟨i0,i1,i2,i3,i4,i5⟩:=fi
 have hn:H T=none:=I.hok.fresh hT
 have neT:∀b u,H b=some u→b≠T:=fun b u q z=>by rw[z,hn]at q;cases q
 have nee:∀b u,H b=some u→b≠e:=fun b u q z=>by rw[z,e0]at q;cases q
 have nei:∀b u,H b=some u→b≠it:=fun b u q z=>by rw[z,i0]at q;cases q
 have neoT:∀b o,s.heap.get? b=some o→b≠T:=fun b o q z=>absurd (Nat.lt_of_lt_of_le (Heap.lt_size q) hT) (by rw[z];exact Nat.lt_irrefl _)
 refine I.step (g':=s.gens) (d':=s.drawn) (ch:=[e,it]) (fun b hb=>?_) (fun b o _ _ hc q _=>k b o (fun z=>hc (by simp[z])) (fun z=>hc (by simp[z])) q) (fun b o _ _ hc q _=>⟨o.slots,k b o (fun z=>hc (by simp[z])) (fun z=>hc (by simp[z])) q⟩)
  (fun b o _ q m=>by rw[zS (neoT b o q)];exact m) (fun b o hc q=>⟨o,k b o (fun z=>hc (by simp[z])) (fun z=>hc (by simp[z])) q⟩) (fun b xs q=>by rw[zS (neT b _ q)];exact q) (fun b o u q=>by rw[zS (neT b _ q)];exact q)
  (fun b ps q=>⟨#[],by rw[zS (neT b _ q),q];simp⟩) (fun m hm=>?_) (fun b u q=>?_) I.bare
 . rcases List.mem_cons.mp hb with z|hb
   . subst z;exact⟨e3,e1,e4,e5⟩
   . have z:=List.mem_singleton.mp hb
     subst z;exact⟨i3,i1,i4,i5⟩
 . obtain⟨o,es,ep,ho,r⟩:=hm
   exact⟨o,es,ep,k _ o (Ne.symm e1) (Ne.symm i1) ho,r⟩
 . by_cases hb:b=T
   . subst hb
     rw[zt]at q
     cases q
     exact⟨hz,its,r,_,ho,rfl,n,rfl,rfl⟩
   . rw[zS hb]at q
     refine(I.hok b u q).mX (fun c v hc w=>k c v ?_ ?_ w) (fun c hc=>by rw[zS (neT c _ hc)];exact hc) fun c xs hc=>by rw[zS (neT c _ hc)];exact hc
     . rcases hc with z|z
       . rw[z];exact nee b u q
       . exact nee c _ z
     . rcases hc with z|z
       . rw[z];exact nei b u q
       . exact nei c _ z
theorem Inv.kF{X:Cx}{pins:List (Addr × Obj)}{σ:St}{H:Hp}{s:Shared}{h':Heap}{t':Nat}{it:Addr}(I:Inv X pins σ H s)(fi:vm X pins H it)(k:∀b o,b≠it→s.heap.get? b=some o→h'.get? b=some o):Inv X pins σ H {s with heap:=h',toks:=t'}:=by
 obtain⟨i0,i1,i2,i3,i4,i5⟩:=fi
 exact I.turned k i0 i1 i3 i4 i5
theorem j0{P:Program}{w:World}{K:PySem.W.Frag}{elts:List Expr}{x1:Nat}{pos:Pos}(a e it:Addr)(hei:e≠it):Turn P w K (.Tuple elts x1 pos) (Ite K a) [e,it] e (fun i h=>(∃old,IsEnum h e it (i:Nat) old)∧h.IsTupleIter it a i) where
 mem:=by simp
 obj:=fun i h st b hb=>by
  rcases List.mem_cons.mp hb with z|hb
  . subst z
    obtain⟨old,he⟩:=st.1
    exact⟨_,he,fun v z=>by cases (show Data.fields _=Data.cell v from z)⟩
  . have z:=List.mem_singleton.mp hb
    subst z
    obtain⟨o,q,c,d⟩:=st.2
    exact⟨o,q,fun v z=>by rw[d]at z;cases z⟩
 keep:=fun i h h' st k=>⟨let ⟨old,he⟩:=st.1;⟨old,k e (by simp) _ he⟩,st.2.at fun o q=>k it (by simp) o q⟩
 item:=by
  intro X hP hw hK hc i pins s σ H E I hf st hg
  subst hP hw hK
  obtain⟨xs,x,hq,hx⟩:=hg
  obtain⟨⟨old,he⟩,hit⟩:=st
  obtain⟨its,rv,p,hz⟩:=I.tuple hq
  obtain⟨u,hu,ru⟩:=rv.get hx
  have hlen:=rv.length
  have hi:i<xs.length:=(List.getElem?_eq_some_iff.mp hx).1
  have hai:a≠it:=fun z=>by
   obtain⟨o1,q1,c1,_⟩:=id p
   obtain⟨o2,q2,c2,_⟩:=id hit
   rw[z,q2]at q1;cases q1
   rw[c2]at c1;exact absurd (Value.type.inj c1) (by decide)
  have hae:a≠e:=fun z=>by
   obtain⟨o1,q1,c1,_⟩:=id p
   have he':s.heap.get? e=_:=he
   rw[z,he']at q1;cases q1
   exact absurd (Value.type.inj c1) (by decide)
  have D:=qI (prog:=X.prog) (w:=X.w) (A:=X.A.in1) (I.ok.hd hc) it a hai its.toArray
  refine wpAny_pyNext_enum_itemD D he ⟨hit,p⟩ (by rw[List.size_toArray];omega) hei (fun m=>?_) fun v h1 tk hP ho hs1 hT hsz hk=>?_
  . rcases List.mem_cons.mp m with z|m
    . exact hei z
    . exact hae (List.mem_singleton.mp m).symm
  . have hP:its.toArray[i]?=some v:=hP
    have ev:v=u:=by
     rw[List.getElem?_toArray,hu]at hP
     exact(Option.some.inj hP).symm
    subst ev
    refine⟨_,rfl,wpAny_letOwnedTupleGo_enum (s:={s with heap:=h1,toks:=tk+1}) ho fun h2 he2 sb=>?_⟩
    have sz:s.heap.objs.size≠e:=Nat.ne_of_gt (Heap.lt_size he)
    refine⟨.ref s.heap.objs.size,_,Inv.kG (s:=s) (h':=h2) (t':=tk+1) (T:=s.heap.objs.size) (ys:=[.int (i:Nat),x]) (its:=[.int (i:Nat) tk,v]) (n:=0) I (hf e (by simp)) (hf it (by simp)) (fun b o h1' h2' q=>(sb.2 b h1').trans (hk b o h1' h2' q)) (Nat.le_refl _) (by rw[sizeLine_eq];show 2≤_;decide) (.cons ⟨tk,rfl⟩ (.cons ru .nil)) ((sb.2 _ sz).trans hT),rfl,
     ⟨s.heap.objs.size,x,I.hok.fresh (Nat.le_refl _),rfl,fun ys hy=>by rw[I.qY hy hq];exact hx,rfl⟩,⟨⟨v,by simpa using he2⟩,hs1.1.at fun o q=>(sb.2 it (Ne.symm hei)).trans q⟩,fun b hb=>?_⟩
    rw[zS (fun z=>?_)]
    . exact(hf b hb).1
    . have hlt:b<s.heap.objs.size:=by
       rcases List.mem_cons.mp hb with y|hb
       . rw[y];exact Heap.lt_size he
       . rw[List.mem_singleton.mp hb];obtain⟨o,q,_⟩:=hit;exact Heap.lt_size q
      exact absurd z (Nat.ne_of_lt hlt)
 done:=by
  intro X hP hw hK hc i pins s σ H E I hf st hg
  subst hP hw hK
  obtain⟨xs,hq,hx⟩:=hg
  obtain⟨⟨old,he⟩,hit⟩:=st
  obtain⟨its,rv,p,hz⟩:=I.tuple hq
  have hlen:=rv.length
  have hai:a≠it:=fun z=>by
   obtain⟨o1,q1,c1,_⟩:=id p
   obtain⟨o2,q2,c2,_⟩:=id hit
   rw[z,q2]at q1;cases q1
   rw[c2]at c1;exact absurd (Value.type.inj c1) (by decide)
  have D:=qI (prog:=X.prog) (w:=X.w) (A:=X.A.in1) (I.ok.hd hc) it a hai its.toArray
  have en:its.toArray.size=i:=by rw[List.size_toArray];omega
  exact wpAny_pyNext_enum_endD D he ⟨by rw[en];exact hit,p⟩ fun h' eb=>⟨rfl,I.kF (t':=s.toks) (hf it (by simp)) fun b o hb q=>eb b o hb q⟩
 self:=fun _ _ _ _ _ st h=>let ⟨old,he⟩:=st.1;wpAny_pyIter_enum he h
noncomputable def bp(K:PySem.W.Frag)(a:Addr):It:=
 ⟨fun i H=>∃xs x,SqL K H a xs∧xs[i]?=some x,fun i H x H'=>∃t y,H t=none∧x=.ref t∧(∀xs,SqL K H a xs→xs[i]?=some y)∧H'=upd H t (.tup [.int (i:Nat),y]),fun i H=>∃xs,SqL K H a xs∧xs.length=i⟩
theorem mi{P:Program}{w:World}{K:PySem.W.Frag}{elts:List Expr}{x1:Nat}{pos:Pos}(a e it:Addr)(hei:e≠it):Turn P w K (.Tuple elts x1 pos) (bp K a) [e,it] e (fun i h=>(∃old,IsEnum h e it (i:Nat) old)∧h.IsListIter it a i) where
 mem:=by simp
 obj:=fun i h st b hb=>by
  rcases List.mem_cons.mp hb with z|hb
  . subst z
    obtain⟨old,he⟩:=st.1
    exact⟨_,he,fun v z=>by cases (show Data.fields _=Data.cell v from z)⟩
  . have z:=List.mem_singleton.mp hb
    subst z
    obtain⟨o,q,c,d⟩:=st.2
    exact⟨o,q,fun v z=>by rw[d]at z;cases z⟩
 keep:=fun i h h' st k=>⟨let ⟨old,he⟩:=st.1;⟨old,k e (by simp) _ he⟩,st.2.at fun o q=>k it (by simp) o q⟩
 item:=by
  intro X hP hw hK hc i pins s σ H E I hf st hg
  subst hP hw hK
  obtain⟨xs,x,hq,hx⟩:=hg
  obtain⟨⟨old,he⟩,hit⟩:=st
  obtain⟨its,rv,p0,hz⟩:=I.list hq
  have p:=p0.isList
  obtain⟨u,hu,ru⟩:=rv.get hx
  have hlen:=rv.length
  have hi:i<xs.length:=(List.getElem?_eq_some_iff.mp hx).1
  have hai:a≠it:=fun z=>by
   obtain⟨o1,q1,c1,_⟩:=id p
   obtain⟨o2,q2,c2,_⟩:=id hit
   rw[z,q2]at q1;cases q1
   rw[c2]at c1;exact absurd (Value.type.inj c1) (by decide)
  have hae:a≠e:=fun z=>by
   obtain⟨o1,q1,c1,_⟩:=id p
   have he':s.heap.get? e=_:=he
   rw[z,he']at q1;cases q1
   exact absurd (Value.type.inj c1) (by decide)
  have D:=Draws.list (prog:=X.prog) (w:=X.w) (A:=X.A.in1) (I.ok.hd hc) it a hai its.toArray
  refine wpAny_pyNext_enum_itemD D he ⟨hit,p⟩ (by rw[List.size_toArray];omega) hei (fun m=>?_) fun v h1 tk hP ho hs1 hT hsz hk=>?_
  . rcases List.mem_cons.mp m with z|m
    . exact hei z
    . exact hae (List.mem_singleton.mp m).symm
  . have hP:its.toArray[i]?=some v:=hP
    have ev:v=u:=by
     rw[List.getElem?_toArray,hu]at hP
     exact(Option.some.inj hP).symm
    subst ev
    refine⟨_,rfl,wpAny_letOwnedTupleGo_enum (s:={s with heap:=h1,toks:=tk+1}) ho fun h2 he2 sb=>?_⟩
    have sz:s.heap.objs.size≠e:=Nat.ne_of_gt (Heap.lt_size he)
    refine⟨.ref s.heap.objs.size,_,Inv.kG (s:=s) (h':=h2) (t':=tk+1) (T:=s.heap.objs.size) (ys:=[.int (i:Nat),x]) (its:=[.int (i:Nat) tk,v]) (n:=0) I (hf e (by simp)) (hf it (by simp)) (fun b o h1' h2' q=>(sb.2 b h1').trans (hk b o h1' h2' q)) (Nat.le_refl _) (by rw[sizeLine_eq];show 2≤_;decide) (.cons ⟨tk,rfl⟩ (.cons ru .nil)) ((sb.2 _ sz).trans hT),rfl,
     ⟨s.heap.objs.size,x,I.hok.fresh (Nat.le_refl _),rfl,fun ys hy=>by rw[I.oN hy hq];exact hx,rfl⟩,⟨⟨v,by simpa using he2⟩,hs1.1.at fun o q=>(sb.2 it (Ne.symm hei)).trans q⟩,fun b hb=>?_⟩
    rw[zS (fun z=>?_)]
    . exact(hf b hb).1
    . have hlt:b<s.heap.objs.size:=by
       rcases List.mem_cons.mp hb with y|hb
       . rw[y];exact Heap.lt_size he
       . rw[List.mem_singleton.mp hb];obtain⟨o,q,_⟩:=hit;exact Heap.lt_size q
      exact absurd z (Nat.ne_of_lt hlt)
 done:=by
  intro X hP hw hK hc i pins s σ H E I hf st hg
  subst hP hw hK
  obtain⟨xs,hq,hx⟩:=hg
  obtain⟨⟨old,he⟩,hit⟩:=st
  obtain⟨its,rv,p0,hz⟩:=I.list hq
  have p:=p0.isList
  have hlen:=rv.length
  have hai:a≠it:=fun z=>by
   obtain⟨o1,q1,c1,_⟩:=id p
   obtain⟨o2,q2,c2,_⟩:=id hit
   rw[z,q2]at q1;cases q1
   rw[c2]at c1;exact absurd (Value.type.inj c1) (by decide)
  have D:=Draws.list (prog:=X.prog) (w:=X.w) (A:=X.A.in1) (I.ok.hd hc) it a hai its.toArray
  have en:its.toArray.size=i:=by rw[List.size_toArray];omega
  exact wpAny_pyNext_enum_endD D he ⟨by rw[en];exact hit,p⟩ fun h' eb=>⟨rfl,I.kF (t':=s.toks) (hf it (by simp)) fun b o hb q=>eb b o hb q⟩
 self:=fun _ _ _ _ _ st h=>let ⟨old,he⟩:=st.1;wpAny_pyIter_enum he h
noncomputable def Yc(K:PySem.W.Frag)(ta:TA):TI:=fun σ H R=>ta σ H fun vs H1=>∃a,vs=[.ref a]∧(((∃xs,SqT K H1 a xs)∧R (Ite K a) H1)∨((∃xs,SqL K H1 a xs)∧R (bp K a) H1))
theorem dq{X:Cx}{elts:List Expr}{x1:Nat}{tpos:Pos}{a:Expr}{ta:TA}{p pos:Pos}(hg:Gl X "enumerate")(hm:X.mg "enumerate"=none)(ha:PA X [a] ta)(hs:starEach [a] X.env=[(false,eval a X.env)]:=by rfl):PI X (.Tuple elts x1 tpos) (.Call (.Name "enumerate" p) [a] [] pos) (Yc X.K ta):=by
 intro pins s σ H R I h
 refine Call_ (tB I hg hm boot_enumerate (PyProof.Rows.callWith_type1 (thn (ha pos pins s σ H _ I h) fun us s1 ⟨vs,H1,I1,r1,q1⟩=>?_) hs rfl))
 obtain⟨c,e,q⟩:=q1
 subst e
 cases r1 with
 |cons r rr=>
  cases rr
  cases r
  have fp:∀b∈[s1.heap.objs.size+1,s1.heap.objs.size],vm X pins H1 b:=fun b hb=>by
   have hb':s1.heap.objs.size≤b:=by
    rcases List.mem_cons.mp hb with z|hb
    . rw[z];exact Nat.le_succ _
    . rw[List.mem_singleton.mp hb];exact Nat.le_refl _
   exact I1.eI hb' (I1.hok.fresh hb')
  rcases q with⟨⟨xs,hq⟩,q⟩|⟨⟨xs,hq⟩,q⟩
  . obtain⟨its,rv,pt,hz⟩:=I1.tuple hq
    refine rQ (show s1.heap.IsTuple c its.toArray from pt) fun h' he hit hsz hk=>wpAny_pyIter_enum he ?_
    exact⟨s1.heap.objs.size+1,[s1.heap.objs.size+1,s1.heap.objs.size],_,_,H1,rfl,I1.kept (t':=s1.toks) hk,j0 c _ _ (Nat.succ_ne_self _),⟨⟨_,he⟩,hit⟩,fp,q⟩
  . obtain⟨its,rv,pt,hz⟩:=I1.list hq
    refine call_enumerate_list pt.isList fun h' he hit hsz hk=>wpAny_pyIter_enum he ?_
    exact⟨s1.heap.objs.size+1,[s1.heap.objs.size+1,s1.heap.objs.size],_,_,H1,rfl,I1.kept (t':=s1.toks) hk,mi c _ _ (Nat.succ_ne_self _),⟨⟨_,he⟩,hit⟩,fp,q⟩
end L2
end
section
namespace L2
open PySem PyProof.Rows
noncomputable def intsOf:List Expr→Option (List Int)
 |[]=>some []
 |.Constant (.int i) _ _::es=>(intsOf es).map fun r=>i::r
 |.UnaryOp .USub (.Constant (.int i) _ _) _::es=>(intsOf es).map fun r=>-i::r
 |_=>none
end L2
end
section
namespace L2
open PySem PyProof.Rows
section
variable {X:Cx}{a b:Expr}{rest:List Expr}{ta tb:TE}{pos:Pos}
noncomputable def Wg(K:PySem.W.Frag)(ta tb:TE):TE:=fun σ H Q=>ta σ H fun x H1=>∃c,fq K x H1 c∧if c=true then Q x H1 else tb σ H1 Q
theorem Zq(ha:PE X a ta)(hb:PE X (.BoolOp .Or (b::rest) pos) tb):PE X (.BoolOp .Or (a::b::rest) pos) (Wg X.K ta tb):=by
 intro pins s σ H Q I h
 refine BoolOp_or (thn (ha pins s σ H _ I h) fun v s1 ⟨x,H1,I1,r1,c,ht,q1⟩=>?_)
 refine thn (fX pins s1 σ H1 x v (fun k H2=>if k=true then Q x H2 else tb σ H2 Q) I1 r1 ⟨c,ht,q1⟩) fun k s2 ⟨H2,I2,q2⟩=>?_
 cases k with
 |false=>exact hb pins s2 σ H2 Q I2 q2
 |true=>exact⟨x,H2,I2,r1,q2⟩
end
noncomputable def xf(n:Nat)(lo hi:Option Int)(c:Int):Int × Nat:=((sliceBounds lo hi (some c) n).1,(if c > 0 then (if (sliceBounds lo hi (some c) n).1<(sliceBounds lo hi (some c) n).2.1 then ((sliceBounds lo hi (some c) n).2.1-(sliceBounds lo hi (some c) n).1+c-1)/c else 0) else (if (sliceBounds lo hi (some c) n).1 > (sliceBounds lo hi (some c) n).2.1 then ((sliceBounds lo hi (some c) n).1-(sliceBounds lo hi (some c) n).2.1-c-1)/(-c) else 0):Int).toNat)
theorem vV(its:List Value)(lo hi:Option Int)(c:Int):slicePick its.toArray lo hi (some c)=(zb its (xf its.length lo hi c).1 c (xf its.length lo hi c).2).toArray:=by
 unfold slicePick sliceRange zb xf
 rw[List.filterMap_map]
 refine congrArg List.toArray ?_
 have e:(sliceBounds lo hi (some c) its.toArray.size).2.2=c:=rfl
 rw[e]
 simp only[List.size_toArray]
 refine congrArg (fun f=>List.filterMap f _) ?_
 funext k
 show its.toArray[_]?=_
 rw[List.getElem?_toArray,Int.mul_comm]
noncomputable def Xp(K:PySem.W.Frag):V→Option Int→Option Int→Option Int→Hp→VK→Prop:=fun x lo hi st H Q=>∃a xs c,x=.ref a∧SqL K H a xs∧st=some c∧c≠0∧∀p,H p=none→Q (.ref p) (upd H p (.lst (zb xs (xf xs.length lo hi c).1 c (xf xs.length lo hi c).2)))
theorem mD{X:Cx}{e:Expr}{te:TE}{lo hi:Option Expr}{st:Expr}{tl th tc:TO}{pos p2:Pos}(he:PE X e te)(hl:PO X lo tl)(hu:PO X hi th)(hc:PO X (some st) tc):PE X (.Subscript e (.Slice lo hi (some st) p2) pos) (X4 (Xp X.K) te tl th tc):=by
 intro pins s σ H Q I h
 refine Subscript_ (thn (he pins s σ H _ I h) fun v s1 ⟨x,H1,I1,r1,q1⟩=>?_)
 refine wpAny_Slice (thn (hl pins s1 σ H1 _ I1 q1) fun vl s2 ⟨l,H2,I2,pl,q2⟩=>thn (hu pins s2 σ H2 _ I2 q2) fun vu s3 ⟨u,H3,I3,pu,q3⟩=>thn (hc pins s3 σ H3 _ I3 q3) fun vc s4 ⟨c,H4,I4,pc,q4⟩=>?_)
 obtain⟨a,xs,cc,rfl,hx,ec,h0,g⟩:=q4
 subst ec
 cases r1
 have I5:Inv X pins σ H4 {s4 with heap:=s4.heap.push {cls:=.type "slice",data:=.fields #[vl,vu,vc]}}:=I4.kept (t':=s4.toks) fun b ob q=>Heap.get?_push_of_some _ q
 obtain⟨its,r,ht,hz⟩:=I5.list hx
 have hlen:=r.length
 show wpAny (model X.prog X.w) X.A (subscriptTail e (.Slice lo hi (some st) p2) (.ref a) (.ref s4.heap.objs.size)) (EP X pins σ Q) X.xe {s4 with heap:=s4.heap.push {cls:=.type "slice",data:=.fields #[vl,vu,vc]}}
 refine tail_any (ops:=[.ref a,.ref s4.heap.objs.size]) ht.isList.typeIs slot_list_getitem.lookup (wpAny_getItem_list_slice ht.isList (Heap.IsSliceOf.new ..) pl pu pc (fun z=>h0 (Option.some.inj z)) ?_ (by rw[List.size_toArray]<;>omega)) (by with_unfolding_all rfl)
 rw[vV,←hlen]
 refine⟨.ref _,_,I5.laid (t':=s4.toks) (o:=.lst (zb xs (xf xs.length l u cc).1 cc (xf xs.length l u cc).2)) (fun b ob q=>Heap.get?_push_of_some _ q) (Nat.le_refl _) ?_,rfl,g _ (I5.hok.fresh (Nat.le_refl _))⟩
 have rp:=r.zb (xf xs.length l u cc).1 cc (xf xs.length l u cc).2
 have bound:(zb xs (xf xs.length l u cc).1 cc (xf xs.length l u cc).2).length≤xs.length:=by
  have:=slicePick_size_le its.toArray l u (some cc)
  rw[vV,List.size_toArray,List.size_toArray,←hlen,←rp.length]at this
  exact this
 exact⟨Nat.le_trans bound hz,_,0,rp,Heap.get?_push_size _ rfl⟩
end L2
end
section
namespace M
open PySem
inductive Val where
 |none|bool (b:Bool)|int (i:Int)|str (x:Str)
 |tup (vs:List Val)|lst (vs:List Val)|dct0
 |ctup (ns:List Int)|scr (ns:List Int)
 |ref (i:Nat)|fn (x:Str)|ty (n:String)
 deriving Inhabited
inductive Cel where
 |lst (vs:List Val)
 deriving Inhabited
noncomputable abbrev Sto:=List Cel
noncomputable abbrev Env:=List (Option Val)
inductive Out(α:Type) where
 |ok (a:α) (s:Sto)
 |exc (c:Str) (args:List Val) (s:Sto)
 |stuck
noncomputable def Out.bind{α β:Type}(o:Out α)(f:α→Sto→Out β):Out β:=
 match o with
 |.ok a s=>f a s
 |.exc c as s=>.exc c as s
 |.stuck=>.stuck
@[simp] theorem zR{α β:Type}(a:α)(s:Sto)(f:α→Sto→Out β):(Out.ok a s).bind f=f a s:=rfl
@[simp] theorem wx{α β:Type}(f:α→Sto→Out β):(Out.stuck:Out α).bind f=.stuck:=rfl
@[simp] theorem sI{α β:Type}(c:Str)(as:List Val)(s:Sto)(f:α→Sto→Out β):(Out.exc c as s:Out α).bind f=.exc c as s:=rfl
mutual
noncomputable def Val.isD:Val→Bool
 |.none|.bool _|.int _=>true
 |.str x=>PyData.strOk x
 |.tup vs=>xh vs
 |.lst vs=>xh vs
 |.dct0|.ctup _|.scr _|.ref _|.fn _|.ty _=>false
noncomputable def xh:List Val→Bool
 |[]=>true
 |v::vs=>v.isD&&xh vs
end
mutual
noncomputable def Val.isR:Val→Bool
 |.none|.bool _|.int _|.str _|.dct0=>true
 |.tup vs=>tf vs
 |.lst vs=>tf vs
 |.ctup _|.scr _|.ref _|.fn _|.ty _=>false
noncomputable def tf:List Val→Bool
 |[]=>true
 |v::vs=>v.isR&&tf vs
end
mutual
noncomputable def Val.d:Val→PyData
 |.none=>.none
 |.bool b=>.bool b
 |.int i=>.int i
 |.str x=>.str x
 |.tup vs=>.tuple (ds vs)
 |.lst vs=>.list (ds vs)
 |.dct0=>.dict []
 |.ctup _|.scr _|.ref _|.fn _|.ty _=>.none
noncomputable def ds:List Val→List PyData
 |[]=>[]
 |v::vs=>v.d::ds vs
end
mutual
noncomputable def Val.noRef:Val→Bool
 |.ref _=>false
 |.tup vs=>zj vs
 |.lst vs=>zj vs
 |.none|.bool _|.int _|.str _|.dct0|.ctup _|.scr _|.fn _|.ty _=>true
noncomputable def zj:List Val→Bool
 |[]=>true
 |v::vs=>v.noRef&&zj vs
end
noncomputable def Cel.noRef:Cel→Bool
 |.lst vs=>zj vs
mutual
noncomputable def Val.beq:Val→Val→Bool
 |.none,.none=>true
 |.bool a,.bool b=>a == b
 |.int a,.int b=>a == b
 |.str a,.str b=>a == b
 |.tup a,.tup b=>qi a b
 |.lst a,.lst b=>qi a b
 |.dct0,.dct0=>true
 |.ctup a,.ctup b=>a == b
 |.scr a,.scr b=>a == b
 |.ref a,.ref b=>a == b
 |.fn a,.fn b=>a == b
 |.ty a,.ty b=>a == b
 |_,_=>false
noncomputable def qi:List Val→List Val→Bool
 |[],[]=>true
 |a::as,b::bs=>a.beq b&&qi as bs
 |_,_=>false
end
noncomputable def Cel.beq:Cel→Cel→Bool
 |.lst a,.lst b=>qi a b
noncomputable def wC:Sto→Sto→Bool
 |[],_=>true
 |o::r,o'::r'=>(o'.noRef||o'.beq o)&&wC r r'
 |_::_,[]=>false
mutual
noncomputable def uU(n0:Nat)(s:Sto):Nat→Val→Option Val
 |_,.ref i=>if i<n0 then some (.ref i) else match s[i]? with
  |some (.lst vs)=>if zj vs then some (.lst vs) else Option.none
  |Option.none=>Option.none
 |k+1,.tup vs=>(t6 n0 s k vs).map .tup
 |_,v=>if v.noRef then some v else Option.none
noncomputable def t6(n0:Nat)(s:Sto):Nat→List Val→Option (List Val)
 |_,[]=>some []
 |0,_::_=>Option.none
 |k+1,v::vs=>match (if v.noRef then some v else uU n0 s k v),t6 n0 s k vs with
  |some v',some vs'=>some (v'::vs')
  |_,_=>Option.none
end
noncomputable def freeze(n0:Nat)(s:Sto)(v:Val):Option Val:=if v.noRef then some v else uU n0 s 20 v
inductive Bop|add|sub|mul|fdiv|mod|pow|shl|shr|band
 deriving DecidableEq
inductive Cop|eq|ne|lt|le|gt|ge|is|isNot|in_|notIn
 deriving DecidableEq
inductive Bf|len|all|any|tuple|list|sorted|repr|max|min|sum|int|isi|divmod|str
 deriving DecidableEq
inductive Mf|count|append|extend|pop|index
 deriving DecidableEq
inductive Tgt
 |nm (i:Nat)
 |nms (is:List Nat)
mutual
inductive Ex
 |lit (v:Val)|var (i:Nat)|gl (x:Str)|ty (x:Str) (n:String)
 |bin (m:Bool) (op:Bop) (a b:Ex)|neg (a:Ex)|not (a:Ex)
 |cmp (op:Cop) (a b:Ex)|chain (op op':Cop) (a b c:Ex)
 |andE (a:Ex) (es:Exs)|orE (a:Ex) (es:Exs)|ife (c:Cn) (a b:Ex)
 |tup (es:Exs)|lst (m:Bool) (es:Exs)|dct0
 |call (f:Str) (ver:Nat) (es:Exs)|blt (f:Bf) (m:Bool) (es:Exs)|maxD (a d:Ex)
 |yi (f:Mf) (m:Bool) (o:Ex) (es:Exs)
 |ix (a b:Ex)|sl (m:Bool) (a:Ex) (lo hi st:OEx)
 |comp (m:Bool) (N:List Str) (fr:List (Option Nat)) (elt:Ex) (t:Tgt) (it:Itb) (ifs:Cns)
 |comp2 (m:Bool) (N:List Str) (fr:List (Option Nat)) (elt:Ex) (t:Tgt) (it:Itb) (ifs:Cns) (t2:Tgt) (it2:Itb) (ifs2:Cns)
 |listRange (m:Bool) (a b c:Ex)
inductive Exs
 |nil|cons (e:Ex) (es:Exs)
inductive OEx
 |no|yes (e:Ex)
inductive Cn
 |val (e:Ex)|not (c:Cn)|and (c:Cn) (cs:Cns)|or (c:Cn) (cs:Cns)
inductive Cns
 |nil|cons (c:Cn) (cs:Cns)
inductive Itb
 |val (e:Ex)|range1 (a:Ex)|range2 (a b:Ex)|enum (e:Ex)|zip (a b:Ex)
end
mutual
inductive Sm
 |expr (e:Ex)|ret (e:Ex)|retN|asg (i:Nat) (e:Ex)|asgT (is:List Nat) (e:Ex)|par (is:List Nat) (es:Exs)
 |aug (i:Nat) (op:Bop) (e:Ex)|setIx (o i e:Ex)
 |ifS (c:Cn) (a b:Sms)|forS (t:Tgt) (it:Itb) (b:Sms)|whileS (c:Cn) (b:Sms)
 |pass|brk|cont|raise (e:Ex)
inductive Sms
 |nil|cons (s:Sm) (ss:Sms)
end
structure Fn where
 N:List Str
 ps:List Str
 keep:Bool
 body:Sms
noncomputable abbrev Calls:=Str→Nat→List Val→Sto→Out Val
noncomputable def zP:Nat:=16777216
noncomputable def newList(m:Bool)(vs:List Val)(s:Sto):Out Val:=if m then .ok (.ref s.length) (s++[.lst vs]) else .ok (.lst vs) s
noncomputable def xm(s:Sto):Val→Option (List Val)
 |.tup vs=>some vs
 |.lst vs=>some vs
 |.ctup ns=>some (ns.map .int)
 |.scr ns=>some (ns.map .int)
 |.ref i=>match s[i]? with
  |some (.lst vs)=>some vs
  |Option.none=>Option.none
 |_=>Option.none
noncomputable def yN(s:Sto):Val→Option (List Val)
 |.lst vs=>some vs
 |.ref i=>match s[i]? with
  |some (.lst vs)=>some vs
  |Option.none=>Option.none
 |_=>Option.none
noncomputable def truth(s:Sto):Val→Option Bool
 |.none=>some false
 |.bool b=>some b
 |.int i=>some (i != 0)
 |.str x=>if x.length≤zP then some ((x.length:Int) != 0) else Option.none
 |.tup vs=>some !vs.isEmpty
 |.lst vs=>some !vs.isEmpty
 |.dct0=>some false
 |.ref i=>match s[i]? with
  |some (.lst vs)=>some !vs.isEmpty
  |Option.none=>Option.none
 |_=>Option.none
noncomputable def Out.truth(o:Out Val):Out Bool:=o.bind fun v s=>match M.truth s v with
 |some b=>.ok b s
 |Option.none=>.stuck
noncomputable def yM(s:Sto):Val→Val
 |.ref i=>match s[i]? with
  |some (.lst vs)=>.lst vs
  |Option.none=>.ref i
 |v=>v
noncomputable def zr(s:Sto):Val→Val
 |.tup vs=>.tup (vs.map (yM s))
 |v=>yM s v
noncomputable def tG(d:PyData):Bool:=d.showable&&d.leavesShort 40&&decide (d.depth≤50)&&decide (d.weight≤300000)&&(!d.hasDict||!L2.xJ d)
noncomputable def flat:Val→Bool
 |.none|.bool _|.int _|.str _=>true
 |_=>false
noncomputable def eqF:Val→Val→Bool
 |.none,.none=>true
 |.bool a,.bool b=>a == b
 |.bool a,.int b=>(if a then 1 else 0) == b
 |.int a,.bool b=>a == (if b then 1 else 0)
 |.int a,.int b=>a == b
 |.str a,.str b=>a == b
 |_,_=>false
noncomputable def oC(a b:Val):Option Bool:=if a.isD&&b.isD&&decide (b.d.depth≤60) then some (PyData.eqv a.d b.d) else Option.none
noncomputable def intsOf:List Val→Option (List Int)
 |[]=>some []
 |.int i::vs=>(intsOf vs).map (i::·)
 |_=>Option.none
noncomputable def Val.isN:Val→Bool
 |.none=>true
 |_=>false
noncomputable def inD(x:Val)(vs:List Val):Bool:=x.isD&&xh vs&&decide (x.d.depth≤60)
noncomputable def zT(op:Cop)(x y:Val)(s:Sto):Out Val:=
 match op with
 |.eq=>match x,y with
  |.str a,.str b=>.ok (.bool (decide (a=b))) s
  |_,_=>match oC (zr s x) (zr s y) with|some b=>.ok (.bool b) s|Option.none=>.stuck
 |.ne=>match x,y with
  |.str a,.str b=>.ok (.bool !(decide (a=b))) s
  |_,_=>match oC (zr s x) (zr s y) with|some b=>.ok (.bool !b) s|Option.none=>.stuck
 |.is=>match y with|.none=>.ok (.bool x.isN) s|.bool b=>(match x with|.bool a=>.ok (.bool (decide (a=b))) s|_=>.stuck)|_=>.stuck
 |.isNot=>match y with|.none=>.ok (.bool !x.isN) s|.bool b=>(match x with|.bool a=>.ok (.bool !(decide (a=b))) s|_=>.stuck)|_=>.stuck
 |.in_=>match xm s y with
  |some vs=>if flat x&&vs.all flat then .ok (.bool (vs.any fun z=>eqF z x)) s else if inD x vs then .ok (.bool (vs.any fun z=>PyData.eqv z.d x.d)) s else .stuck
  |Option.none=>.stuck
 |.notIn=>match xm s y with
  |some vs=>if flat x&&vs.all flat then .ok (.bool !(vs.any fun z=>eqF z x)) s else if inD x vs then .ok (.bool !(vs.any fun z=>PyData.eqv z.d x.d)) s else .stuck
  |Option.none=>.stuck
 |.lt=>match x,y with|.int i,.int j=>.ok (.bool (decide (i<j))) s|_,_=>.stuck
 |.le=>match x,y with|.int i,.int j=>.ok (.bool (decide (i≤j))) s|_,_=>.stuck
 |.gt=>match x,y with|.int i,.int j=>.ok (.bool (decide (j<i))) s|_,_=>.stuck
 |.ge=>match x,y with|.int i,.int j=>.ok (.bool (decide (j≤i))) s|_,_=>.stuck
noncomputable def binOp(m:Bool)(op:Bop)(x y:Val)(s:Sto):Out Val:=
 match op with
 |.add=>match x,y with
  |.int i,.int j=>.ok (.int (i+j)) s
  |.str a,.str b=>if a.length+b.length≤zP then .ok (.str (a++b)) s else .stuck
  |.tup a,.tup b=>if a.length+b.length≤zP then .ok (.tup (a++b)) s else .stuck
  |_,_=>match yN s x,yN s y with
   |some a,some b=>if a.length+b.length≤zP then newList m (a++b) s else .stuck
   |_,_=>.stuck
 |.sub=>match x,y with|.int i,.int j=>.ok (.int (i-j)) s|_,_=>.stuck
 |.mul=>match x,y with
  |.int i,.int j=>if (-(2 ^ 64)<i∧i<2 ^ 64)∨(-(2 ^ 64)<j∧j<2 ^ 64) then .ok (.int (i*j)) s else .stuck
  |.tup a,.int k=>if -1000≤k∧k≤1000∧a≠[]∧a.length≤1000 then .ok (.tup (List.replicate k.toNat a).flatten) s else .stuck
  |_,.int k=>match yN s x with
   |some a=>if -1000≤k∧k≤1000∧a.length*k.toNat≤zP then newList m (List.replicate k.toNat a).flatten s else .stuck
   |Option.none=>.stuck
  |_,_=>.stuck
 |.fdiv=>match x,y with|.int i,.int j=>if 0<j∧j<1073741824 then .ok (.int (i/j)) s else .stuck|_,_=>.stuck
 |.mod=>match x,y with|.int i,.int j=>if 0<j then .ok (.int (i%j)) s else .stuck|_,_=>.stuck
 |.pow=>match x,y with|.int i,.int j=>if 0≤j∧j≤1000000∧i.natAbs<2 ^ 64 then .ok (.int (i ^ j.toNat)) s else .stuck|_,_=>.stuck
 |.shl=>match x,y with|.int i,.int j=>if 0≤j∧j≤1000000∧i.natAbs<2 ^ 64 then .ok (.int (i*2 ^ j.toNat)) s else .stuck|_,_=>.stuck
 |.shr=>match x,y with|.int i,.int j=>if 0≤j then .ok (.int (i/2 ^ j.toNat)) s else .stuck|_,_=>.stuck
 |.band=>match x,y with|.int i,.int j=>.ok (.int (Builtin.bitAnd i j)) s|_,_=>.stuck
noncomputable def kindOf:Val→Option L2.Kd
 |.none=>some .non
 |.bool _=>some .bl
 |.int _=>some .int
 |.str _=>some .str
 |.tup _=>some .tup
 |.lst _=>some .lst
 |.dct0=>some .dct
 |.ref _=>some .lst
 |_=>Option.none
noncomputable def yv:String→Option L2.Kd
 |"bool"=>some .bl
 |"int"=>some .int
 |"str"=>some .str
 |"list"=>some .lst
 |"tuple"=>some .tup
 |"dict"=>some .dct
 |_=>Option.none
noncomputable def boolsOf:List Val→Option (List Bool)
 |[]=>some []
 |.bool b::vs=>(boolsOf vs).map (b::·)
 |_=>Option.none
noncomputable def pairsOf:List Val→Option (List (Int × Int))
 |[]=>some []
 |.tup [.int a,.int b]::vs=>(pairsOf vs).map ((a,b)::·)
 |_=>Option.none
noncomputable def prV(z:Int × Int):Val:=.tup [.int z.1,.int z.2]
noncomputable def nc(z:Int × Int):List (Int × Int)→List (Int × Int)
 |[]=>[z]
 |y::ys=>if L2.zo z≤L2.zo y then z::y::ys else y::nc z ys
noncomputable def ui:List (Int × Int)→List (Int × Int)
 |[]=>[]
 |z::zs=>nc z (ui zs)
noncomputable def pe:List Val→Option (List (List Int))
 |[]=>some []
 |.tup a::vs=>match intsOf a,pe vs with
  |some z,some zs=>some (z::zs)
  |_,_=>Option.none
 |_=>Option.none
noncomputable def fE(zs:List (List Int)):Bool:=decide (zs.length<2)||match zs with
 |[]=>true
 |z::_=>decide (0<z.length)&&zs.all (fun y=>decide (y.length=z.length))&&(List.range (zs.length-1)).all fun i=>!L2.oM (zs.getD (i+1) []) (zs.getD i [])
noncomputable def pQ(m:Bool)(vs:List Val)(s:Sto):Out Val:=match pe vs with
 |some zs=>if fE zs then newList m vs s else .stuck
 |Option.none=>.stuck
noncomputable def blt(f:Bf)(m:Bool)(xs:List Val)(s:Sto):Out Val:=
 match f with
 |.len=>match xs with
  |[.str x]=>if x.length≤zP then .ok (.int x.length) s else .stuck
  |[x]=>match xm s x with|some vs=>.ok (.int vs.length) s|Option.none=>.stuck
  |_=>.stuck
 |.all=>match xs with
  |[x]=>match yN s x with|some vs=>(match boolsOf vs with|some bs=>.ok (.bool (bs.all id)) s|Option.none=>.stuck)|Option.none=>.stuck
  |_=>.stuck
 |.any=>.stuck
 |.tuple=>match xs with
  |[.tup vs]=>.ok (.tup vs) s
  |[x]=>match yN s x with|some vs=>.ok (.tup vs) s|Option.none=>.stuck
  |_=>.stuck
 |.list=>match xs with
  |[x]=>match xm s x with|some vs=>newList m vs s|Option.none=>.stuck
  |_=>.stuck
 |.repr=>match xs with
  |[x]=>if (zr s x).isR&&tG (zr s x).d then .ok (.str (zr s x).d.shown) s else .stuck
  |_=>.stuck
 |.max=>match xs with
  |[.int i,.int j]=>.ok (.int (if j > i then j else i)) s
  |[x]=>match yN s x with|some vs=>(match M.intsOf vs with|some ns=>if ns≠[] then .ok (.int (L2.tU 0 ns)) s else .stuck|Option.none=>.stuck)|Option.none=>.stuck
  |_=>.stuck
 |.min=>match xs with
  |[.int i,.int j]=>.ok (.int (if j<i then j else i)) s
  |[x]=>match yN s x with|some vs=>(match M.intsOf vs with|some ns=>if ns≠[] then .ok (.int (L2.sm 0 ns)) s else .stuck|Option.none=>.stuck)|Option.none=>.stuck
  |_=>.stuck
 |.int=>match xs with
  |[.int i]=>.ok (.int i) s
  |[.bool b]=>.ok (.int (if b then 1 else 0)) s
  |_=>.stuck
 |.isi=>match xs with
  |[x,.ty n]=>match kindOf x,yv n with|some a,some c=>.ok (.bool (a.sub c)) s|_,_=>.stuck
  |_=>.stuck
 |.divmod=>match xs with
  |[.int i,.int j]=>if 0<j∧j<1073741824 then .ok (.tup [.int (i/j),.int (i%j)]) s else .stuck
  |_=>.stuck
 |.str=>match xs with
  |[.int i]=>if i.natAbs.log2<1920 then .ok (.str (toString i)) s else .stuck
  |_=>.stuck
 |.sum=>.stuck
 |.sorted=>match xs with
  |[x]=>match yN s x with
   |some vs=>(match pairsOf vs with
    |some zs=>if zs.length<64∧zs.Nodup∧∀z∈zs,0≤z.2∧z.2<1000 then newList m ((ui zs).map prV) s else pQ m vs s
    |Option.none=>pQ m vs s)
   |Option.none=>.stuck
  |_=>.stuck
noncomputable def upd(s:Sto)(i:Nat)(vs:List Val):Sto:=s.set i (.lst vs)
noncomputable def yi(f:Mf)(o:Val)(xs:List Val)(s:Sto):Out Val:=
 match f with
 |.count=>match o,xs with
  |.tup vs,[y]=>if flat y&&vs.all flat then .ok (.int (vs.countP fun z=>eqF z y:Nat)) s else .stuck
  |_,[y]=>match yN s o with|some vs=>if flat y&&vs.all flat then .ok (.int (vs.countP fun z=>eqF z y:Nat)) s else .stuck|Option.none=>.stuck
  |_,_=>.stuck
 |.append=>match o,xs with
  |.ref i,[y]=>match s[i]? with|some (.lst vs)=>if vs.length<zP then .ok .none (upd s i (vs++[y])) else .stuck|Option.none=>.stuck
  |_,_=>.stuck
 |.extend=>match o,xs with
  |.ref i,[y]=>match s[i]?,yN s y with|some (.lst vs),some ws=>if vs.length+ws.length≤zP then .ok .none (upd s i (vs++ws)) else .stuck|_,_=>.stuck
  |_,_=>.stuck
 |.pop=>.stuck
 |.index=>.stuck
noncomputable def xw(a b:Val)(s:Sto):Out Val:=
 match b with
 |.int i=>match xm s a with|some vs=>(match L2.atI vs i with|some v=>.ok v s|Option.none=>.stuck)|Option.none=>.stuck
 |_=>.stuck
noncomputable def xu{α:Type}(xs:List α)(lo hi:Option Int):List α:=(xs.drop (HT.sIx xs.length 0 lo)).take (HT.sIx xs.length xs.length hi-HT.sIx xs.length 0 lo)
noncomputable def wU(m:Bool)(a:Val)(lo hi st:Option Int)(s:Sto):Out Val:=
 match a,st with
 |.tup vs,Option.none=>.ok (.tup (xu vs lo hi)) s
 |.tup vs,some c=>if c≠0∧(L2.yB vs.length lo hi c).2≤zP then .ok (.tup (L2.zb vs (L2.yB vs.length lo hi c).1 c (L2.yB vs.length lo hi c).2)) s else .stuck
 |_,Option.none=>match yN s a with|some vs=>newList m (xu vs lo hi) s|Option.none=>.stuck
 |_,some c=>match yN s a with|some vs=>if c≠0 then newList m (L2.zb vs (L2.xf vs.length lo hi c).1 c (L2.xf vs.length lo hi c).2) s else .stuck|Option.none=>.stuck
noncomputable def Yx(m:Bool)(x y z:Val)(s:Sto):Out Val:=match x,y,z with
 |.int i,.int j,.int k=>if -(2 ^ 30)≤i∧i≤2 ^ 30∧-(2 ^ 30)≤j∧j≤2 ^ 30∧0<k∧k≤2 ^ 29∧Builtin.Range.rangeSize i j k≤1000 then newList m ((L2.Z0 i j k).map .int) s else .stuck
 |_,_,_=>.stuck
noncomputable def yS(t:Tgt)(v:Val)(env:Env):Option Env:=
 match t with
 |.nm i=>some (env.set i (some v))
 |.nms is=>match v with
  |.tup vs=>if vs.length=is.length then some ((is.zip vs).foldl (fun e p=>e.set p.1 (some p.2)) env) else Option.none
  |_=>Option.none
structure Src where
 xs:List Val
 at_:Option Nat
noncomputable def Src.ok(r:Src)(s:Sto):Bool:=match r.at_ with
 |Option.none=>true
 |some i=>match s[i]? with
  |some (.lst vs)=>qi vs r.xs
  |Option.none=>false
noncomputable def WB:List Val→List Val→List Val
 |v::vs,w::ws=>.tup [v,w]::WB vs ws
 |_,_=>[]
noncomputable def yC(n:Nat):List Val→List Val
 |[]=>[]
 |v::vs=>.tup [.int n,v]::yC (n+1) vs
noncomputable def srcOf(s:Sto):Val→Option Src
 |.tup vs=>some ⟨vs,Option.none⟩
 |.lst vs=>some ⟨vs,Option.none⟩
 |.ctup ns=>some ⟨ns.map .int,Option.none⟩
 |.ref i=>match s[i]? with
  |some (.lst vs)=>some ⟨vs,some i⟩
  |Option.none=>Option.none
 |_=>Option.none
noncomputable def zi(lo:Int)(n:Nat):List Val:=(List.range n).map fun(k:Nat)=>Val.int (lo+k)
noncomputable def yV(r:Src)(t:Tgt)(body:Env→Sto→List Val→Out (List Val × Env)):List Val→Env→Sto→List Val→Out (List Val × Env)
 |[],env,s,acc=>if r.ok s then .ok (acc,env) s else .stuck
 |x::xs,env,s,acc=>if r.ok s then match yS t x env with
    |Option.none=>.stuck
    |some env'=>(body env' s acc).bind fun p s'=>yV r t body xs p.2 s' p.1
  else .stuck
noncomputable def zG(fr:List (Option Nat))(env:Env):Env:=fr.map fun o=>match o with|some j=>(env[j]?).join|Option.none=>Option.none
inductive Fl
 |nx (env:Env)|bk (env:Env)|ct (env:Env)|rt (v:Val)
noncomputable def vF(r:Src)(t:Tgt)(body:Env→Sto→Out Fl):List Val→Env→Sto→Out Fl
 |[],env,s=>if r.ok s then .ok (.nx env) s else .stuck
 |x::xs,env,s=>if r.ok s then match yS t x env with
    |Option.none=>.stuck
    |some env'=>(body env' s).bind fun fl s'=>match fl with
     |.nx e=>vF r t body xs e s'
     |.ct e=>vF r t body xs e s'
     |.bk e=>.ok (.nx e) s'
     |.rt v=>.ok (.rt v) s'
  else .stuck
noncomputable def vO(c:Env→Sto→Out Bool)(body:Env→Sto→Out Fl):Nat→Env→Sto→Out Fl
 |0,_,_=>.stuck
 |n+1,env,s=>(c env s).bind fun b s1=>if b then (body env s1).bind fun fl s2=>match fl with
    |.nx e=>vO c body n e s2
    |.ct e=>vO c body n e s2
    |.bk e=>.ok (.nx e) s2
    |.rt v=>.ok (.rt v) s2
  else .ok (.nx env) s1
noncomputable def pq:Nat:=100000
section
variable (Φ:Calls)(G:Str→Option Val)
mutual
noncomputable def evE(env:Env):Ex→Sto→Out Val
 |.lit v,s=>.ok v s
 |.var i,s=>match env[i]? with|some (some v)=>.ok v s|_=>.stuck
 |.gl x,s=>match G x with|some v=>.ok v s|Option.none=>.stuck
 |.ty _ n,s=>.ok (.ty n) s
 |.bin m op a b,s=>(evE env a s).bind fun x s1=>(evE env b s1).bind fun y s2=>binOp m op x y s2
 |.neg a,s=>(evE env a s).bind fun x s1=>match x with|.int i=>.ok (.int (-i)) s1|_=>.stuck
 |.not a,s=>(evE env a s).bind fun x s1=>match x with|.bool b=>.ok (.bool !b) s1|_=>.stuck
 |.cmp op a b,s=>(evE env a s).bind fun x s1=>(evE env b s1).bind fun y s2=>zT op x y s2
 |.chain op op' a b c,s=>(evE env a s).bind fun x s1=>(evE env b s1).bind fun y s2=>(zT op x y s2).bind fun r s3=>match r with
  |.bool true=>(evE env c s3).bind fun z s4=>zT op' y z s4
  |.bool false=>.ok (.bool false) s3
  |_=>.stuck
 |.andE a es,s=>match es with
  |.nil=>evE env a s
  |.cons _ _=>(evE env a s).bind fun x s1=>match x with
   |.bool true=>tS env es s1
   |.bool false=>.ok (.bool false) s1
   |_=>.stuck
 |.orE a es,s=>match es with
  |.nil=>evE env a s
  |.cons _ _=>(evE env a s).bind fun x s1=>match truth s1 x with
   |some false=>oD env es s1
   |some true=>.ok x s1
   |Option.none=>.stuck
 |.ife c a b,s=>(evT env c s).bind fun t s1=>if t then evE env a s1 else evE env b s1
 |.tup es,s=>(yr env es s).bind fun vs s1=>if vs.length≤zP then .ok (.tup vs) s1 else .stuck
 |.lst m es,s=>(yr env es s).bind fun vs s1=>if vs.length≤zP then newList m vs s1 else .stuck
 |.dct0,s=>.ok .dct0 s
 |.call f ver es,s=>(yr env es s).bind fun vs s1=>Φ f ver vs s1
 |.blt f m es,s=>(yr env es s).bind fun vs s1=>blt f m vs s1
 |.maxD a d,s=>(evE env a s).bind fun x s1=>(evE env d s1).bind fun y s2=>match y with
  |.int k=>(match yN s2 x with|some vs=>(match intsOf vs with|some ns=>.ok (.int (L2.tU k ns)) s2|Option.none=>.stuck)|Option.none=>.stuck)
  |_=>.stuck
 |.yi f _ o es,s=>(evE env o s).bind fun x s1=>(yr env es s1).bind fun vs s2=>yi f x vs s2
 |.ix a b,s=>(evE env a s).bind fun x s1=>(evE env b s1).bind fun y s2=>xw x y s2
 |.sl m a lo hi st,s=>(evE env a s).bind fun x s1=>(evO env lo s1).bind fun l s2=>(evO env hi s2).bind fun h s3=>(evO env st s3).bind fun c s4=>wU m x l h c s4
 |.comp m _ fr elt t it ifs,s=>(yT env it s).bind fun r s1=>
  (yV r t (fun e s' acc=>(yu e ifs s').bind fun b s2=>if b then (evE e elt s2).bind fun v s3=>.ok (acc++[v],e) s3 else .ok (acc,e) s2) r.xs (zG fr env) s1 []).bind fun p s2=>newList m p.1 s2
 |.comp2 m _ fr elt t it ifs t2 it2 ifs2,s=>(yT env it s).bind fun r s1=>
  (yV r t (fun e s' acc=>(yu e ifs s').bind fun b s2=>if b then (yT e it2 s2).bind fun r2 s3=>
      yV r2 t2 (fun e' s4 acc'=>(yu e' ifs2 s4).bind fun b' s5=>if b' then (evE e' elt s5).bind fun v s6=>.ok (acc'++[v],e') s6 else .ok (acc',e') s5) r2.xs e s3 acc
   else .ok (acc,e) s2) r.xs (zG fr env) s1 []).bind fun p s2=>if p.1.length≤zP then newList m p.1 s2 else .stuck
 |.listRange m a b c,s=>(evE env a s).bind fun x s1=>(evE env b s1).bind fun y s2=>(evE env c s2).bind fun z s3=>Yx m x y z s3
noncomputable def tS(env:Env):Exs→Sto→Out Val
 |.nil,_=>.stuck
 |.cons a es,s=>match es with
  |.nil=>evE env a s
  |.cons _ _=>(evE env a s).bind fun x s1=>match x with
   |.bool true=>tS env es s1
   |.bool false=>.ok (.bool false) s1
   |_=>.stuck
noncomputable def oD(env:Env):Exs→Sto→Out Val
 |.nil,_=>.stuck
 |.cons a es,s=>match es with
  |.nil=>evE env a s
  |.cons _ _=>(evE env a s).bind fun x s1=>match truth s1 x with
   |some false=>oD env es s1
   |some true=>.ok x s1
   |Option.none=>.stuck
noncomputable def yr(env:Env):Exs→Sto→Out (List Val)
 |.nil,s=>.ok [] s
 |.cons e es,s=>(evE env e s).bind fun v s1=>(yr env es s1).bind fun vs s2=>.ok (v::vs) s2
noncomputable def evO(env:Env):OEx→Sto→Out (Option Int)
 |.no,s=>.ok Option.none s
 |.yes e,s=>(evE env e s).bind fun v s1=>match v with|.int i=>.ok (some i) s1|_=>.stuck
/-- a test -/
noncomputable def evT(env:Env):Cn→Sto→Out Bool
 |.val e,s=>(evE env e s).truth
 |.not a,s=>(evT env a s).bind fun b s1=>.ok (!b) s1
 |.and a es,s=>(evT env a s).bind fun b s1=>if b then yu env es s1 else .ok false s1
 |.or a es,s=>(evT env a s).bind fun b s1=>if b then .ok true s1 else tZ env es s1
noncomputable def yu(env:Env):Cns→Sto→Out Bool
 |.nil,s=>.ok true s
 |.cons a es,s=>(evT env a s).bind fun b s1=>if b then yu env es s1 else .ok false s1
noncomputable def tZ(env:Env):Cns→Sto→Out Bool
 |.nil,s=>.ok false s
 |.cons a es,s=>(evT env a s).bind fun b s1=>if b then .ok true s1 else tZ env es s1
noncomputable def yT(env:Env):Itb→Sto→Out Src
 |.val e,s=>(evE env e s).bind fun v s1=>match srcOf s1 v with|some r=>.ok r s1|Option.none=>.stuck
 |.range1 a,s=>(evE env a s).bind fun x s1=>match x with
  |.int j=>if -(2 ^ 62)≤j∧j≤zP then .ok ⟨zi 0 j.toNat,Option.none⟩ s1 else .stuck
  |_=>.stuck
 |.range2 a b,s=>(evE env a s).bind fun x s1=>(evE env b s1).bind fun y s2=>match x,y with
  |.int i,.int j=>if -(2 ^ 62)≤i∧i<2 ^ 62∧-(2 ^ 62)≤j∧j<2 ^ 62∧j-i≤zP then .ok ⟨zi i (j-i).toNat,Option.none⟩ s2 else .stuck
  |_,_=>.stuck
 |.enum e,s=>(evE env e s).bind fun v s1=>match v with
  |.tup vs=>.ok ⟨yC 0 vs,Option.none⟩ s1
  |.lst vs=>.ok ⟨yC 0 vs,Option.none⟩ s1
  |_=>.stuck
 |.zip a b,s=>(evE env a s).bind fun x s1=>(evE env b s1).bind fun y s2=>match x,y with
  |.tup vs,.tup ws=>if vs.length=ws.length then .ok ⟨WB vs ws,Option.none⟩ s2 else .stuck
  |_,_=>.stuck
end
mutual
noncomputable def exS(env:Env):Sm→Sto→Out Fl
 |.expr e,s=>(evE Φ G env e s).bind fun _ s1=>.ok (.nx env) s1
 |.ret e,s=>(evE Φ G env e s).bind fun v s1=>.ok (.rt v) s1
 |.retN,s=>.ok (.rt .none) s
 |.asg i e,s=>(evE Φ G env e s).bind fun v s1=>.ok (.nx (env.set i (some v))) s1
 |.asgT is e,s=>(evE Φ G env e s).bind fun v s1=>match yS (.nms is) v env with|some env'=>.ok (.nx env') s1|Option.none=>.stuck
 |.par is es,s=>(yr Φ G env es s).bind fun vs s1=>if vs.length=is.length then .ok (.nx ((is.zip vs).foldl (fun e p=>e.set p.1 (some p.2)) env)) s1 else .stuck
 |.aug i op e,s=>match env[i]? with
  |some (some (.int x))=>(evE Φ G env e s).bind fun v s1=>match v with
   |.int y=>(binOp false op (.int x) (.int y) s1).bind fun z s2=>.ok (.nx (env.set i (some z))) s2
   |_=>.stuck
  |_=>.stuck
 |.setIx o i e,s=>(evE Φ G env e s).bind fun v s1=>(evE Φ G env o s1).bind fun x s2=>(evE Φ G env i s2).bind fun y s3=>match x,y with
  |.ref r,.int k=>(match s3[r]? with
   |some (.lst vs)=>(match L2.ixN vs.length k with|some j=>.ok (.nx env) (upd s3 r (vs.set j v))|Option.none=>.stuck)
   |Option.none=>.stuck)
  |_,_=>.stuck
 |.ifS c a b,s=>(evT Φ G env c s).bind fun t s1=>if t then zZ env a s1 else zZ env b s1
 |.forS t it b,s=>(yT Φ G env it s).bind fun r s1=>vF r t (fun e s'=>zZ e b s') r.xs env s1
 |.whileS c b,s=>vO (fun e s'=>evT Φ G e c s') (fun e s'=>zZ e b s') pq env s
 |.pass,s=>.ok (.nx env) s
 |.brk,s=>.ok (.bk env) s
 |.cont,s=>.ok (.ct env) s
 |.raise _,_=>.stuck
noncomputable def zZ(env:Env):Sms→Sto→Out Fl
 |.nil,s=>.ok (.nx env) s
 |.cons c cs,s=>(exS env c s).bind fun fl s1=>match fl with
  |.nx e=>zZ e cs s1
  |fl=>.ok fl s1
end
end
noncomputable def zK(N:List Str)(vs:List Val):Env:=vs.map some++List.replicate (N.length-vs.length) Option.none
noncomputable def leave(F:Fn)(s0:Sto)(v:Val)(s:Sto):Out Val:=
 if F.keep then .ok v s
 else if wC s0 s then (match freeze s0.length s v with|some v'=>.ok v' (s.take s0.length)|Option.none=>.stuck) else .stuck
structure Tbl where
 fn:Str→Nat→Option Fn
 gl:Str→Option Val
noncomputable def run(T:Tbl)(Φ:Calls)(F:Fn)(vs:List Val)(s:Sto):Out Val:=
 if vs.length=F.ps.length then (zZ Φ T.gl (zK F.N vs) F.body s).bind fun fl s1=>match fl with
  |.nx _=>leave F s .none s1
  |.rt v=>leave F s v s1
  |_=>.stuck
 else .stuck
noncomputable def zH(T:Tbl):Nat→Calls
 |0=>fun _ _ _ _=>.stuck
 |n+1=>fun f ver vs s=>match T.fn f ver with|some F=>run T (zH T n) F vs s|Option.none=>.stuck
end M
end
section
namespace M
open PySem
noncomputable abbrev KF:=PySem.W.Frag
structure Own where
 o:List Addr
 h:List Addr
def Own.no(ρ:Own)(a:Addr):Prop:=a ∉ ρ.o∧a ∉ ρ.h
def KT(K:KF)(a:Addr)(xs:List L2.V):Prop:=∃(o:Obj) (its:Array Value) (n:Nat),K.lookup a=some o∧o.cls=.type "tuple"∧o.data=.seq its n∧its.size≤sizeLine∧L2.Vals xs its.toList
def SC(K:KF)(ρ:Own)(H:L2.Hp)(a:Addr)(xs:List L2.V):Prop:=(ρ.no a∧L2.Rd H a (.lst xs)) ∨
 ∃(o:Obj) (its:Array Value) (n:Nat),K.lookup a=some o∧o.cls=.type "list"∧o.dict=none∧o.data=.seq its n∧its.size≤sizeLine∧L2.Vals xs its.toList
mutual
inductive RD(K:KF)(mg:Str→Option Value)(ρ:Own)(H:L2.Hp):Val→L2.V→Prop
 |none:RD K mg ρ H .none .non
 |bool (b:Bool):RD K mg ρ H (.bool b) (.bl b)
 |int (i:Int):RD K mg ρ H (.int i) (.int i)
 |str (x:Str):RD K mg ρ H (.str x) (.str x)
 |tup {a:Addr} {vs:List Val} {xs:List L2.V}:ρ.no a→H a=some (.tup xs)→RDs K mg ρ H vs xs→RD K mg ρ H (.tup vs) (.ref a)
 |lst {a:Addr} {vs:List Val} {xs:List L2.V}:ρ.no a→H a=some (.lst xs)→RDs K mg ρ H vs xs→RD K mg ρ H (.lst vs) (.ref a)
 |dct0 {a:Addr}:ρ.no a→H a=some (.dK [])→RD K mg ρ H .dct0 (.ref a)
 |ctup {a:Addr} {ns:List Int}:KT K a (ns.map L2.V.int)→RD K mg ρ H (.ctup ns) (.ref a)
 |scr {a:Addr} {ns:List Int}:SC K ρ H a (ns.map L2.V.int)→RD K mg ρ H (.scr ns) (.ref a)
 |ref {a:Addr} {i:Nat}:ρ.o[i]?=some a→RD K mg ρ H (.ref i) (.ref a)
 |fn {x:Str} {f:Addr}:mg x=some (.ref f)→RD K mg ρ H (.fn x) (.ref f)
 |ty (n:String):RD K mg ρ H (.ty n) (.ty n)
inductive RDs(K:KF)(mg:Str→Option Value)(ρ:Own)(H:L2.Hp):List Val→List L2.V→Prop
 |nil:RDs K mg ρ H [] []
 |cons {v:Val} {x:L2.V} {vs:List Val} {xs:List L2.V}:RD K mg ρ H v x→RDs K mg ρ H vs xs→RDs K mg ρ H (v::vs) (x::xs)
end
structure HR(K:KF)(mg:Str→Option Value)(ρ:Own)(s:Sto)(H:L2.Hp):Prop where
 len:ρ.o.length=s.length
 nd:ρ.o.Nodup
 obj:∀(i:Nat) (vs:List Val),s[i]?=some (Cel.lst vs)→∃(a:Addr) (xs:List L2.V),ρ.o[i]?=some a∧H a=some (.lst xs)∧RDs K mg ρ H vs xs
 hid:∀a∈ρ.h,(∃xs,H a=some (.lst xs))∧a ∉ ρ.o
structure Ext(ρ:Own)(H:L2.Hp)(ρ':Own)(H':L2.Hp):Prop where
 pre:∃new:List Addr,ρ'.o=ρ.o++new∧∀a∈new,H a=none
 hid:ρ'.h=ρ.h
 keep:∀(a:Addr) (o:L2.HO),H a=some o→a ∉ ρ.o→H' a=some o
structure ER(K:KF)(mg:Str→Option Value)(ρ:Own)(H:L2.Hp)(env:Env)(σ:L2.St):Prop where
 len:env.length=σ.length
 at_:∀(i:Nat) (v:Val),env[i]?=some (some v)→∃x:L2.V,σ[i]?=some (some x)∧RD K mg ρ H v x
section
variable {K:KF}{mg:Str→Option Value}{ρ ρ' ρ'':Own}{H H' H'':L2.Hp}{s s':Sto}
theorem HR.trk(h:HR K mg ρ s H){a:Addr}(ha:a∈ρ.o):∃xs,H a=some (.lst xs):=by
 obtain⟨i,hi,e⟩:=List.getElem_of_mem ha
 have hs:i<s.length:=by rw[←h.len];exact hi
 cases hc:s[i] with
 |lst vs=>
  obtain⟨b,xs,e1,e2,_⟩:=h.obj i vs (by rw[List.getElem?_eq_getElem hs,hc])
  rw[List.getElem?_eq_getElem hi,e]at e1
  cases e1
  exact⟨xs,e2⟩
theorem HR.new(h:HR K mg ρ s H){p:Addr}(hp:H p=none):ρ.no p:=by
 refine⟨fun hm=>?_,fun hm=>?_⟩
 . obtain⟨xs,e⟩:=h.trk hm
   rw[hp]at e;cases e
 . obtain⟨⟨xs,e⟩,_⟩:=h.hid p hm
   rw[hp]at e;cases e
theorem Ext.refl:Ext ρ H ρ H:=⟨⟨[],by simp,fun a ha=>by cases ha⟩,rfl,fun a o e _=>e⟩
theorem Ext.Y1(x:Ext ρ H ρ' H'){a:Addr}{o:L2.HO}(e:H a=some o)(n:ρ.no a):ρ'.no a:=by
 obtain⟨new,e1,hn⟩:=x.pre
 refine⟨?_,by rw[x.hid];exact n.2⟩
 rw[e1]
 intro hm
 rcases List.mem_append.mp hm with hm|hm
 . exact n.1 hm
 . rw[hn a hm]at e;cases e
theorem Ext.get(x:Ext ρ H ρ' H'){i:Nat}{a:Addr}(e:ρ.o[i]?=some a):ρ'.o[i]?=some a:=by
 obtain⟨new,e1,hn⟩:=x.pre
 have hi:i<ρ.o.length:=(List.getElem?_eq_some_iff.mp e).1
 rw[e1,List.getElem?_append_left hi];exact e
theorem Ext.trans(x:Ext ρ H ρ' H')(h:HR K mg ρ' s H')(y:Ext ρ' H' ρ'' H''):Ext ρ H ρ'' H'':=by
 obtain⟨new,e1,hn⟩:=x.pre
 obtain⟨new2,e2,hn2⟩:=y.pre
 refine⟨⟨new++new2,by rw[e2,e1,List.append_assoc],fun a ha=>?_⟩,y.hid.trans x.hid,fun a o e n=>y.keep a o (x.keep a o e n) ?_⟩
 . rcases List.mem_append.mp ha with ha|ha
   . exact hn a ha
   . cases q:H a with
     |none=>rfl
     |some o=>
      by_cases hm:a∈ρ.o
      . obtain⟨xs,e⟩:=h.trk (a:=a) (by rw[e1];exact List.mem_append_left _ hm)
        rw[hn2 a ha]at e;cases e
      . have:=x.keep a o q hm
        rw[hn2 a ha]at this;cases this
 . rw[e1]
   intro hm
   rcases List.mem_append.mp hm with hm|hm
   . exact n hm
   . rw[hn a hm]at e;cases e
theorem SC.sql{a:Addr}{xs:List L2.V}(h:SC K ρ H a xs):L2.SqL K H a xs:=by
 rcases h with⟨_,h⟩|h
 . exact .inl h
 . exact .inr h
theorem KT.sqt{a:Addr}{xs:List L2.V}(h:KT K a xs):L2.SqT K H a xs:=.inr h
structure Mv(ρ:Own)(H:L2.Hp)(ρ':Own)(H':L2.Hp):Prop where
 keep:∀(a:Addr) (o:L2.HO),H a=some o→ρ.no a→H' a=some o∧ρ'.no a
 get:∀(i:Nat) (a:Addr),ρ.o[i]?=some a→ρ'.o[i]?=some a
theorem Ext.mv(x:Ext ρ H ρ' H'):Mv ρ H ρ' H':=⟨fun a o e n=>⟨x.keep a o e n.1,x.Y1 e n⟩,fun i a e=>x.get e⟩
theorem SC.mv{a:Addr}{xs:List L2.V}(x:Mv ρ H ρ' H')(h:SC K ρ H a xs):SC K ρ' H' a xs:=by
 rcases h with⟨n,h|⟨o,h⟩⟩|h
 . exact .inl ⟨(x.keep _ _ h n).2,.inl (x.keep _ _ h n).1⟩
 . exact .inl ⟨(x.keep _ _ h n).2,.inr ⟨o,(x.keep _ _ h n).1⟩⟩
 . exact .inr h
end
mutual
theorem RD.mv{K:KF}{mg:Str→Option Value}{ρ ρ':Own}{H H':L2.Hp}(x:Mv ρ H ρ' H'):∀{v:Val} {u:L2.V},RD K mg ρ H v u→RD K mg ρ' H' v u
 |_,_,.none=>.none
 |_,_,.bool b=>.bool b
 |_,_,.int i=>.int i
 |_,_,.str t=>.str t
 |_,_,.tup n e r=>.tup (x.keep _ _ e n).2 (x.keep _ _ e n).1 (RDs.mv x r)
 |_,_,.lst n e r=>.lst (x.keep _ _ e n).2 (x.keep _ _ e n).1 (RDs.mv x r)
 |_,_,.dct0 n e=>.dct0 (x.keep _ _ e n).2 (x.keep _ _ e n).1
 |_,_,.ctup h=>.ctup h
 |_,_,.scr h=>.scr (h.mv x)
 |_,_,.ref e=>.ref (x.get _ _ e)
 |_,_,.fn e=>.fn e
 |_,_,.ty n=>.ty n
theorem RDs.mv{K:KF}{mg:Str→Option Value}{ρ ρ':Own}{H H':L2.Hp}(x:Mv ρ H ρ' H'):∀{vs:List Val} {us:List L2.V},RDs K mg ρ H vs us→RDs K mg ρ' H' vs us
 |_,_,.nil=>.nil
 |_,_,.cons r rs=>.cons (RD.mv x r) (RDs.mv x rs)
end
theorem RD.mono{K:KF}{mg:Str→Option Value}{ρ ρ':Own}{H H':L2.Hp}{v:Val}{u:L2.V}(r:RD K mg ρ H v u)(x:Ext ρ H ρ' H'):RD K mg ρ' H' v u:=RD.mv x.mv r
theorem RDs.mono{K:KF}{mg:Str→Option Value}{ρ ρ':Own}{H H':L2.Hp}{v:List Val}{u:List L2.V}(r:RDs K mg ρ H v u)(x:Ext ρ H ρ' H'):RDs K mg ρ' H' v u:=RDs.mv x.mv r
end M
end
section
namespace M
open PySem
section
variable {K:KF}{mg:Str→Option Value}{ρ ρ' ρ'':Own}{H H' H'':L2.Hp}{s s':Sto}
theorem RDs.length:∀{vs:List Val} {xs:List L2.V},RDs K mg ρ H vs xs→vs.length=xs.length
 |_,_,.nil=>rfl
 |_,_,.cons _ r=>by rw[List.length_cons,List.length_cons,r.length]
theorem RDs.get:∀{vs:List Val} {xs:List L2.V} {i:Nat} {v:Val},RDs K mg ρ H vs xs→vs[i]?=some v→∃x,xs[i]?=some x∧RD K mg ρ H v x
 |_,_,_,_,.nil,e=>by simp at e
 |_,_,0,_,.cons r _,e=>by simp at e;subst e;exact⟨_,rfl,r⟩
 |_,_,i+1,v,.cons _ rs,e=>by
  obtain⟨x,h1,h2⟩:=RDs.get (i:=i) (v:=v) rs (by simpa using e)
  exact⟨x,by simpa using h1,h2⟩
theorem RDs.Ya:∀{vs:List Val} {xs:List L2.V} {i:Nat} {x:L2.V},RDs K mg ρ H vs xs→xs[i]?=some x→∃v,vs[i]?=some v∧RD K mg ρ H v x
 |_,_,_,_,.nil,e=>by simp at e
 |_,_,0,_,.cons r _,e=>by simp at e;subst e;exact⟨_,rfl,r⟩
 |_,_,i+1,v,.cons _ rs,e=>by
  obtain⟨x,h1,h2⟩:=RDs.Ya (i:=i) (x:=v) rs (by simpa using e)
  exact⟨x,by simpa using h1,h2⟩
theorem RDs.append:∀{vs ws:List Val} {xs ys:List L2.V},RDs K mg ρ H vs xs→RDs K mg ρ H ws ys→RDs K mg ρ H (vs++ws) (xs++ys)
 |_,_,_,_,.nil,r=>r
 |_,_,_,_,.cons r rs,q=>.cons r (rs.append q)
theorem RDs.take:∀{vs:List Val} {xs:List L2.V} (n:Nat),RDs K mg ρ H vs xs→RDs K mg ρ H (vs.take n) (xs.take n)
 |_,_,0,_=>.nil
 |_,_,_+1,.nil=>.nil
 |_,_,n+1,.cons r rs=>.cons r (rs.take n)
theorem RDs.drop:∀{vs:List Val} {xs:List L2.V} (n:Nat),RDs K mg ρ H vs xs→RDs K mg ρ H (vs.drop n) (xs.drop n)
 |_,_,0,r=>r
 |_,_,_+1,.nil=>.nil
 |_,_,n+1,.cons _ rs=>rs.drop n
theorem RDs.set{v:Val}{x:L2.V}(r:RD K mg ρ H v x):∀{vs:List Val} {xs:List L2.V} (i:Nat),RDs K mg ρ H vs xs→RDs K mg ρ H (vs.set i v) (xs.set i x)
 |_,_,_,.nil=>.nil
 |_,_,0,.cons _ t=>.cons r t
 |_,_,i+1,.cons q t=>.cons q (RDs.set r i t)
theorem RDs.rep{vs:List Val}{xs:List L2.V}(r:RDs K mg ρ H vs xs):∀k:Nat,RDs K mg ρ H (List.replicate k vs).flatten (List.replicate k xs).flatten
 |0=>.nil
 |k+1=>by
  rw[List.replicate_succ,List.replicate_succ,List.flatten_cons,List.flatten_cons]
  exact r.append (RDs.rep r k)
theorem RDs.pick{vs:List Val}{xs:List L2.V}(r:RDs K mg ρ H vs xs):∀(is:List Nat),RDs K mg ρ H (is.filterMap fun i=>vs[i]?) (is.filterMap fun i=>xs[i]?)
 |[]=>.nil
 |i::is=>by
  rw[List.filterMap_cons,List.filterMap_cons]
  cases hx:vs[i]? with
  |none=>
   have:xs[i]?=none:=by
    have h2:vs.length≤i:=List.getElem?_eq_none_iff.mp hx
    exact List.getElem?_eq_none_iff.mpr (by rw[←r.length];exact h2)
   rw[this];exact RDs.pick r is
  |some v=>
   obtain⟨u,hu,ru⟩:=r.get hx
   rw[hu]
   exact .cons ru (RDs.pick r is)
theorem RDs.zb{vs:List Val}{xs:List L2.V}(r:RDs K mg ρ H vs xs)(lo st:Int)(n:Nat):RDs K mg ρ H (L2.zb vs lo st n) (L2.zb xs lo st n):=by
 have h:=r.pick ((List.range n).map fun(k:Nat)=>(lo+(k:Int)*st).toNat)
 rw[List.filterMap_map,List.filterMap_map]at h
 exact h
theorem RDs.ints:∀(ns:List Int),RDs K mg ρ H (ns.map .int) (ns.map .int)
 |[]=>.nil
 |n::ns=>.cons (.int n) (RDs.ints ns)
theorem RDs.cut{vs:List Val}{xs:List L2.V}(r:RDs K mg ρ H vs xs)(lo hi:Option Int):RDs K mg ρ H (xu vs lo hi) (L2.rS xs lo hi):=by
 unfold xu L2.rS
 rw[r.length]
 exact(r.drop _).take _
theorem gP{α:Type}:∀{l:List α} {i j:Nat} {x:α},l.Nodup→l[i]?=some x→l[j]?=some x→i=j
 |[],_,_,_,_,e,_=>by simp at e
 |a::l,0,0,_,_,_,_=>rfl
 |a::l,0,j+1,x,nd,e1,e2=>by
  simp at e1 e2;subst e1
  exact absurd (List.mem_of_getElem? e2) (List.nodup_cons.mp nd).1
 |a::l,i+1,0,x,nd,e1,e2=>by
  simp at e1 e2;subst e2
  exact absurd (List.mem_of_getElem? e1) (List.nodup_cons.mp nd).1
 |a::l,i+1,j+1,x,nd,e1,e2=>by
  simp at e1 e2
  rw[gP (List.nodup_cons.mp nd).2 e1 e2]
theorem Ext.new(h:HR K mg ρ s H){p:Addr}(hp:H p=none)(o:L2.HO):Ext ρ H ρ (L2.upd H p o):=
 ⟨⟨[],by simp,fun a ha=>by cases ha⟩,rfl,fun a u e _=>by rw[L2.zS (L2.zV e hp)];exact e⟩
theorem HR.more(h:HR K mg ρ s H){p:Addr}(hp:H p=none)(o:L2.HO):HR K mg ρ s (L2.upd H p o):=by
 refine⟨h.len,h.nd,fun i vs e=>?_,fun a ha=>?_⟩
 . obtain⟨a,xs,e1,e2,r⟩:=h.obj i vs e
   exact⟨a,xs,e1,by rw[L2.zS (L2.zV e2 hp)];exact e2,r.mono (Ext.new h hp o)⟩
 . obtain⟨⟨xs,e⟩,n⟩:=h.hid a ha
   exact⟨⟨xs,by rw[L2.zS (L2.zV e hp)];exact e⟩,n⟩
noncomputable def Own.more(ρ:Own)(p:Addr):Own:=⟨ρ.o++[p],ρ.h⟩
theorem Ext.own(h:HR K mg ρ s H){p:Addr}(hp:H p=none)(o:L2.HO):Ext ρ H (ρ.more p) (L2.upd H p o):=
 ⟨⟨[p],rfl,fun a ha=>by rw[List.mem_singleton.mp ha];exact hp⟩,rfl,fun a u e _=>by rw[L2.zS (L2.zV e hp)];exact e⟩
theorem lu(h:HR K mg ρ s H)(p:Addr):(ρ.more p).o[s.length]?=some p:=by
 show (ρ.o++[p])[s.length]?=some p
 rw[←h.len,List.getElem?_append_right (Nat.le_refl _)];simp
theorem HR.own(h:HR K mg ρ s H){p:Addr}(hp:H p=none){vs:List Val}{xs:List L2.V}(r:RDs K mg ρ H vs xs):HR K mg (ρ.more p) (s++[.lst vs]) (L2.upd H p (.lst xs)):=by
 have X:=Ext.own h hp (.lst xs)
 refine⟨by show (ρ.o++[p]).length=_;rw[List.length_append,List.length_append,h.len];rfl,?_,fun i ws q=>?_,fun a ha=>?_⟩
 . show (ρ.o++[p]).Nodup
   rw[List.nodup_append]
   exact⟨h.nd,by simp,fun a ha b hb=>by rw[List.mem_singleton.mp hb];intro z;subst z;exact(h.new hp).1 ha⟩
 . by_cases hi:i<s.length
   . rw[List.getElem?_append_left hi]at q
     obtain⟨a,ys,e1,e2,t⟩:=h.obj i ws q
     exact⟨a,ys,X.get e1,by rw[L2.zS (L2.zV e2 hp)];exact e2,t.mono X⟩
   . have hi':i=s.length:=by
      have:=(List.getElem?_eq_some_iff.mp q).1
      rw[List.length_append]at this
      simp at this;omega
     subst hi'
     rw[List.getElem?_append_right (Nat.le_refl _)]at q
     simp at q
     subst q
     exact⟨p,xs,lu h p,L2.zt,r.mono X⟩
 . obtain⟨⟨ys,q⟩,n⟩:=h.hid a ha
   refine⟨⟨ys,by rw[L2.zS (L2.zV q hp)];exact q⟩,fun hm=>?_⟩
   rcases List.mem_append.mp hm with hm|hm
   . exact n hm
   . rw[List.mem_singleton.mp hm,hp]at q;cases q
theorem Ext.write(h:HR K mg ρ s H){i:Nat}{a:Addr}(e:ρ.o[i]?=some a)(o:L2.HO):Ext ρ H ρ (L2.upd H a o):=
 ⟨⟨[],by simp,fun a ha=>by cases ha⟩,rfl,fun b u q n=>by rw[L2.zS (fun z=>n (by rw[z];exact List.mem_of_getElem? e))];exact q⟩
theorem HR.write(h:HR K mg ρ s H){i:Nat}{a:Addr}(e:ρ.o[i]?=some a){vs:List Val}{xs:List L2.V}(r:RDs K mg ρ H vs xs):HR K mg ρ (upd s i vs) (L2.upd H a (.lst xs)):=by
 have X:=Ext.write h e (.lst xs)
 refine⟨by unfold upd;rw[List.length_set];exact h.len,h.nd,fun j ws q=>?_,fun b hb=>?_⟩
 . unfold upd at q
   by_cases hij:i=j
   . subst hij
     have hi:i<s.length:=by rw[←h.len];exact(List.getElem?_eq_some_iff.mp e).1
     rw[List.getElem?_set_self hi]at q
     cases q
     exact⟨a,xs,e,L2.zt,r.mono X⟩
   . rw[List.getElem?_set_ne hij]at q
     obtain⟨b,ys,e1,e2,t⟩:=h.obj j ws q
     refine⟨b,ys,e1,?_,t.mono X⟩
     have hb:b≠a:=by
      intro z
      subst z
      exact hij (gP h.nd e e1)
     rw[L2.zS hb];exact e2
 . obtain⟨⟨ys,q⟩,n⟩:=h.hid b hb
   exact⟨⟨ys,by rw[L2.zS (fun z=>n (by rw[z];exact List.mem_of_getElem? e))];exact q⟩,n⟩
theorem ER.mono{env:Env}{σ:L2.St}(x:Ext ρ H ρ' H')(h:ER K mg ρ H env σ):ER K mg ρ' H' env σ:=⟨h.len,fun i v e=>by
 obtain⟨u,h1,h2⟩:=h.at_ i v e
 exact⟨u,h1,h2.mono x⟩⟩
theorem ER.set{env:Env}{σ:L2.St}(h:ER K mg ρ H env σ)(i:Nat){v:Val}{x:L2.V}(r:RD K mg ρ H v x):ER K mg ρ H (env.set i (some v)) (σ.set i (some x)):=by
 refine⟨by rw[List.length_set,List.length_set,h.len],fun j w e=>?_⟩
 by_cases hij:i=j
 . subst hij
   by_cases hi:i<env.length
   . rw[List.getElem?_set_self hi]at e
     cases e
     exact⟨x,by rw[List.getElem?_set_self (by rw[←h.len];exact hi)],r⟩
   . rw[List.getElem?_eq_none (by rw[List.length_set];omega)]at e
     cases e
 . rw[List.getElem?_set_ne hij]at e
   rw[List.getElem?_set_ne hij]
   exact h.at_ j w e
end
section
variable (K:KF)(mg:Str→Option Value)
def yh{α β:Type}(R:Own→L2.Hp→α→β→Prop)(ρ:Own)(H:L2.Hp)(o:Out α)(Q:β→L2.Hp→Prop):Prop:=
 match o with
 |.ok v s'=>∀ρ' x H',Ext ρ H ρ' H'→HR K mg ρ' s' H'→R ρ' H' v x→Q x H'
 |_=>False
noncomputable def tV(env:Env)(s:Sto)(o:Out Val):L2.TE:=fun σ H Q=>∃ρ,HR K mg ρ s H∧ER K mg ρ H env σ∧yh K mg (RD K mg) ρ H o Q
noncomputable def tVs(env:Env)(s:Sto)(o:Out (List Val)):L2.TA:=fun σ H Q=>∃ρ,HR K mg ρ s H∧ER K mg ρ H env σ∧yh K mg (RDs K mg) ρ H o Q
noncomputable def tT(env:Env)(s:Sto)(o:Out Bool):L2.TT:=fun σ H Q=>∃ρ,HR K mg ρ s H∧ER K mg ρ H env σ∧yh K mg (fun _ _ a b=>a=b) ρ H o Q
noncomputable def tO(env:Env)(s:Sto)(o:Out (Option Int)):L2.TO:=fun σ H Q=>∃ρ,HR K mg ρ s H∧ER K mg ρ H env σ∧yh K mg (fun _ _ a b=>a=b) ρ H o Q
end
section
variable {X:L2.Cx}{e:Expr}
theorem zk{t t':L2.TE}(h:L2.PE X e t)(i:∀σ H Q,t' σ H Q→t σ H Q):L2.PE X e t':=fun pins s σ H Q I q=>h pins s σ H Q I (i σ H Q q)
theorem pM{t t':L2.TT}(h:L2.PT X e t)(i:∀σ H Q,t' σ H Q→t σ H Q):L2.PT X e t':=fun pins s σ H Q I q=>h pins s σ H Q I (i σ H Q q)
theorem gh{es:List Expr}{t t':L2.TA}(h:L2.PA X es t)(i:∀σ H Q,t' σ H Q→t σ H Q):L2.PA X es t':=fun pos pins s σ H Q I q=>h pos pins s σ H Q I (i σ H Q q)
theorem wD{st:Stmt}{t t':L2.TS}(h:L2.PS X st t)(i:∀D σ H,t' D σ H→t D σ H):L2.PS X st t':=fun pins s σ H D I q=>h pins s σ H D I (i D σ H q)
theorem l6{st:List Stmt}{t t':L2.TS}(h:L2.PSs X st t)(i:∀D σ H,t' D σ H→t D σ H):L2.PSs X st t':=fun pins s σ H D I q=>h pins s σ H D I (i D σ H q)
theorem XU{t:L2.TE}(h:∀σ H Q,¬t σ H Q):L2.PE X e t:=fun pins s σ H Q I q=>(h σ H Q q).elim
theorem Xf{t:L2.TT}(h:∀σ H Q,¬t σ H Q):L2.PT X e t:=fun pins s σ H Q I q=>(h σ H Q q).elim
theorem Xh{t:L2.TT}(h:∀σ H Q,¬t σ H Q):L2.PW X e t:=fun wh pins s σ H Q I q=>(h σ H Q q).elim
theorem XR{es:List Expr}{t:L2.TA}(h:∀σ H Q,¬t σ H Q):L2.PA X es t:=fun pos pins s σ H Q I q=>(h σ H Q q).elim
end
section
variable {K:KF}{mg:Str→Option Value}{env:Env}{s:Sto}
theorem X5{o:Out Val}(h:∀v s',o≠.ok v s'){σ:L2.St}{H:L2.Hp}{Q:L2.VK}:¬tV K mg env s o σ H Q:=by
 rintro ⟨ρ,_,_,w⟩
 cases o with
 |ok v s'=>exact h v s' rfl
 |_=>exact w
theorem Z8{o:Out (List Val)}(h:∀v s',o≠.ok v s'){σ:L2.St}{H:L2.Hp}{Q:List L2.V→L2.Hp→Prop}:¬tVs K mg env s o σ H Q:=by
 rintro ⟨ρ,_,_,w⟩
 cases o with
 |ok v s'=>exact h v s' rfl
 |_=>exact w
theorem bZ{o:Out Bool}(h:∀v s',o≠.ok v s'){σ:L2.St}{H:L2.Hp}{Q:Bool→L2.Hp→Prop}:¬tT K mg env s o σ H Q:=by
 rintro ⟨ρ,_,_,w⟩
 cases o with
 |ok v s'=>exact h v s' rfl
 |_=>exact w
end
end M
end
section
namespace M
open PySem
theorem yc:zP=sizeLine:=by rw[sizeLine_eq];rfl
section
variable {K:KF}{mg:Str→Option Value}{ρ ρ':Own}{H H':L2.Hp}{s s':Sto}
theorem xX(hr:HR K mg ρ s H){v:Val}{x:L2.V}{vs:List Val}(r:RD K mg ρ H v x)(e:yN s v=some vs):∃a xs,x=.ref a∧H a=some (.lst xs)∧RDs K mg ρ H vs xs:=by
 cases r with
 |lst n h q=>cases e;exact⟨_,_,rfl,h,q⟩
 |@ref a i h=>
  simp only[yN]at e
  split at e
  . rename_i ws hw
    cases e
    obtain⟨b,xs,e1,e2,q⟩:=hr.obj i _ hw
    rw[h]at e1;cases e1
    exact⟨_,_,rfl,e2,q⟩
  . cases e
 |_=>cases e
theorem rF(hr:HR K mg ρ s H){v:Val}{x:L2.V}{vs:List Val}(r:RD K mg ρ H v x)(e:xm s v=some vs):∃a xs,x=.ref a∧(L2.SqL K H a xs∨L2.SqT K H a xs)∧RDs K mg ρ H vs xs:=by
 cases r with
 |lst n h q=>cases e;exact⟨_,_,rfl,.inl (.of h),q⟩
 |tup n h q=>cases e;exact⟨_,_,rfl,.inr (.of h),q⟩
 |ctup h=>cases e;exact⟨_,_,rfl,.inr h.sqt,RDs.ints _⟩
 |scr h=>cases e;exact⟨_,_,rfl,.inl h.sql,RDs.ints _⟩
 |@ref a i h=>
  simp only[xm]at e
  split at e
  . rename_i ws hw
    cases e
    obtain⟨b,xs,e1,e2,q⟩:=hr.obj i _ hw
    rw[h]at e1;cases e1
    exact⟨_,_,rfl,.inl (.of e2),q⟩
  . cases e
 |_=>cases e
mutual
theorem RD.reads{P:Program}{w:World}{h:Heap}(ok:L2.HOk P w H h):∀{v:Val} {x:L2.V} {u:Value},RD K mg ρ H v x→v.isR=true→L2.RelV x u→∃as,Reads h u v.d as∧(L2.xJ v.d=false→sysModules ∉ as)
 |_,_,u,.none,_,r=>by cases (show u=Value.none from r);exact⟨[],.none,fun _=>by simp⟩
 |_,_,u,.bool b,_,r=>by cases (show u=Value.bool b from r);exact⟨[],.bool b,fun _=>by simp⟩
 |_,_,u,.int i,_,r=>by obtain⟨t,q⟩:=(show ∃t,u=Value.int i t from r);cases q;exact⟨[],.int i t,fun _=>by simp⟩
 |_,_,u,.str x,_,r=>by obtain⟨t,q⟩:=(show ∃t,u=Value.str x t from r);cases q;exact⟨[],.str x t,fun _=>by simp⟩
 |_,.ref a,u,.lst (xs:=xs) n ha rs,hv,r=>by
  cases (show u=Value.ref a from r)
  obtain⟨z,its,n,rv,e⟩:=(show L2.zy P w H h a (.lst xs) from ok a _ ha)
  obtain⟨as,q,_⟩:=RDs.reads ok rs (by simpa only[Val.isR] using hv) rv
  exact⟨a::as,.list e rfl rfl (by simpa using q),fun z=>by simp[Val.d,L2.xJ]at z⟩
 |_,.ref a,u,.tup (xs:=xs) n ha rs,hv,r=>by
  cases (show u=Value.ref a from r)
  obtain⟨z,its,rv,o,e,c,n,dd⟩:=(show L2.zy P w H h a (.tup xs) from ok a _ ha)
  obtain⟨as,q,q2⟩:=RDs.reads ok rs (by simpa only[Val.isR] using hv) rv
  exact⟨as,.tuple e c dd.1 (by simpa using q),fun z=>q2 (by simpa [Val.d,L2.xJ] using z)⟩
 |_,.ref a,u,.dct0 n ha,_,r=>by
  cases (show u=Value.ref a from r)
  obtain⟨z,y,vs,rv,o,es,ep,e,c,dd,k⟩:=(show L2.zy P w H h a (.dK []) from ok a _ ha)
  cases rv
  have hes:es=#[]:=by
   have h2:=k.2.1
   cases hl:es.toList with
   |nil=>simpa using hl
   |cons a r=>rw[hl]at h2;cases h2
  subst hes
  refine⟨[a]++[],Reads.dict (as:=[]) (bs:=[]) e c.1 dd .nil .nil,fun _=>?_⟩
  have:a≠sysModules:=by simpa using y
  simpa using Ne.symm this
 |_,_,_,.ctup _,hv,_=>by cases hv
 |_,_,_,.scr _,hv,_=>by cases hv
 |_,_,_,.ref _,hv,_=>by cases hv
 |_,_,_,.fn _,hv,_=>by cases hv
 |_,_,_,.ty _,hv,_=>by cases hv
theorem RDs.reads{P:Program}{w:World}{h:Heap}(ok:L2.HOk P w H h):∀{vs:List Val} {xs:List L2.V} {us:List Value},RDs K mg ρ H vs xs→tf vs=true→L2.Vals xs us→∃as,ReadsAll h us (ds vs) as∧(L2.xW (ds vs)=false→sysModules ∉ as)
 |_,_,_,.nil,_,r=>by cases r;exact⟨[],.nil,fun _=>by simp⟩
 |_,_,_,.cons r rs,hv,q=>by
  cases q with
  |cons q1 q2=>
   rw[tf,Bool.and_eq_true]at hv
   obtain⟨as,h1,h2⟩:=RD.reads ok r hv.1 q1
   obtain⟨bs,h3,h4⟩:=RDs.reads ok rs hv.2 q2
   refine⟨as++bs,.cons h1 h3,fun z=>?_⟩
   rw[ds,L2.xW,Bool.or_eq_false_iff]at z
   intro hm
   rcases List.mem_append.mp hm with hm|hm
   . exact h2 z.1 hm
   . exact h4 z.2 hm
end
theorem uQ{P:Program}{w:World}{h:Heap}(ok:L2.HOk P w H h)(hr:HR K mg ρ s H){v:Val}{x:L2.V}{u:Value}(hv:(yM s v).isR=true)(r:RD K mg ρ H v x)(ru:L2.RelV x u) :
 ∃as,Reads h u (yM s v).d as∧(L2.xJ (yM s v).d=false→sysModules ∉ as):=by
 cases v with
 |ref i=>
  cases r with
  |@ref a _ e0=>
  simp only[yM]at hv ⊢
  split at hv
  . rename_i ws hw
    obtain⟨b,xs,e1,e2,q⟩:=hr.obj i _ hw
    rw[e0]at e1;cases e1
    cases (show u=Value.ref a from ru)
    obtain⟨z,its,n,rv,e⟩:=(show L2.zy P w H h a (.lst xs) from ok a _ e2)
    obtain⟨as,q,_⟩:=RDs.reads ok q (by simpa only[Val.isR] using hv) rv
    exact⟨a::as,.list e rfl rfl (by simpa using q),fun z=>by simp[Val.d,L2.xJ]at z⟩
  . cases hv
 |_=>exact RD.reads ok r hv ru
theorem RDs.fD{P:Program}{w:World}{h:Heap}(ok:L2.HOk P w H h)(hr:HR K mg ρ s H):∀{vs:List Val} {xs:List L2.V} {us:List Value},RDs K mg ρ H vs xs→tf (vs.map (yM s))=true→L2.Vals xs us→∃as,ReadsAll h us (ds (vs.map (yM s))) as∧(L2.xW (ds (vs.map (yM s)))=false→sysModules ∉ as)
 |_,_,_,.nil,_,r=>by cases r;exact⟨[],.nil,fun _=>by simp⟩
 |_,_,_,.cons r rs,hv,q=>by
  cases q with
  |cons q1 q2=>
   rw[List.map_cons,tf,Bool.and_eq_true]at hv
   obtain⟨as,h1,h2⟩:=uQ ok hr hv.1 r q1
   obtain⟨bs,h3,h4⟩:=RDs.fD ok hr rs hv.2 q2
   rw[List.map_cons]
   refine⟨as++bs,.cons h1 h3,fun z=>?_⟩
   rw[ds,L2.xW,Bool.or_eq_false_iff]at z
   intro hm
   rcases List.mem_append.mp hm with hm|hm
   . exact h2 z.1 hm
   . exact h4 z.2 hm
theorem iV{v:Val}(h:∀vs,v≠.tup vs):zr s v=yM s v:=by
 cases v<;>first|rfl|exact absurd rfl (h _)
theorem xg{P:Program}{w:World}{h:Heap}(ok:L2.HOk P w H h)(hr:HR K mg ρ s H){v:Val}{x:L2.V}{u:Value}(hv:(zr s v).isR=true)(r:RD K mg ρ H v x)(ru:L2.RelV x u) :
 ∃as,Reads h u (zr s v).d as∧(L2.xJ (zr s v).d=false→sysModules ∉ as):=by
 cases v with
 |tup vs=>
  cases r with
  |@tup a _ xs n ha rs=>
   cases (show u=Value.ref a from ru)
   obtain⟨z,its,rv,o,e,c,n,dd⟩:=(show L2.zy P w H h a (.tup xs) from ok a _ ha)
   obtain⟨as,q,q2⟩:=RDs.fD ok hr rs (by simpa only[zr,Val.isR] using hv) rv
   exact⟨as,.tuple e c dd.1 (by simpa using q),fun z=>q2 (by simpa [zr,Val.d,L2.xJ] using z)⟩
 |_=>exact(show _ from by rw[iV (fun _ h=>by cases h)]at hv ⊢;exact uQ ok hr hv r ru)
mutual
theorem yz:∀{v:Val},v.isD=true→v.isR=true
 |.none,_=>rfl
 |.bool _,_=>rfl
 |.int _,_=>rfl
 |.str _,_=>rfl
 |.tup vs,h=>by rw[Val.isR];exact w4 (by simpa only[Val.isD] using h)
 |.lst vs,h=>by rw[Val.isR];exact w4 (by simpa only[Val.isD] using h)
 |.dct0,h=>by cases h
 |.ctup _,h=>by cases h
 |.scr _,h=>by cases h
 |.ref _,h=>by cases h
 |.fn _,h=>by cases h
 |.ty _,h=>by cases h
theorem w4:∀{vs:List Val},xh vs=true→tf vs=true
 |[],_=>rfl
 |v::vs,h=>by
  rw[xh,Bool.and_eq_true]at h
  rw[tf,yz h.1,w4 h.2];rfl
end
mutual
theorem yF:∀{v:Val},v.isD=true→v.d.canLay0=true
 |.none,_=>rfl
 |.bool _,_=>rfl
 |.int _,_=>rfl
 |.str _,h=>by simpa only[Val.isD,Val.d,PyData.canLay0] using h
 |.tup vs,h=>by rw[Val.d,PyData.canLay0];exact xp (by simpa only[Val.isD] using h)
 |.lst vs,h=>by rw[Val.d,PyData.canLay0];exact xp (by simpa only[Val.isD] using h)
 |.dct0,h=>by cases h
 |.ctup _,h=>by cases h
 |.scr _,h=>by cases h
 |.ref _,h=>by cases h
 |.fn _,h=>by cases h
 |.ty _,h=>by cases h
theorem xp:∀{vs:List Val},xh vs=true→PyData.canLayAll0 (ds vs)=true
 |[],_=>rfl
 |v::vs,h=>by
  rw[xh,Bool.and_eq_true]at h
  rw[ds,PyData.canLayAll0,yF h.1,xp h.2];rfl
end
theorem wL(hr:HR K mg ρ s H){m:Bool}{vs:List Val}{xs:List L2.V}(r:RDs K mg ρ H vs xs){Q:L2.VK}(w:yh K mg (RD K mg) ρ H (newList m vs s) Q):∀p,H p=none→Q (.ref p) (L2.upd H p (.lst xs)):=fun p hp=>by
 cases m with
 |true=>exact w _ _ _ (Ext.own hr hp _) (hr.own hp r) (.ref (lu hr p))
 |false=>exact w _ _ _ (Ext.new hr hp _) (hr.more hp _) (.lst (hr.new hp) L2.zt (r.mono (Ext.new hr hp _)))
theorem pE(hr:HR K mg ρ s H){vs:List Val}{xs:List L2.V}(r:RDs K mg ρ H vs xs){Q:L2.VK}(w:yh K mg (RD K mg) ρ H (.ok (.tup vs) s) Q):∀p,H p=none→Q (.ref p) (L2.upd H p (.tup xs)):=fun p hp=>
 w _ _ _ (Ext.new hr hp _) (hr.more hp _) (.tup (hr.new hp) L2.zt (r.mono (Ext.new hr hp _)))
theorem Ext.same(e:L2.sF H H'):Ext ρ H ρ H':=⟨⟨[],by simp,fun a ha=>by cases ha⟩,rfl,fun a o h _=>e a o h⟩
theorem HR.same(hr:HR K mg ρ s H)(e:L2.sF H H'):HR K mg ρ s H':=⟨hr.len,hr.nd,fun i vs q=>by
 obtain⟨a,xs,e1,e2,r⟩:=hr.obj i vs q
 exact⟨a,xs,e1,e a _ e2,r.mono (Ext.same e)⟩,fun a ha=>by
 obtain⟨⟨ys,q⟩,n⟩:=hr.hid a ha
 exact⟨⟨ys,e a _ q⟩,n⟩⟩
theorem uW(hr:HR K mg ρ s H){vs:List Val}{xs:List L2.V}(r:RDs K mg ρ H vs xs){Q:L2.VK}(w:yh K mg (RD K mg) ρ H (.ok (.tup vs) s) Q):L2.tP H xs Q:=fun p H' e h=>by
 have hr':=hr.same e
 refine w _ _ _ (Ext.same e) hr' (.tup ⟨fun hm=>?_,fun hm=>?_⟩ h (r.mono (Ext.same e)))
 . obtain⟨ys,q⟩:=hr'.trk hm
   rw[h]at q;cases q
 . obtain⟨⟨ys,q⟩,_⟩:=hr'.hid _ hm
   rw[h]at q;cases q
end
section
variable (K:KF)(mg:Str→Option Value)
noncomputable def rM2(g:Val→Val→Sto→Out Val):L2.R2:=fun x y H Q=>∃ρ s v w,HR K mg ρ s H∧RD K mg ρ H v x∧RD K mg ρ H w y∧yh K mg (RD K mg) ρ H (g v w s) Q
noncomputable def rMc(g:List Val→Sto→Out Val):List L2.V→L2.Hp→L2.VK→Prop:=fun xs H Q=>∃ρ s vs,HR K mg ρ s H∧RDs K mg ρ H vs xs∧yh K mg (RD K mg) ρ H (g vs s) Q
end
section
variable {X:L2.Cx}{k:Nat}
theorem zM{K:KF}{mg:Str→Option Value}{ρ:Own}{H:L2.Hp}{s:Sto}(hr:HR K mg ρ s H){v:Val}{x:L2.V}(r:RD K mg ρ H v x){Q:L2.VK}(w:yh K mg (RD K mg) ρ H (.ok v s) Q):Q x H:=w _ _ _ Ext.refl hr r
theorem n4(m:Bool):L2.OpR X (binaryOp .Add) (rM2 X.K X.mg (binOp m .add)):=by
 intro pins s σ H x y v u Q I rx ry h
 obtain⟨ρ,t,a,b,hr,ra,rb,w⟩:=h
 simp only[binOp]at w
 split at w
 . cases ra;cases rb
   exact L2.ZP pins s σ H _ _ v u Q I rx ry ⟨_,_,rfl,rfl,zM hr (.int _) w⟩
 . split at w
   . rename_i hz
     cases ra;cases rb
     exact L2.nz pins s σ H _ _ v u Q I rx ry ⟨_,_,rfl,rfl,by rw[←yc];exact hz,zM hr (.str _) w⟩
   . exact w.elim
 . split at w
   . rename_i hz
     cases ra with
     |tup n1 h1 q1=>
      cases rb with
      |tup n2 h2 q2=>
       refine L2.gT pins s σ H _ _ v u Q I rx ry ⟨_,_,_,_,rfl,rfl,h1,h2,?_,uW hr (q1.append q2) w⟩
       rw[←q1.length,←q2.length,←yc];exact hz
   . exact w.elim
 . split at w
   . rename_i ea eb
     split at w
     . rename_i hz
       obtain⟨p1,xs,rfl,h1,q1⟩:=xX hr ra ea
       obtain⟨p2,ys,rfl,h2,q2⟩:=xX hr rb eb
       refine L2.ZR pins s σ H _ _ v u Q I rx ry ⟨_,_,_,_,rfl,rfl,h1,h2,?_,wL hr (q1.append q2) w⟩
       rw[←q1.length,←q2.length,←yc];exact hz
     . exact w.elim
   . exact w.elim
theorem mB(m:Bool):L2.OpR X (binaryOp .Sub) (rM2 X.K X.mg (binOp m .sub)):=by
 intro pins s σ H x y v u Q I rx ry h
 obtain⟨ρ,t,a,b,hr,ra,rb,w⟩:=h
 simp only[binOp]at w
 split at w
 . cases ra;cases rb
   exact L2.ZX pins s σ H _ _ v u Q I rx ry ⟨_,_,rfl,rfl,zM hr (.int _) w⟩
 . exact w.elim
theorem n6(m:Bool):L2.OpR X (binaryOp .Mult) (rM2 X.K X.mg (binOp m .mul)):=by
 intro pins s σ H x y v u Q I rx ry h
 obtain⟨ρ,t,a,b,hr,ra,rb,w⟩:=h
 simp only[binOp]at w
 split at w
 . split at w
   . rename_i hz
     cases ra;cases rb
     exact L2.ZU pins s σ H _ _ v u Q I rx ry ⟨_,_,rfl,rfl,hz,zM hr (.int _) w⟩
   . exact w.elim
 . split at w
   . rename_i hz
     obtain⟨z1,z2,z3,z4⟩:=hz
     cases ra with
     |tup n1 h1 q1=>
      cases rb
      refine L2.dJ pins s σ H _ _ v u Q I rx ry ⟨_,_,_,rfl,rfl,h1,z1,z2,?_,?_,uW hr (q1.rep _) w⟩
      . intro e;subst e;cases q1;exact z3 rfl
      . rw[←q1.length];exact z4
   . exact w.elim
 . split at w
   . rename_i ea
     split at w
     . rename_i hz
       obtain⟨z1,z2,z3⟩:=hz
       obtain⟨p1,xs,rfl,h1,q1⟩:=xX hr ra ea
       cases rb
       refine L2.ZW pins s σ H _ _ v u Q I rx ry ⟨_,_,_,rfl,rfl,h1,by omega,by omega,?_,wL hr (q1.rep _) w⟩
       rw[←q1.length,←yc];exact z3
     . exact w.elim
   . exact w.elim
 . exact w.elim
theorem oV(m:Bool):L2.OpR X (binaryOp .FloorDiv) (rM2 X.K X.mg (binOp m .fdiv)):=by
 intro pins s σ H x y v u Q I rx ry h
 obtain⟨ρ,t,a,b,hr,ra,rb,w⟩:=h
 simp only[binOp]at w
 split at w
 . split at w
   . rename_i hz
     cases ra;cases rb
     exact L2.dH pins s σ H _ _ v u Q I rx ry ⟨_,_,rfl,rfl,hz,zM hr (.int _) w⟩
   . exact w.elim
 . exact w.elim
theorem n5(m:Bool):L2.OpR X (binaryOp .Mod) (rM2 X.K X.mg (binOp m .mod)):=by
 intro pins s σ H x y v u Q I rx ry h
 obtain⟨ρ,t,a,b,hr,ra,rb,w⟩:=h
 simp only[binOp]at w
 split at w
 . split at w
   . rename_i hz
     cases ra;cases rb
     exact L2.ZT pins s σ H _ _ v u Q I rx ry ⟨_,_,rfl,rfl,hz,zM hr (.int _) w⟩
   . exact w.elim
 . exact w.elim
theorem n9(m:Bool):L2.OpR X (binaryOp .Pow) (rM2 X.K X.mg (binOp m .pow)):=by
 intro pins s σ H x y v u Q I rx ry h
 obtain⟨ρ,t,a,b,hr,ra,rb,w⟩:=h
 simp only[binOp]at w
 split at w
 . split at w
   . rename_i hz
     cases ra;cases rb
     exact L2.ZV pins s σ H _ _ v u Q I rx ry ⟨_,_,rfl,rfl,hz,zM hr (.int _) w⟩
   . exact w.elim
 . exact w.elim
end
end M
end
section
namespace M
open PySem
section
variable {K:KF}{mg:Str→Option Value}{ρ ρ':Own}{H H':L2.Hp}{s s':Sto}
theorem RD.flat{v:Val}{x:L2.V}(r:RD K mg ρ H v x)(h:flat v=true):L2.wK x=true:=by
 cases r<;>first|rfl|cases h
theorem RD.eqF{v w:Val}{x y:L2.V}(r:RD K mg ρ H v x)(q:RD K mg ρ H w y)(h:M.flat v=true)(h':M.flat w=true):L2.eqV x y=M.eqF v w:=by
 cases r<;>first|(cases h;done)|(cases q<;>first|rfl|(cases h';done))
theorem RDs.flat:∀{vs:List Val} {xs:List L2.V},RDs K mg ρ H vs xs→vs.all flat=true→xs.all L2.wK=true
 |_,_,.nil,_=>rfl
 |_,_,.cons r rs,h=>by
  rw[List.all_cons,Bool.and_eq_true]at h
  rw[List.all_cons,r.flat h.1,rs.flat h.2];rfl
theorem RDs.any{w:Val}{y:L2.V}(q:RD K mg ρ H w y)(hw:M.flat w=true):∀{vs:List Val} {xs:List L2.V},RDs K mg ρ H vs xs→vs.all M.flat=true→(xs.any fun z=>L2.eqV z y)=vs.any fun z=>M.eqF z w
 |_,_,.nil,_=>rfl
 |_,_,.cons r rs,h=>by
  rw[List.all_cons,Bool.and_eq_true]at h
  rw[List.any_cons,List.any_cons,r.eqF q h.1 hw,RDs.any q hw rs h.2]
theorem RDs.countP{w:Val}{y:L2.V}(q:RD K mg ρ H w y)(hw:M.flat w=true):∀{vs:List Val} {xs:List L2.V},RDs K mg ρ H vs xs→vs.all M.flat=true→(xs.countP fun z=>L2.eqV z y)=vs.countP fun z=>M.eqF z w
 |_,_,.nil,_=>rfl
 |_,_,.cons r rs,h=>by
  rw[List.all_cons,Bool.and_eq_true]at h
  rw[List.countP_cons,List.countP_cons,r.eqF q h.1 hw,RDs.countP q hw rs h.2]
theorem RDs.bools:∀{vs:List Val} {xs:List L2.V} {bs:List Bool},RDs K mg ρ H vs xs→boolsOf vs=some bs→xs=bs.map L2.V.bl
 |_,_,_,.nil,h=>by cases h;rfl
 |_,_,_,.cons r rs,h=>by
  cases r with
  |bool b=>
   simp only[boolsOf,Option.map_eq_some_iff]at h
   obtain⟨bs',h1,h2⟩:=h
   subst h2
   rw[rs.bools h1];rfl
  |_=>cases h
theorem RDs.lY:∀{vs:List Val} {xs:List L2.V} {ns:List Int},RDs K mg ρ H vs xs→intsOf vs=some ns→xs=ns.map L2.V.int
 |_,_,_,.nil,h=>by cases h;rfl
 |_,_,_,.cons r rs,h=>by
  cases r with
  |int b=>
   simp only[intsOf,Option.map_eq_some_iff]at h
   obtain⟨bs',h1,h2⟩:=h
   subst h2
   rw[rs.lY h1];rfl
  |_=>cases h
theorem fw{vs:List Val}{xs:List L2.V}{i:Int}{v:Val}(r:RDs K mg ρ H vs xs)(h:L2.atI vs i=some v):∃x,L2.atI xs i=some x∧RD K mg ρ H v x:=by
 unfold L2.atI at h ⊢
 rw[←r.length]
 obtain⟨j,h1,h2⟩:=Option.bind_eq_some_iff.mp h
 obtain⟨x,h3,h4⟩:=r.get h2
 exact⟨x,by rw[h1];exact h3,h4⟩
theorem fW(hr:HR K mg ρ s H){v:Val}{x:L2.V}{b:Bool}(r:RD K mg ρ H v x)(h:truth s v=some b):L2.fq K x H b:=by
 have hz:∀{vs:List Val} {xs:List L2.V},RDs K mg ρ H vs xs→vs.isEmpty=xs.isEmpty:=fun r=>by cases r<;>rfl
 cases r with
 |none=>cases h;rfl
 |bool b=>cases h;rfl
 |int i=>cases h;rfl
 |str x=>
  simp only[truth]at h
  split at h
  . cases h
    rename_i q
    exact⟨by rw[←yc];exact q,rfl⟩
  . cases h
 |tup n e q=>cases h;exact .inr (.inl ⟨_,.of e,by rw[hz q]⟩)
 |lst n e q=>cases h;exact .inl ⟨_,.of e,by rw[hz q]⟩
 |dct0 n e=>cases h;exact .inr (.inr ⟨_,e,rfl⟩)
 |ctup _=>cases h
 |scr _=>cases h
 |@ref a i e=>
  simp only[truth]at h
  split at h
  . rename_i ws hw
    cases h
    obtain⟨c,xs,e1,e2,q⟩:=hr.obj i _ hw
    rw[e]at e1;cases e1
    exact .inl ⟨_,.of e2,by rw[hz q]⟩
  . cases h
 |fn _=>cases h
 |ty _=>cases h
theorem X7(hr:HR K mg ρ s H){v:Val}{x:L2.V}{a:L2.Kd}(r:RD K mg ρ H v x)(h:kindOf v=some a):(L2.uH K H x (.type a.nm)):=by
 cases r with
 |none=>cases h;exact .non
 |bool b=>cases h;exact .bl b
 |int i=>cases h;exact .int i
 |str x=>cases h;exact .str x
 |tup n e q=>cases h;exact .tup e
 |lst n e q=>cases h;exact .lst e
 |dct0 n e=>cases h;exact .dK e
 |@ref b i e=>
  cases h
  obtain⟨xs,q⟩:=hr.trk (List.mem_of_getElem? e)
  exact .lst q
 |_=>cases h
theorem Yu{n:String}{c:L2.Kd}(h:yv n=some c):n=c.nm∧c≠.non:=by
 unfold yv at h
 split at h<;>first|(cases h;exact⟨rfl,by decide⟩)|cases h
end
section
variable {X:L2.Cx}{k:Nat}
theorem Yz{d:PyData}(h:tG d=true):L2.bI d:=by
 unfold tG at h
 simp only[Bool.and_eq_true,decide_eq_true_eq,Bool.or_eq_true,Bool.not_eq_true']at h
 obtain⟨⟨⟨⟨h1,h2⟩,h3⟩,h4⟩,h5⟩:=h
 have L:L2.vH d.depth d.weight d:=⟨h1,h2,Nat.le_refl _,Nat.le_refl _⟩
 refine L.Xu h3 h4 fun z=>?_
 rcases h5 with h5|h5
 . rw[h5]at z;cases z
 . exact h5
theorem jK(hr0:L2.xG k X.A):L2.OpR X (compareOp .Eq) (rM2 X.K X.mg (zT .eq)):=by
 intro pins s σ H x y v u Q I rx ry h
 obtain⟨ρ,t,a,b,hr,ra,rb,w⟩:=h
 simp only[zT,oC]at w
 split at w
 . rename_i p q
   cases ra;cases rb
   have e:decide (L2.V.str p=L2.V.str q)=decide (p=q):=by
    rw[Bool.eq_iff_iff];simp
   refine L2.Y3 pins s σ H _ _ v u Q I rx ry ⟨rfl,?_⟩
   rw[e]
   exact zM hr (.bool _) w
 . by_cases hc:((zr t a).isD&&(zr t b).isD&&decide ((zr t b).d.depth≤60))=true
   . rw[if_pos hc]at w
     simp only[Bool.and_eq_true,decide_eq_true_eq]at hc
     obtain⟨as,r1,_⟩:=xg I.hok hr (yz hc.1.1) ra rx
     obtain⟨bs,r2,_⟩:=xg I.hok hr (yz hc.1.2) rb ry
     have hu:=hr0.un
     have hm:=Nat.min_le_right (zr t a).d.depth (zr t b).d.depth
     exact SeqAt.compareEq_reads r1 r2 (yF hc.1.1) (yF hc.1.2) (by omega) ⟨.bl _,H,I,rfl,zM hr (.bool _) w⟩
   . rw[if_neg hc]at w;exact w.elim
theorem jU(hr0:L2.xG k X.A):L2.OpR X (compareOp .NotEq) (rM2 X.K X.mg (zT .ne)):=by
 intro pins s σ H x y v u Q I rx ry h
 obtain⟨ρ,t,a,b,hr,ra,rb,w⟩:=h
 simp only[zT,oC]at w
 split at w
 . rename_i p q
   cases ra;cases rb
   have e:decide (L2.V.str p=L2.V.str q)=decide (p=q):=by
    rw[Bool.eq_iff_iff];simp
   refine L2.Y8 pins s σ H _ _ v u Q I rx ry ⟨rfl,?_⟩
   rw[e]
   exact zM hr (.bool _) w
 . by_cases hc:((zr t a).isD&&(zr t b).isD&&decide ((zr t b).d.depth≤60))=true
   . rw[if_pos hc]at w
     simp only[Bool.and_eq_true,decide_eq_true_eq]at hc
     obtain⟨as,r1,_⟩:=xg I.hok hr (yz hc.1.1) ra rx
     obtain⟨bs,r2,_⟩:=xg I.hok hr (yz hc.1.2) rb ry
     have hu:=hr0.un
     have hm:=Nat.min_le_right (zr t a).d.depth (zr t b).d.depth
     exact SeqAt.compareNe_reads r1 r2 (yF hc.1.1) (yF hc.1.2) (by omega) ⟨.bl _,H,I,rfl,zM hr (.bool _) w⟩
   . rw[if_neg hc]at w;exact w.elim
theorem RD.isNone{K:KF}{mg:Str→Option Value}{ρ:Own}{H:L2.Hp}{v:Val}{x:L2.V}(r:RD K mg ρ H v x):decide (x=.non)=v.isN:=by
 cases r<;>first|rfl|exact decide_eq_false (fun z=>nomatch z)
theorem jQ:L2.OpR X (compareOp .Is) (rM2 X.K X.mg (zT .is)):=by
 intro pins s σ H x y v u Q I rx ry h
 obtain⟨ρ,t,a,b,hr,ra,rb,w⟩:=h
 cases rb with
 |none=>
  refine L2.ZS pins s σ H _ _ v u Q I rx ry ⟨rfl,?_⟩
  rw[ra.isNone]
  exact zM hr (.bool _) w
 |bool c=>
  cases ra with
  |bool d=>cases rx;cases ry;cases c<;>cases d<;>exact wpAny_pure ⟨.bl _,H,I,rfl,zM hr (.bool _) w⟩
  |_=>exact w.elim
 |_=>exact w.elim
theorem pH:L2.OpR X (compareOp .IsNot) (rM2 X.K X.mg (zT .isNot)):=by
 intro pins s σ H x y v u Q I rx ry h
 obtain⟨ρ,t,a,b,hr,ra,rb,w⟩:=h
 cases rb with
 |none=>
  refine L2.dI pins s σ H _ _ v u Q I rx ry ⟨rfl,?_⟩
  rw[ra.isNone]
  exact zM hr (.bool _) w
 |bool c=>
  cases ra with
  |bool d=>cases rx;cases ry;cases c<;>cases d<;>exact wpAny_pure ⟨.bl _,H,I,rfl,zM hr (.bool _) w⟩
  |_=>exact w.elim
 |_=>exact w.elim
theorem yD:∀{vs:List Val} {v:Val},xh vs=true→v∈vs→v.isD=true
 |w::vs,v,h,m=>by
  rw[xh,Bool.and_eq_true]at h
  rcases List.mem_cons.mp m with rfl|m
  . exact h.1
  . exact yD h.2 m
theorem qx{A:Around}{s:Shared}{u:Value}{K:KF}{mg:Str→Option Value}{ρ:Own}{H:L2.Hp}{g:Val→Bool}{vs:List Val}{xs:List L2.V}{its:List Value}(q:RDs K mg ρ H vs xs)(r:L2.Vals xs its)
 (hE:∀z x w,z∈vs→RD K mg ρ H z x→L2.RelV x w→SeqAt.EqAt A s w u (g z)):∃f:Value→Bool,(∀w∈its.toArray,SeqAt.EqAt A s w u (f w))∧its.toArray.any f=vs.any g:=by
 classical
 have at_:∀i w,its[i]?=some w→∃z x,vs[i]?=some z∧RD K mg ρ H z x∧L2.RelV x w:=fun i w e=>by
  have hi:i<xs.length:=by rw[r.length];exact(List.getElem?_eq_some_iff.mp e).1
  have hx:xs[i]?=some xs[i]:=List.getElem?_eq_getElem hi
  obtain⟨w',e',rw'⟩:=r.get hx
  rw[e]at e';cases e'
  obtain⟨z,e1,rz⟩:=q.Ya hx
  exact⟨z,_,e1,rz,rw'⟩
 refine⟨fun w=>decide (∃(i:Nat) (z:Val),its[i]?=some w∧vs[i]?=some z∧g z=true),fun w hw=>?_,?_⟩
 . obtain⟨i,hi⟩:=List.getElem?_of_mem (by simpa using hw:w∈its)
   by_cases hd:∃(i:Nat) (z:Val),its[i]?=some w∧vs[i]?=some z∧g z=true
   . dsimp only;rw[decide_eq_true hd]
     obtain⟨j,z,e1,e2,e3⟩:=hd
     obtain⟨z',x,e4,rz,rw'⟩:=at_ j w e1
     rw[e2]at e4;cases e4
     rw[←e3];exact hE z x w (List.mem_of_getElem? e2) rz rw'
   . dsimp only;rw[decide_eq_false hd]
     obtain⟨z,x,e4,rz,rw'⟩:=at_ i w hi
     have hg:g z=false:=by
      cases hg:g z with
      |false=>rfl
      |true=>exact(hd ⟨i,z,hi,e4,hg⟩).elim
     rw[←hg];exact hE z x w (List.mem_of_getElem? e4) rz rw'
 . rw[Bool.eq_iff_iff,Array.any_toList.symm,List.any_eq_true,List.any_eq_true]
   constructor
   . rintro ⟨w,_,h⟩
     obtain⟨i,z,_,e2,e3⟩:=of_decide_eq_true h
     exact⟨z,List.mem_of_getElem? e2,e3⟩
   . rintro ⟨z,hz,e3⟩
     obtain⟨i,hi⟩:=List.getElem?_of_mem hz
     obtain⟨x,e1,_⟩:=q.get hi
     obtain⟨w,e2,_⟩:=r.get e1
     exact⟨w,List.mem_of_getElem? e2,decide_eq_true ⟨i,z,e2,hi,e3⟩⟩
theorem eqD{K:KF}{mg:Str→Option Value}{ρ:Own}{H:L2.Hp}{P:Program}{w:World}{s:Shared}{A:Around}(hu:A.units+60<cLine)(ok:L2.HOk P w H s.heap){a z:Val}{x y:L2.V}{v u:Value}(ra:RD K mg ρ H a x)(rx:L2.RelV x v)(ha:a.isD=true)(hd:a.d.depth≤60)
 (rz:RD K mg ρ H z y) (ry:L2.RelV y u) (hz:z.isD=true):SeqAt.EqAt A s u v (PyData.eqv z.d a.d):=by
 obtain⟨as,r1,_⟩:=RD.reads ok ra (yz ha) rx
 obtain⟨bs,r2,_⟩:=RD.reads ok rz (yz hz) ry
 have hm:=Nat.min_le_right z.d.depth a.d.depth
 exact SeqAt.eqAt_reads _ _ _ _ _ _ _ _ r2 r1 (yF hz) (yF ha) (by omega)
theorem jP(hr0:L2.xG k X.A):L2.OpR X (compareOp .In) (rM2 X.K X.mg (zT .in_)):=by
 intro pins s σ H x y v u Q I rx ry h
 obtain⟨ρ,t,a,b,hr,ra,rb,w⟩:=h
 simp only[zT]at w
 split at w
 . rename_i vs e
   obtain⟨p,xs,rfl,hq,q⟩:=rF hr rb e
   split at w
   . rename_i hf
     rw[Bool.and_eq_true]at hf
     refine L2.jV pins s σ H _ _ v u Q I rx ry ⟨p,xs,rfl,hq,ra.flat hf.1,q.flat hf.2,?_⟩
     simp only[L2.inV,Bool.false_eq_true,if_false]
     rw[RDs.any ra hf.1 q hf.2]
     exact zM hr (.bool _) w
   . split at w
     . rename_i hf
       simp only[inD,Bool.and_eq_true,decide_eq_true_eq]at hf
       have hu:=hr0.un
       cases ry
       rcases hq with hq|hq
       . obtain⟨its,r,pl,hz⟩:=I.list hq
         obtain⟨f,f1,f2⟩:=qx (A:=X.A.in1) (s:=s) (u:=v) (g:=fun z=>PyData.eqv z.d a.d) q r fun z x' w' hz rz ry'=>eqD (show X.A.units+1+60<cLine by omega) I.hok ra rx hf.1.1 hf.2 rz ry' (yD hf.1.2 hz)
         exact SeqAt.in_listAt f pl.isList f1 ⟨.bl _,H,I,rfl,by rw[f2];exact zM hr (.bool _) w⟩
       . obtain⟨its,r,pl,hz⟩:=I.tuple hq
         obtain⟨f,f1,f2⟩:=qx (A:=X.A.in1) (s:=s) (u:=v) (g:=fun z=>PyData.eqv z.d a.d) q r fun z x' w' hz rz ry'=>eqD (show X.A.units+1+60<cLine by omega) I.hok ra rx hf.1.1 hf.2 rz ry' (yD hf.1.2 hz)
         exact SeqAt.in_tupleAt f pl f1 ⟨.bl _,H,I,rfl,by rw[f2];exact zM hr (.bool _) w⟩
     . exact w.elim
 . exact w.elim
theorem pI(hr0:L2.xG k X.A):L2.OpR X (compareOp .NotIn) (rM2 X.K X.mg (zT .notIn)):=by
 intro pins s σ H x y v u Q I rx ry h
 obtain⟨ρ,t,a,b,hr,ra,rb,w⟩:=h
 simp only[zT]at w
 split at w
 . rename_i vs e
   obtain⟨p,xs,rfl,hq,q⟩:=rF hr rb e
   split at w
   . rename_i hf
     rw[Bool.and_eq_true]at hf
     refine L2.pJ pins s σ H _ _ v u Q I rx ry ⟨p,xs,rfl,hq,ra.flat hf.1,q.flat hf.2,?_⟩
     simp only[L2.inV,if_true]
     rw[RDs.any ra hf.1 q hf.2]
     exact zM hr (.bool _) w
   . split at w
     . rename_i hf
       simp only[inD,Bool.and_eq_true,decide_eq_true_eq]at hf
       have hu:=hr0.un
       cases ry
       rcases hq with hq|hq
       . obtain⟨its,r,pl,hz⟩:=I.list hq
         obtain⟨f,f1,f2⟩:=qx (A:=X.A.in1) (s:=s) (u:=v) (g:=fun z=>PyData.eqv z.d a.d) q r fun z x' w' hz rz ry'=>eqD (show X.A.units+1+60<cLine by omega) I.hok ra rx hf.1.1 hf.2 rz ry' (yD hf.1.2 hz)
         exact SeqAt.notIn_listAt f pl.isList f1 ⟨.bl _,H,I,rfl,by rw[f2];exact zM hr (.bool _) w⟩
       . obtain⟨its,r,pl,hz⟩:=I.tuple hq
         obtain⟨f,f1,f2⟩:=qx (A:=X.A.in1) (s:=s) (u:=v) (g:=fun z=>PyData.eqv z.d a.d) q r fun z x' w' hz rz ry'=>eqD (show X.A.units+1+60<cLine by omega) I.hok ra rx hf.1.1 hf.2 rz ry' (yD hf.1.2 hz)
         exact SeqAt.notIn_tupleAt f pl f1 ⟨.bl _,H,I,rfl,by rw[f2];exact zM hr (.bool _) w⟩
     . exact w.elim
 . exact w.elim
theorem jT:L2.OpR X (compareOp .Lt) (rM2 X.K X.mg (zT .lt)):=by
 intro pins s σ H x y v u Q I rx ry h
 obtain⟨ρ,t,a,b,hr,ra,rb,w⟩:=h
 simp only[zT]at w
 split at w
 . cases ra;cases rb
   exact L2.Y7 pins s σ H _ _ v u Q I rx ry ⟨_,_,rfl,rfl,zM hr (.bool _) w⟩
 . exact w.elim
theorem jR:L2.OpR X (compareOp .LtE) (rM2 X.K X.mg (zT .le)):=by
 intro pins s σ H x y v u Q I rx ry h
 obtain⟨ρ,t,a,b,hr,ra,rb,w⟩:=h
 simp only[zT]at w
 split at w
 . cases ra;cases rb
   exact L2.Y6 pins s σ H _ _ v u Q I rx ry ⟨_,_,rfl,rfl,zM hr (.bool _) w⟩
 . exact w.elim
theorem jN:L2.OpR X (compareOp .Gt) (rM2 X.K X.mg (zT .gt)):=by
 intro pins s σ H x y v u Q I rx ry h
 obtain⟨ρ,t,a,b,hr,ra,rb,w⟩:=h
 simp only[zT]at w
 split at w
 . cases ra;cases rb
   exact L2.Y5 pins s σ H _ _ v u Q I rx ry ⟨_,_,rfl,rfl,zM hr (.bool _) w⟩
 . exact w.elim
theorem jM:L2.OpR X (compareOp .GtE) (rM2 X.K X.mg (zT .ge)):=by
 intro pins s σ H x y v u Q I rx ry h
 obtain⟨ρ,t,a,b,hr,ra,rb,w⟩:=h
 simp only[zT]at w
 split at w
 . cases ra;cases rb
   exact L2.Y4 pins s σ H _ _ v u Q I rx ry ⟨_,_,rfl,rfl,zM hr (.bool _) w⟩
 . exact w.elim
noncomputable def Cop.op:Cop→CmpOp
 |.eq=>.Eq|.ne=>.NotEq|.lt=>.Lt|.le=>.LtE|.gt=>.Gt|.ge=>.GtE|.is=>.Is|.isNot=>.IsNot|.in_=>.In|.notIn=>.NotIn
noncomputable def okC:Cop→Bool
 |_=>true
theorem tH(hr0:L2.xG k X.A):∀op:Cop,okC op=true→L2.OpR X (compareOp op.op) (rM2 X.K X.mg (zT op))
 |.eq,_=>jK hr0
 |.ne,_=>jU hr0
 |.lt,_=>jT
 |.le,_=>jR
 |.gt,_=>jN
 |.ge,_=>jM
 |.is,_=>jQ
 |.isNot,_=>pH
 |.in_,_=>jP hr0
 |.notIn,_=>pI hr0
noncomputable def Bop.op:Bop→Operator
 |.add=>.Add|.sub=>.Sub|.mul=>.Mult|.fdiv=>.FloorDiv|.mod=>.Mod|.pow=>.Pow|.shl=>.LShift|.shr=>.RShift|.band=>.BitAnd
noncomputable def okB:Bop→Bool
 |.shl|.shr|.band=>false
 |_=>true
theorem ZQ(m:Bool):∀op:Bop,okB op=true→L2.OpR X (binaryOp op.op) (rM2 X.K X.mg (binOp m op))
 |.add,_=>n4 m
 |.sub,_=>mB m
 |.mul,_=>n6 m
 |.fdiv,_=>oV m
 |.mod,_=>n5 m
 |.pow,_=>n9 m
 |.shl,h=>by cases h
 |.shr,h=>by cases h
 |.band,h=>by cases h
theorem Yh:L2.IxR X (rM2 X.K X.mg xw):=by
 intro value slice pins s σ H x y v u Q I rx ry h hs
 obtain⟨ρ,t,a,b,hr,ra,rb,w⟩:=h
 simp only[xw]at w
 split at w
 . split at w
   . rename_i vs e
     split at w
     . rename_i z hz
       obtain⟨p,xs,rfl,hq,q⟩:=rF hr ra e
       cases rb
       obtain⟨xz,h1,h2⟩:=fw q hz
       refine L2.aP value slice pins s σ H _ _ v u Q I rx ry ?_ hs
       rcases hq with hq|hq
       . exact .inl ⟨p,xs,_,xz,rfl,rfl,hq,h1,zM hr h2 w⟩
       . exact .inr (.inl ⟨p,xs,_,xz,rfl,rfl,hq,h1,zM hr h2 w⟩)
     . exact w.elim
   . exact w.elim
 . exact w.elim
end
end M
end
section
namespace M
open PySem
noncomputable def Bf.nm:Bf→Str
 |.len=>"len"|.all=>"all"|.any=>"any"|.tuple=>"tuple"|.list=>"list"|.sorted=>"sorted"|.repr=>"repr"|.max=>"max"|.min=>"min"|.sum=>"sum"|.int=>"int"|.isi=>"isinstance"|.divmod=>"divmod"|.str=>"str"
noncomputable def Bf.val:Bf→Value
 |.len=>.builtin "len"|.all=>.builtin "all"|.any=>.builtin "any"|.tuple=>.type "tuple"|.list=>.type "list"|.sorted=>.builtin "sorted"|.repr=>.builtin "repr"|.max=>.builtin "max"|.min=>.builtin "min"|.sum=>.builtin "sum"|.int=>.type "int"
 |.isi=>.builtin "isinstance"|.divmod=>.builtin "divmod"|.str=>.type "str"
theorem Bf.boot:∀f:Bf,bootBuiltins f.nm=some f.val
 |.len=>boot_len|.all=>PyProof.Rows.boot_all|.any=>PyProof.Rows.boot_any|.tuple=>PyProof.Rows.boot_tuple|.list=>PyProof.Rows.boot_list|.sorted=>PyProof.Rows.boot_sorted|.repr=>PyProof.Rows.boot_repr|.max=>PyProof.Rows.boot_max|.min=>PyProof.Rows.boot_min
 |.sum=>PyProof.Rows.boot_sum|.int=>PyProof.Rows.boot_int|.isi=>PyProof.Rows.boot_isinstance|.divmod=>PyProof.Rows.boot_divmod|.str=>PyProof.Rows.boot_str
section
variable {X:L2.Cx}{k:Nat}{m:Bool}
theorem uD{K:KF}{mg:Str→Option Value}{ρ:Own}{H:L2.Hp}{v:Val}{xs:List L2.V}(r:RDs K mg ρ H [v] xs):∃x,xs=[x]∧RD K mg ρ H v x:=by
 cases r with
 |cons r1 r2=>cases r2;exact⟨_,rfl,r1⟩
theorem jj{K:KF}{mg:Str→Option Value}{ρ:Own}{H:L2.Hp}{v w:Val}{xs:List L2.V}(r:RDs K mg ρ H [v,w] xs):∃x y,xs=[x,y]∧RD K mg ρ H v x∧RD K mg ρ H w y:=by
 cases r with
 |cons r1 r2=>
  obtain⟨y,rfl,r3⟩:=uD r2
  exact⟨_,_,rfl,r1,r3⟩
theorem iK:L2.z6 X (.builtin "len") (rMc X.K X.mg (blt .len m)):=by
 intro pins s σ H xs us Q I r h
 obtain⟨ρ,t,vs,hr,rv,w⟩:=h
 simp only[blt]at w
 split at w
 . split at w
   . rename_i hz
     obtain⟨x,rfl,rx⟩:=uD rv
     cases rx
     exact L2.qm pins s σ H _ us Q I r ⟨_,rfl,by rw[←yc];exact hz,zM hr (.int _) w⟩
   . exact w.elim
 . split at w
   . rename_i e
     obtain⟨x,rfl,rx⟩:=uD rv
     obtain⟨p,ys,rfl,hq,q⟩:=rF hr rx e
     refine L2.ql pins s σ H _ us Q I r ⟨p,ys,rfl,hq,?_⟩
     rw[←q.length]
     exact zM hr (.int _) w
   . exact w.elim
 . exact w.elim
theorem sN(hc:X.calm=true):L2.z6 X (.builtin "all") (rMc X.K X.mg (blt .all m)):=by
 intro pins s σ H xs us Q I r h
 obtain⟨ρ,t,vs,hr,rv,w⟩:=h
 simp only[blt]at w
 split at w
 . split at w
   . rename_i e
     split at w
     . rename_i bs eb
       obtain⟨x,rfl,rx⟩:=uD rv
       obtain⟨p,ys,rfl,hq,q⟩:=xX hr rx e
       rw[q.bools eb]at hq
       exact L2.sN hc pins s σ H _ us Q I r ⟨p,bs,rfl,.of hq,zM hr (.bool _) w⟩
     . exact w.elim
   . exact w.elim
 . exact w.elim
theorem nS:L2.z6 X (.type "tuple") (rMc X.K X.mg (blt .tuple m)):=by
 intro pins s σ H xs us Q I r h
 obtain⟨ρ,t,vs,hr,rv,w⟩:=h
 simp only[blt]at w
 split at w
 . obtain⟨x,rfl,rx⟩:=uD rv
   cases rx with
   |tup n e q=>exact L2.vo pins s σ H _ us Q I r ⟨_,_,rfl,.inr ⟨.of e,zM hr (.tup n e q) w⟩⟩
 . split at w
   . rename_i e
     obtain⟨x,rfl,rx⟩:=uD rv
     obtain⟨p,ys,rfl,hq,q⟩:=xX hr rx e
     exact L2.vo pins s σ H _ us Q I r ⟨p,ys,rfl,.inl ⟨.of hq,pE hr q w⟩⟩
   . exact w.elim
 . exact w.elim
theorem kR:L2.z6 X (.type "list") (rMc X.K X.mg (blt .list m)):=by
 intro pins s σ H xs us Q I r h
 obtain⟨ρ,t,vs,hr,rv,w⟩:=h
 simp only[blt]at w
 split at w
 . split at w
   . rename_i e
     obtain⟨x,rfl,rx⟩:=uD rv
     obtain⟨p,ys,rfl,hq,q⟩:=rF hr rx e
     exact L2.qo pins s σ H _ us Q I r ⟨p,ys,rfl,hq,wL hr q w⟩
   . exact w.elim
 . exact w.elim
theorem iN(hr0:L2.xG k X.A):L2.z6 X (.builtin "repr") (rMc X.K X.mg (blt .repr m)):=by
 intro pins s σ H xs us Q I r h
 obtain⟨ρ,t,vs,hr,rv,w⟩:=h
 simp only[blt]at w
 split at w
 . rename_i v
   split at w
   . rename_i hc
     rw[Bool.and_eq_true]at hc
     obtain⟨x,rfl,rx⟩:=uD rv
     obtain⟨u,rfl,ru⟩:=L2.vals1 r
     have S:=Yz hc.2
     have q:Q (.str (zr t v).d.shown) H:=zM hr (.str _) w
     have fin:∀(tk':Tok) (tk:Nat),L2.EP X pins σ Q (.str (zr t v).d.shown tk') {s with toks:=tk}:=fun _ tk=>⟨.str _,H,I.tok _,⟨_,rfl⟩,q⟩
     obtain⟨as,R,hs⟩:=xg I.hok hr hc.1 rx ru
     have fr:∀a,u=.ref a→wpAny (model X.prog X.w) X.A (call (.builtin "repr") [u]) (L2.EP X pins σ Q) X.xe s:=fun a e=>by
      subst e
      refine repr_of_reads' R S.sh (fun z=>hs (S.mix z)) hr0.gd ?_ (fun _ _ e=>e) (fun h' u tk hk=>⟨.str _,H,I.kept hk,⟨_,rfl⟩,q⟩) S.ln
      have:=S.dp
      have:=hr0.un
      omega
     cases rx with
     |none=>cases (show u=Value.none from ru);exact PySem.P.repr_of_none (fin _ _)
     |bool b=>cases (show u=Value.bool b from ru);exact PySem.P.repr_of_bool (fin _ _)
     |int i=>obtain⟨t',z⟩:=(show ∃t,u=Value.int i t from ru);cases z;exact PySem.P.repr_of_int (by simpa [zr,yM,Val.d,PyData.showable] using S.sh) (fin _ _)
     |str x=>obtain⟨t',z⟩:=(show ∃t,u=Value.str x t from ru);cases z;exact PySem.P.repr_of_str (fin _ _) S.ln
     |tup _ _ _=>exact fr _ ru
     |lst _ _ _=>exact fr _ ru
     |dct0 _ _=>exact fr _ ru
     |ref _=>exact fr _ ru
     |ctup _=>exact fr _ ru
     |scr _=>exact fr _ ru
     |fn _=>exact fr _ ru
     |ty _=>exact absurd hc.1 (by simp[zr,yM,Val.isR])
   . exact w.elim
 . exact w.elim
theorem iL(hc:X.calm=true):L2.z6 X (.builtin "max") (rMc X.K X.mg (blt .max m)):=by
 intro pins s σ H xs us Q I r h
 obtain⟨ρ,t,vs,hr,rv,w⟩:=h
 simp only[blt]at w
 split at w
 . obtain⟨x,y,rfl,rx,ry⟩:=jj rv
   cases rx;cases ry
   exact L2.kS hc pins s σ H _ us Q I r ⟨_,_,rfl,zM hr (.int _) w⟩
 . split at w
   . rename_i e
     split at w
     . rename_i ns en
       split at w
       . rename_i hn
         obtain⟨x,rfl,rx⟩:=uD rv
         obtain⟨p,ys,rfl,hq,q⟩:=xX hr rx e
         rw[q.lY en]at hq
         exact L2.kT hc pins s σ H _ us Q I r ⟨p,ns,rfl,.of hq,hn,zM hr (.int _) w⟩
       . exact w.elim
     . exact w.elim
   . exact w.elim
 . exact w.elim
theorem iM(hc:X.calm=true):L2.z6 X (.builtin "min") (rMc X.K X.mg (blt .min m)):=by
 intro pins s σ H xs us Q I r h
 obtain⟨ρ,t,vs,hr,rv,w⟩:=h
 simp only[blt]at w
 split at w
 . obtain⟨x,y,rfl,rx,ry⟩:=jj rv
   cases rx;cases ry
   exact L2.kU hc pins s σ H _ us Q I r ⟨_,_,rfl,zM hr (.int _) w⟩
 . split at w
   . rename_i e
     split at w
     . rename_i ns en
       split at w
       . rename_i hn
         obtain⟨x,rfl,rx⟩:=uD rv
         obtain⟨p,ys,rfl,hq,q⟩:=xX hr rx e
         rw[q.lY en]at hq
         exact L2.kW hc pins s σ H _ us Q I r ⟨p,ns,rfl,.of hq,hn,zM hr (.int _) w⟩
       . exact w.elim
     . exact w.elim
   . exact w.elim
 . exact w.elim
theorem iJ:L2.z6 X (.type "int") (rMc X.K X.mg (blt .int m)):=by
 intro pins s σ H xs us Q I r h
 obtain⟨ρ,t,vs,hr,rv,w⟩:=h
 simp only[blt]at w
 split at w
 . obtain⟨x,rfl,rx⟩:=uD rv
   cases rx
   exact L2.qE pins s σ H _ us Q I r (.inl ⟨_,rfl,zM hr (.int _) w⟩)
 . obtain⟨x,rfl,rx⟩:=uD rv
   cases rx
   exact L2.qE pins s σ H _ us Q I r (.inr ⟨_,rfl,zM hr (.int _) w⟩)
 . exact w.elim
theorem sO:L2.z6 X (.builtin "isinstance") (rMc X.K X.mg (blt .isi m)):=by
 intro pins s σ H xs us Q I r h
 obtain⟨ρ,t,vs,hr,rv,w⟩:=h
 simp only[blt]at w
 split at w
 . split at w
   . rename_i ea ec
     obtain⟨x,y,rfl,rx,ry⟩:=jj rv
     cases ry
     obtain⟨e1,e2⟩:=Yu ec
     subst e1
     exact L2.sO pins s σ H _ us Q I r ⟨_,_,_,_,rfl,X7 hr rx ea,L2.ZK X.K _ _ e2,zM hr (.bool _) w⟩
   . exact w.elim
 . exact w.elim
theorem vK:L2.z6 X (.builtin "divmod") (rMc X.K X.mg (blt .divmod m)):=by
 intro pins s σ H xs us Q I r h
 obtain⟨ρ,t,vs,hr,rv,w⟩:=h
 simp only[blt]at w
 split at w
 . split at w
   . rename_i hz
     obtain⟨x,y,rfl,rx,ry⟩:=jj rv
     cases rx;cases ry
     exact L2.vK pins s σ H _ us Q I r ⟨_,_,rfl,hz,pE hr (.cons (.int _) (.cons (.int _) .nil)) w⟩
   . exact w.elim
 . exact w.elim
theorem iO:L2.z6 X (.type "str") (rMc X.K X.mg (blt .str m)):=by
 intro pins s σ H xs us Q I r h
 obtain⟨ρ,t,vs,hr,rv,w⟩:=h
 simp only[blt]at w
 split at w
 . split at w
   . rename_i hz
     obtain⟨x,rfl,rx⟩:=uD rv
     cases rx
     exact L2.qp pins s σ H _ us Q I r ⟨_,rfl,hz,zM hr (.str _) w⟩
   . exact w.elim
 . exact w.elim
theorem u5(z:Int × Int):∀l,(nc z l).Perm (z::l)
 |[]=>.refl _
 |y::ys=>by
  unfold nc
  split
  . exact .refl _
  . exact((u5 z ys).cons y).trans (.swap z y ys)
theorem xZ:∀l,(ui l).Perm l
 |[]=>.refl _
 |z::zs=>(u5 z _).trans ((xZ zs).cons z)
theorem lX(z:Int × Int):∀l,l.Pairwise (fun a b=>L2.zo a≤L2.zo b)→(nc z l).Pairwise (fun a b=>L2.zo a≤L2.zo b)
 |[],_=>by simp[nc]
 |y::ys,h=>by
  rw[List.pairwise_cons]at h
  unfold nc
  split
  . rename_i hz
    refine List.pairwise_cons.mpr ⟨fun a ha=>?_,List.pairwise_cons.mpr h⟩
    rcases List.mem_cons.mp ha with e|e
    . subst e;exact hz
    . exact Int.le_trans hz (h.1 a e)
  . rename_i hz
    refine List.pairwise_cons.mpr ⟨fun a ha=>?_,lX z ys h.2⟩
    rcases List.mem_cons.mp ((u5 z ys).mem_iff.mp ha) with e|e
    . subst e;omega
    . exact h.1 a e
theorem nD:∀l,(ui l).Pairwise (fun a b=>L2.zo a≤L2.zo b)
 |[]=>.nil
 |z::zs=>lX z _ (nD zs)
theorem nE{l:List (Int × Int)}(nd:l.Nodup)(hb:∀z∈l,0≤z.2∧z.2<1000):(ui l).Pairwise (fun a b=>L2.zo a<L2.zo b):=by
 have h1:=nD l
 have h2:(ui l).Pairwise (·≠·):=(xZ l).nodup_iff.mpr nd
 have h3:=h1.and h2
 refine h3.imp_of_mem ?_
 intro a b ha hb' hab
 have m1:=hb a ((xZ l).mem_iff.mp ha)
 have m2:=hb b ((xZ l).mem_iff.mp hb')
 rcases Int.lt_or_eq_of_le hab.1 with z|z
 . exact z
 . exact absurd (L2.qG m1 m2 z) hab.2
theorem gy{K:KF}{mg:Str→Option Value}{ρ:Own}{H:L2.Hp}:∀{vs:List Val} {xs:List L2.V} {zs:List (Int × Int)},RDs K mg ρ H vs xs→pairsOf vs=some zs→vs=zs.map prV∧L2.fo K H xs zs
 |_,_,_,.nil,h=>by cases h;exact⟨rfl,rfl,fun i z e=>by simp at e⟩
 |_,_,_,.cons (v:=v) (x:=x) (vs:=vs) (xs:=xs) r rs,h=>by
  unfold pairsOf at h
  split at h
  . rename_i hv;cases hv
  . rename_i a b ws hv
    cases hv
    rw[Option.map_eq_some_iff]at h
    obtain⟨zs',h1,rfl⟩:=h
    obtain⟨e1,e2,e3⟩:=gy rs h1
    refine⟨by rw[e1];rfl,by rw[List.length_cons,List.length_cons,e2],fun i z hz=>?_⟩
    cases i with
    |zero=>
     simp at hz;subst hz
     cases r with
     |tup n e q=>
      cases q with
      |cons q1 q2=>
       cases q2 with
       |cons q2 q3=>
        cases q1;cases q2;cases q3
        exact⟨_,rfl,.of e⟩
    |succ i=>
     simp only[List.getElem?_cons_succ]at hz ⊢
     exact e3 i z hz
  . cases h
theorem fC{K:KF}{mg:Str→Option Value}{ρ:Own}{H:L2.Hp}{vs:List Val}{xs:List L2.V}(r:RDs K mg ρ H vs xs):∀{ix:List Nat},(∀i∈ix,i<vs.length)→RDs K mg ρ H (ix.map fun i=>vs.getD i .none) (ix.map fun i=>xs.getD i .non)
 |[],_=>.nil
 |i::ix,h=>by
  have hi:=h i (.head _)
  obtain⟨x,h1,h2⟩:=r.get (List.getElem?_eq_getElem hi)
  refine .cons ?_ (fC r fun j hj=>h j (.tail _ hj))
  show RD K mg ρ H (vs.getD i .none) (xs.getD i .non)
  rw[List.getD_eq_getElem?_getD,List.getElem?_eq_getElem hi,List.getD_eq_getElem?_getD,h1]
  exact h2
theorem fU{K:KF}{mg:Str→Option Value}{ρ:Own}{H:L2.Hp}:∀{vs:List Val} {xs:List L2.V} {zs:List (List Int)},RDs K mg ρ H vs xs→pe vs=some zs→L2.ft K H xs zs
 |_,_,_,.nil,h=>by cases h;exact⟨rfl,fun i z e=>by simp at e⟩
 |_,_,_,.cons (v:=v) (x:=x) (vs:=vs) (xs:=xs) r rs,h=>by
  unfold pe at h
  split at h
  . rename_i hv;cases hv
  . rename_i a ws hv
    cases hv
    split at h
    . rename_i z zs' h1 h2
      cases h
      obtain⟨e2,e3⟩:=fU rs h2
      refine⟨by rw[List.length_cons,List.length_cons,e2],fun i z' hz=>?_⟩
      cases i with
      |zero=>
       simp at hz;subst hz
       cases r with
       |tup n e q=>exact⟨_,rfl,by rw[q.lY h1]at e;exact .of e⟩
      |succ i=>
       simp only[List.getElem?_cons_succ]at hz ⊢
       exact e3 i z' hz
    . cases h
  . cases h
theorem cF{zs:List (List Int)}(h:fE zs=true):zs.length<2∨0<(zs.headD []).length∧(∀z∈zs,z.length=(zs.headD []).length)∧∀i,i+1<zs.length→L2.oM (zs.getD (i+1) []) (zs.getD i [])=false:=by
 unfold fE at h
 rw[Bool.or_eq_true]at h
 rcases h with h|h
 . exact .inl (of_decide_eq_true h)
 . cases zs with
   |nil=>exact .inl (by simp)
   |cons z r=>
    simp only[Bool.and_eq_true,decide_eq_true_eq,List.all_eq_true,List.mem_range,Bool.not_eq_true']at h
    exact .inr ⟨h.1.1,h.1.2,fun i hi=>h.2 i (by omega)⟩
theorem p7:L2.z6 X (.builtin "sorted") (rMc X.K X.mg (blt .sorted m)):=by
 intro pins s σ H xs us Q I r h
 obtain⟨ρ,t,vs,hr,rv,w⟩:=h
 have rise:∀{v:Val} {ws:List Val},RDs X.K X.mg ρ H [v] xs→yN t v=some ws→yh X.K X.mg (RD X.K X.mg) ρ H (pQ m ws t) Q→wpAny (model X.prog X.w) X.A (call (.builtin "sorted") us) (L2.EP X pins σ Q) X.xe s:=fun{v ws} rv e w=>by
  unfold pQ at w
  split at w
  . rename_i zs ez
    split at w
    . rename_i hz
      obtain⟨x,rfl,rx⟩:=uD rv
      obtain⟨p,ys,rfl,hq,q⟩:=xX hr rx e
      exact L2.nR pins s σ H _ us Q I r ⟨p,ys,zs,_,rfl,.of hq,fU q ez,cF hz,wL hr q w⟩
    . exact w.elim
  . exact w.elim
 simp only[blt]at w
 split at w
 . split at w
   . rename_i e
     split at w
     . rename_i zs ez
       split at w
       . rename_i hz
         obtain⟨x,rfl,rx⟩:=uD rv
         obtain⟨p,ys,rfl,hq,q⟩:=xX hr rx e
         obtain⟨ev,pa⟩:=gy q ez
         refine L2.nQ pins s σ H _ us Q I r ⟨p,ys,zs,rfl,.of hq,pa,hz.1,hz.2.1,hz.2.2,fun l ix hl hp hw=>?_⟩
         have hlt:∀i∈ix,i<zs.length:=fun i hi=>List.mem_range.mp (hp.mem_iff.mp hi)
         have e1:(ix.map fun i=>zs.getD i (0,0)).Perm zs:=by
          have:=hp.map fun i=>zs.getD i (0,0)
          refine this.trans ?_
          have:(List.range zs.length).map (fun i=>zs.getD i (0,0))=zs:=by
           apply List.ext_getElem
           . simp
           . intro i h1 h2
             simp[List.getD_eq_getElem?_getD,List.getElem?_eq_getElem h2]
          rw[this]
         have e2:(ix.map fun i=>zs.getD i (0,0))=ui zs:=L2.uF hw (nE hz.2.1 hz.2.2) fun x=>e1.mem_iff.trans (xZ zs).mem_iff.symm
         have rr:=fC q (ix:=ix) (by rw[ev,List.length_map];exact hlt)
         have e3:(ix.map fun i=>(zs.map prV).getD i .none)=(ui zs).map prV:=by
          rw[←e2,List.map_map]
          refine List.map_congr_left fun i hi=>?_
          have:=hlt i hi
          show _=prV (zs.getD i (0,0))
          rw[List.getD_eq_getElem?_getD,List.getElem?_map,List.getElem?_eq_getElem this,List.getD_eq_getElem?_getD,List.getElem?_eq_getElem this]
          rfl
         rw[ev,e3]at rr
         exact wL hr rr w l hl
       . exact rise rv e w
     . exact rise rv e w
   . exact w.elim
 . exact w.elim
noncomputable def okF:Bf→Bool
 |.any|.sum=>false
 |_=>true
theorem eA(hc:X.calm=true)(hr0:L2.xG k X.A):∀(f:Bf) (m:Bool),okF f=true→L2.z6 X f.val (rMc X.K X.mg (blt f m))
 |.len,_,_=>iK
 |.all,_,_=>sN hc
 |.any,_,h=>by cases h
 |.tuple,_,_=>nS
 |.list,_,_=>kR
 |.sorted,_,_=>p7
 |.repr,_,_=>iN hr0
 |.max,_,_=>iL hc
 |.min,_,_=>iM hc
 |.sum,_,h=>by cases h
 |.int,_,_=>iJ
 |.isi,_,_=>sO
 |.divmod,_,_=>vK
 |.str,_,_=>iO
end
end M
end
section
namespace M
open PySem
noncomputable def plain:Expr→Bool
 |.Starred ..|.Set ..|.Slice ..|.SetComp ..=>false
 |_=>true
theorem za{e:Expr}(h:plain e=true):L2.noStar e=true:=by cases e<;>first|rfl|cases h
theorem vA{op:CmpOp}{e:Expr}(h:plain e=true):behindInMarks op e=false:=by cases e<;>first|rfl|cases h
theorem gw{e:Expr}(h:plain e=true):L2.lB e:=by
 intro o i
 cases e<;>first|rfl|cases h
theorem yG{e:Expr}{env:PySem.Env}(h:plain e=true)(x:Value):foldedSetIterable e env x=pure x:=by cases e<;>first|rfl|cases h
noncomputable def pF:Expr→Bool
 |.Call (.Name _ _) [] [] _=>false
 |_=>true
theorem wu{o:Expr}{name:Str}{env:PySem.Env}(h:pF o=true):attributeBase o name env (eval o env)=eval o env:=by
 unfold attributeBase
 split
 . cases h
 . rfl
noncomputable def plainT:Expr→Bool
 |.UnaryOp .Not _ _|.BoolOp ..|.IfExp ..|.Compare ..=>false
 |_=>true
theorem jg{e:Expr}{env:PySem.Env}(h:plainT e=true)(whole:Sem Value):isTrue e env whole=(do let v ←whole;standAt e.pos;holding [v] (truthy v)):=by
 cases e with
 |UnaryOp op a p=>cases op<;>first|rfl|cases h
 |_=>first|rfl|cases h
noncomputable def yb:List Expr→Bool
 |[]=>true
 |e::es=>plain e&&yb es
theorem uC:∀{es:List Expr} {pos:Pos} {env:PySem.Env},yb es=true→(backTo pos (starEach es env)).any (·.1)=false
 |[],_,_,_=>rfl
 |e::es,pos,env,h=>by
  rw[yb,Bool.and_eq_true]at h
  rw[L2.yA (za h.1)]
  show (false||(backTo pos (starEach es env)).any (·.1))=false
  rw[uC h.2];rfl
section
variable {K:KF}{mg:Str→Option Value}{env:Env}{s s1:Sto}{ρ ρ':Own}{H H':L2.Hp}
theorem yh.mono{α β:Type}{R:Own→L2.Hp→α→β→Prop}{o:Out α}{Q:β→L2.Hp→Prop}(w:yh K mg R ρ H o Q)(x:Ext ρ H ρ' H')(h:HR K mg ρ' s1 H'):yh K mg R ρ' H' o Q:=by
 cases o with
 |ok v s'=>exact fun ρ2 y H2 x2 h2 r2=>w ρ2 y H2 (x.trans h x2) h2 r2
 |_=>exact w
end
section
variable {X:L2.Cx}{env:Env}{s:Sto}{E a b c:Expr}
theorem zL{o:Out Val}(h:∀v s',o≠.ok v s'):L2.PE X E (tV X.K X.mg env s o):=XU fun _ _ _=>X5 h
theorem un1{o:Out Val}{r:L2.V→L2.Hp→L2.VK→Prop}{g:Val→Sto→Out Val}(h:L2.PE X a (tV X.K X.mg env s o))(rule:∀ta,L2.PE X a ta→L2.PE X E (L2.tUn r ta))
 (op:∀ρ H s1 v x Q,HR X.K X.mg ρ s1 H→RD X.K X.mg ρ H v x→yh X.K X.mg (RD X.K X.mg) ρ H (g v s1) Q→r x H Q):L2.PE X E (tV X.K X.mg env s (o.bind g)):=by
 cases o with
 |ok v s1=>exact zk (rule _ h) fun σ H Q ⟨ρ,hr,er,w⟩=>⟨ρ,hr,er,fun ρ1 x H1 x1 hr1 r1=>op ρ1 H1 s1 v x Q hr1 r1 (w.mono x1 hr1)⟩
 |exc _ _ _=>exact zL nofun
 |stuck=>exact zL nofun
theorem b8{o:Out Val}{f2:Sto→Out Val}{g:Val→Val→Sto→Out Val}(h1:L2.PE X a (tV X.K X.mg env s o))(h2:∀s1,L2.PE X b (tV X.K X.mg env s1 (f2 s1)))
 (rule:∀ta tb,L2.PE X a ta→L2.PE X b tb→L2.PE X E (L2.tOp (rM2 X.K X.mg g) ta tb)):L2.PE X E (tV X.K X.mg env s (o.bind fun x s1=>(f2 s1).bind fun y s2=>g x y s2)):=by
 cases o with
 |ok v s1=>
  show L2.PE X E (tV X.K X.mg env s ((f2 s1).bind fun y s2=>g v y s2))
  have h2':=h2 s1
  cases hb:f2 s1 with
  |ok w s2=>
   rw[hb]at h2'
   exact zk (rule _ _ h1 h2') fun σ H Q ⟨ρ,hr,er,wt⟩=>⟨ρ,hr,er,fun ρ1 x H1 x1 hr1 r1=>⟨ρ1,hr1,er.mono x1,fun ρ2 y H2 x2 hr2 r2=>⟨ρ2,s2,v,w,hr2,r1.mono x2,r2,wt.mono (x1.trans hr1 x2) hr2⟩⟩⟩
  |exc _ _ _=>exact zL nofun
  |stuck=>exact zL nofun
 |exc _ _ _=>exact zL nofun
 |stuck=>exact zL nofun
theorem hU{op op':Cop}{o:Out Val}{f2 f3:Sto→Out Val}{k:Nat}{pos:Pos}(k1:okC op=true)(k2:okC op'=true)(hr0:L2.xG k X.A)(h1:L2.PE X a (tV X.K X.mg env s o))(h2:∀s1,L2.PE X b (tV X.K X.mg env s1 (f2 s1)))(h3:∀s1,L2.PE X c (tV X.K X.mg env s1 (f3 s1)))(hm:plain c=true) :
 L2.PE X (.Compare a [op.op,op'.op] [b,c] pos) (tV X.K X.mg env s (o.bind fun x s1=>(f2 s1).bind fun y s2=>(zT op x y s2).bind fun r s3=>match r with
  |.bool true=>(f3 s3).bind fun z s4=>zT op' y z s4
  |.bool false=>.ok (.bool false) s3
  |_=>.stuck)):=by
 cases o with
 |ok v s1=>
  have h2':=h2 s1
  show L2.PE X _ (tV X.K X.mg env s ((f2 s1).bind _))
  cases hb:f2 s1 with
  |ok w s2=>
   rw[hb]at h2'
   show L2.PE X _ (tV X.K X.mg env s ((zT op v w s2).bind _))
   cases hc:zT op v w s2 with
   |ok r s3=>
    cases r with
    |bool t=>
     have h3':=h3 s3
     have rule:=L2.gm (pos:=pos) (tH hr0 op k1) (tH hr0 op' k2) h1 h2' h3' (show lastMarks [op.op,op'.op] [b,c]=false from vA hm)
     refine zk rule fun σ H Q ⟨ρ,hr,er,wt⟩=>⟨ρ,hr,er,fun ρ1 x H1 x1 hr1 r1=>⟨ρ1,hr1,er.mono x1,fun ρ2 y H2 x2 hr2 r2=>⟨ρ2,s2,v,w,hr2,r1.mono x2,r2,?_⟩⟩⟩
     rw[hc]
     intro ρ3 z H3 x3 hr3 r3
     cases r3
     refine⟨t,rfl,?_⟩
     have xx:=(x1.trans hr1 x2).trans hr2 x3
     have wt':=wt.mono xx hr3
     cases t with
     |true=>
      rw[if_pos rfl]
      refine⟨ρ3,hr3,er.mono xx,?_⟩
      have wt2:yh X.K X.mg (RD X.K X.mg) ρ3 H3 ((f3 s3).bind fun z s4=>zT op' w z s4) Q:=wt'
      cases hz:f3 s3 with
      |ok u s4=>
       rw[hz]at wt2
       exact fun ρ4 q H4 x4 hr4 r4=>⟨ρ4,s4,w,u,hr4,(r2.mono x3).mono x4,r4,wt2.mono x4 hr4⟩
      |exc _ _ _=>rw[hz]at wt2;exact wt2
      |stuck=>rw[hz]at wt2;exact wt2
     |false=>
      rw[if_neg Bool.false_ne_true]
      exact zM hr3 (.bool false) wt'
    |_=>exact zL nofun
   |exc _ _ _=>exact zL nofun
   |stuck=>exact zL nofun
  |exc _ _ _=>exact zL nofun
  |stuck=>exact zL nofun
 |exc _ _ _=>exact zL nofun
 |stuck=>exact zL nofun
theorem ay{o:Out Val}{pos:Pos}(h:L2.PE X a (tV X.K X.mg env s o)):L2.PE X (.UnaryOp .USub a pos) (tV X.K X.mg env s (o.bind fun x s1=>match x with|.int i=>.ok (.int (-i)) s1|_=>.stuck)):=by
 refine un1 h (fun ta q=>L2.XY L2.YI q) fun ρ H s1 v x Q hr r w=>?_
 cases r with
 |int i=>exact⟨i,rfl,zM hr (.int _) w⟩
 |_=>exact w.elim
theorem az{o:Out Val}{pos:Pos}(h:L2.PE X a (tV X.K X.mg env s o)):L2.PE X (.UnaryOp .Not a pos) (tV X.K X.mg env s (o.bind fun x s1=>match x with|.bool b=>.ok (.bool !b) s1|_=>.stuck)):=by
 refine un1 (r:=fun x H Q=>∃c,x=.bl c∧Q (.bl (!c)) H) h (fun ta q=>L2.Zp q) fun ρ H s1 v x Q hr r w=>?_
 cases r with
 |bool i=>exact⟨i,rfl,zM hr (.bool _) w⟩
 |_=>exact w.elim
theorem hG{rest:List Expr}{o:Out Val}{f2:Sto→Out Val}{pos:Pos}(h1:L2.PE X a (tV X.K X.mg env s o))(h2:∀s1,L2.PE X (.BoolOp .And (b::rest) pos) (tV X.K X.mg env s1 (f2 s1))) :
 L2.PE X (.BoolOp .And (a::b::rest) pos) (tV X.K X.mg env s (o.bind fun x s1=>match x with|.bool true=>f2 s1|.bool false=>.ok (.bool false) s1|_=>.stuck)):=by
 cases o with
 |ok v s1=>
  refine zk (L2.Zl h1 (h2 s1)) fun σ H Q ⟨ρ,hr,er,wt⟩=>⟨ρ,hr,er,fun ρ1 x H1 x1 hr1 r1=>?_⟩
  have wt':=wt.mono x1 hr1
  cases r1 with
  |bool t=>
   refine⟨t,rfl,?_⟩
   cases t with
   |true=>exact L2.rV (⟨ρ1,hr1,er.mono x1,wt'⟩)
   |false=>exact L2.rT (zM hr1 (.bool _) wt')
  |_=>exact wt'.elim
 |exc _ _ _=>exact zL nofun
 |stuck=>exact zL nofun
theorem bN{rest:List Expr}{o:Out Val}{f2:Sto→Out Val}{pos:Pos}(h1:L2.PE X a (tV X.K X.mg env s o))(h2:∀s1,L2.PE X (.BoolOp .Or (b::rest) pos) (tV X.K X.mg env s1 (f2 s1))) :
 L2.PE X (.BoolOp .Or (a::b::rest) pos) (tV X.K X.mg env s (o.bind fun x s1=>match truth s1 x with|some false=>f2 s1|some true=>.ok x s1|Option.none=>.stuck)):=by
 cases o with
 |ok v s1=>
  refine zk (L2.Zq h1 (h2 s1)) fun σ H Q ⟨ρ,hr,er,wt⟩=>⟨ρ,hr,er,fun ρ1 x H1 x1 hr1 r1=>?_⟩
  have wt':yh X.K X.mg (RD X.K X.mg) ρ1 H1 (match truth s1 v with|some false=>f2 s1|some true=>.ok v s1|Option.none=>.stuck) Q:=wt.mono x1 hr1
  cases ht:truth s1 v with
  |none=>rw[ht]at wt';exact wt'.elim
  |some t=>
   rw[ht]at wt'
   refine⟨t,fW hr1 r1 ht,?_⟩
   cases t with
   |true=>exact L2.rV (zM hr1 r1 wt')
   |false=>exact L2.rT (⟨ρ1,hr1,er.mono x1,wt'⟩)
 |exc _ _ _=>exact zL nofun
 |stuck=>exact zL nofun
theorem av{o:Out Bool}{f2 f3:Sto→Out Val}{pos:Pos}(h1:L2.PT X c (tT X.K X.mg env s o))(h2:∀s1,L2.PE X a (tV X.K X.mg env s1 (f2 s1)))(h3:∀s1,L2.PE X b (tV X.K X.mg env s1 (f3 s1))) :
 L2.PE X (.IfExp c a b pos) (tV X.K X.mg env s (o.bind fun t s1=>if t then f2 s1 else f3 s1)):=by
 cases o with
 |ok v s1=>
  refine zk (L2.gn h1 (h2 s1) (h3 s1)) fun σ H Q ⟨ρ,hr,er,wt⟩=>⟨ρ,hr,er,fun ρ1 x H1 x1 hr1 r1=>?_⟩
  have wt':=wt.mono x1 hr1
  cases r1
  cases v with
  |true=>exact L2.rV (⟨ρ1,hr1,er.mono x1,wt'⟩)
  |false=>exact L2.rT (⟨ρ1,hr1,er.mono x1,wt'⟩)
 |exc _ _ _=>exact zL nofun
 |stuck=>exact zL nofun
theorem ua{es:List Expr}{o:Out (List Val)}(h:∀v s',o≠.ok v s'):L2.PA X es (tVs X.K X.mg env s o):=XR fun _ _ _=>Z8 h
theorem ef:L2.PA X [] (tVs X.K X.mg env s (.ok [] s)):=gh L2.vR fun σ H Q ⟨ρ,hr,er,wt⟩=>wt ρ [] H Ext.refl hr .nil
theorem hZ{es:List Expr}{o:Out Val}{f2:Sto→Out (List Val)}(hp:plain a=true)(h1:L2.PE X a (tV X.K X.mg env s o))(h2:∀s1,L2.PA X es (tVs X.K X.mg env s1 (f2 s1))) :
 L2.PA X (a::es) (tVs X.K X.mg env s (o.bind fun v s1=>(f2 s1).bind fun vs s2=>.ok (v::vs) s2)):=by
 cases o with
 |ok v s1=>
  have h2':=h2 s1
  show L2.PA X _ (tVs X.K X.mg env s ((f2 s1).bind _))
  cases hb:f2 s1 with
  |ok ws s2=>
   rw[hb]at h2'
   exact gh (L2.pac h1 h2' (za hp)) fun σ H Q ⟨ρ,hr,er,wt⟩=>⟨ρ,hr,er,fun ρ1 x H1 x1 hr1 r1=>⟨ρ1,hr1,er.mono x1,fun ρ2 y H2 x2 hr2 r2=>wt ρ2 _ H2 (x1.trans hr1 x2) hr2 (.cons (r1.mono x2) r2)⟩⟩
  |exc _ _ _=>exact ua nofun
  |stuck=>exact ua nofun
 |exc _ _ _=>exact ua nofun
 |stuck=>exact ua nofun
theorem hX{es:List Expr}{o:Out (List Val)}{k:Nat}{pos:Pos}(h:L2.PA X es (tVs X.K X.mg env s o)):L2.PE X (.Tuple es k pos) (tV X.K X.mg env s (o.bind fun vs s1=>if vs.length≤zP then .ok (.tup vs) s1 else .stuck)):=by
 cases o with
 |ok vs s1=>
  refine zk (L2.Zs h) fun σ H Q ⟨ρ,hr,er,wt⟩=>⟨ρ,hr,er,fun ρ1 xs H1 x1 hr1 r1=>?_⟩
  have wt':yh X.K X.mg (RD X.K X.mg) ρ1 H1 (if vs.length≤zP then .ok (.tup vs) s1 else .stuck) Q:=wt.mono x1 hr1
  by_cases hz:vs.length≤zP
  . rw[if_pos hz]at wt'
    exact⟨by rw[←r1.length,←yc];exact hz,pE hr1 r1 wt'⟩
  . rw[if_neg hz]at wt';exact wt'.elim
 |exc _ _ _=>exact zL nofun
 |stuck=>exact zL nofun
theorem ax{es:List Expr}{o:Out (List Val)}{m:Bool}{pos:Pos}(h:L2.PA X es (tVs X.K X.mg env s o)):L2.PE X (.List es pos) (tV X.K X.mg env s (o.bind fun vs s1=>if vs.length≤zP then newList m vs s1 else .stuck)):=by
 cases o with
 |ok vs s1=>
  refine zk (L2.Zn h) fun σ H Q ⟨ρ,hr,er,wt⟩=>⟨ρ,hr,er,fun ρ1 xs H1 x1 hr1 r1=>?_⟩
  have wt':yh X.K X.mg (RD X.K X.mg) ρ1 H1 (if vs.length≤zP then newList m vs s1 else .stuck) Q:=wt.mono x1 hr1
  by_cases hz:vs.length≤zP
  . rw[if_pos hz]at wt'
    exact⟨by rw[←r1.length,←yc];exact hz,wL hr1 r1 wt'⟩
  . rw[if_neg hz]at wt';exact wt'.elim
 |exc _ _ _=>exact zL nofun
 |stuck=>exact zL nofun
theorem Yo{es:List Expr}{o:Out (List Val)}{g:List Val→Sto→Out Val}(h:L2.PA X es (tVs X.K X.mg env s o))(rule:∀t,L2.PA X es t→L2.PE X E (L2.tCB (rMc X.K X.mg g) t)):L2.PE X E (tV X.K X.mg env s (o.bind g)):=by
 cases o with
 |ok vs s1=>exact zk (rule _ h) fun σ H Q ⟨ρ,hr,er,wt⟩=>⟨ρ,hr,er,fun ρ1 xs H1 x1 hr1 r1=>⟨ρ1,s1,vs,hr1,r1,wt.mono x1 hr1⟩⟩
 |exc _ _ _=>exact zL nofun
 |stuck=>exact zL nofun
theorem au{es:List Expr}{o:Out (List Val)}{f:Bf}{m:Bool}{k:Nat}{p pos:Pos}(k1:okF f=true)(hc:X.calm=true)(hr0:L2.xG k X.A)(hg:L2.Gl X f.nm)(hm:X.mg f.nm=none)(hp:yb (a::es)=true)(h:L2.PA X (a::es) (tVs X.K X.mg env s o)) :
 L2.PE X (.Call (.Name f.nm p) (a::es) [] pos) (tV X.K X.mg env s (o.bind (blt f m))):=by
 rw[yb,Bool.and_eq_true]at hp
 refine Yo h fun t ht=>?_
 have hb:=eA hc hr0 f m k1
 have bo:=f.boot
 have st:=L2.yA (es:=es) (env:=X.env) (za hp.1)
 have hn:=uC (pos:=pos) (env:=X.env) hp.2
 cases f with
 |tuple=>exact L2.vj hb hg hm bo ht (by decide) (by decide) st hn
 |list=>exact L2.vj hb hg hm bo ht (by decide) (by decide) st hn
 |int=>exact L2.vj hb hg hm bo ht (by decide) (by decide) st hn
 |str=>exact L2.vj hb hg hm bo ht (by decide) (by decide) st hn
 |_=>exact L2.gk hb hg hm bo ht (by decide) (by decide) st hn
theorem z5{o:Out Bool}(h:∀v s',o≠.ok v s'):L2.PT X E (tT X.K X.mg env s o):=Xf fun _ _ _=>bZ h
theorem ZF{o:Out Val}(hp:plainT a=true)(h:L2.PE X a (tV X.K X.mg env s o)):L2.PT X a (tT X.K X.mg env s o.truth):=by
 cases o with
 |ok v s1=>
  refine pM (L2.fB h (jg hp)) fun σ H Q ⟨ρ,hr,er,wt⟩=>⟨ρ,hr,er,fun ρ1 x H1 x1 hr1 r1=>?_⟩
  have wt':=wt.mono x1 hr1
  simp only[Out.truth,zR]at wt'
  cases ht:truth s1 v with
  |none=>rw[ht]at wt';exact wt'.elim
  |some b=>rw[ht]at wt';exact⟨b,fW hr1 r1 ht,wt' _ _ _ Ext.refl hr1 rfl⟩
 |exc _ _ _=>exact z5 nofun
 |stuck=>exact z5 nofun
theorem ZE{o:Out Bool}{pos:Pos}(h:L2.PT X a (tT X.K X.mg env s o)):L2.PT X (.UnaryOp .Not a pos) (tT X.K X.mg env s (o.bind fun b s1=>.ok (!b) s1)):=by
 cases o with
 |ok v s1=>exact pM (L2.Zz h) fun σ H Q ⟨ρ,hr,er,wt⟩=>⟨ρ,hr,er,fun ρ1 x H1 x1 hr1 r1=>by cases r1;exact wt _ _ _ x1 hr1 rfl⟩
 |exc _ _ _=>exact z5 nofun
 |stuck=>exact z5 nofun
theorem ud{o:Out Bool}(h:∀v s',o≠.ok v s'):L2.PW X E (tT X.K X.mg env s o):=Xh fun _ _ _=>bZ h
theorem ni{pos:Pos}:L2.PW X (.BoolOp .And [] pos) (tT X.K X.mg env s (.ok true s)):=fun wh pins sh σ H Q I ⟨ρ,hr,er,wt⟩=>PyProof.Rows.isTrue_and_nil ⟨H,I,wt _ _ _ Ext.refl hr rfl⟩
theorem kn{pos:Pos}:L2.PW X (.BoolOp .Or [] pos) (tT X.K X.mg env s (.ok false s)):=fun wh pins sh σ H Q I ⟨ρ,hr,er,wt⟩=>PyProof.Rows.isTrue_or_nil ⟨H,I,wt _ _ _ Ext.refl hr rfl⟩
theorem gE{rest:List Expr}{o:Out Bool}{f2:Sto→Out Bool}{pos:Pos}(h1:L2.PT X a (tT X.K X.mg env s o))(h2:∀s1,L2.PW X (.BoolOp .And rest pos) (tT X.K X.mg env s1 (f2 s1))) :
 L2.PW X (.BoolOp .And (a::rest) pos) (tT X.K X.mg env s (o.bind fun b s1=>if b then f2 s1 else .ok false s1)):=by
 cases o with
 |ok v s1=>
  intro wh pins sh σ H Q I h
  obtain⟨ρ,hr,er,wt⟩:=h
  refine PyProof.Rows.isTrue_and (L2.thn (h1 pins sh σ H (fun c H1=>if c=true then tT X.K X.mg env s1 (f2 s1) σ H1 Q else Q false H1) I ⟨ρ,hr,er,fun ρ1 x H1 x1 hr1 r1=>?_⟩) fun c s' ⟨H1,I1,q1⟩=>?_)
  . have wt':=wt.mono x1 hr1
    cases r1
    cases v with
    |true=>exact L2.rV (⟨ρ1,hr1,er.mono x1,wt'⟩)
    |false=>exact L2.rT (wt' _ _ _ Ext.refl hr1 rfl)
  . cases c with
    |true=>exact h2 s1 wh pins s' σ H1 Q I1 q1
    |false=>exact⟨H1,I1,q1⟩
 |exc _ _ _=>exact ud nofun
 |stuck=>exact ud nofun
theorem bO{rest:List Expr}{o:Out Bool}{f2:Sto→Out Bool}{pos:Pos}(h1:L2.PT X a (tT X.K X.mg env s o))(h2:∀s1,L2.PW X (.BoolOp .Or rest pos) (tT X.K X.mg env s1 (f2 s1))) :
 L2.PW X (.BoolOp .Or (a::rest) pos) (tT X.K X.mg env s (o.bind fun b s1=>if b then .ok true s1 else f2 s1)):=by
 cases o with
 |ok v s1=>
  intro wh pins sh σ H Q I h
  obtain⟨ρ,hr,er,wt⟩:=h
  refine PyProof.Rows.isTrue_or (L2.thn (h1 pins sh σ H (fun c H1=>if c=true then Q true H1 else tT X.K X.mg env s1 (f2 s1) σ H1 Q) I ⟨ρ,hr,er,fun ρ1 x H1 x1 hr1 r1=>?_⟩) fun c s' ⟨H1,I1,q1⟩=>?_)
  . have wt':=wt.mono x1 hr1
    cases r1
    cases v with
    |true=>exact L2.rV (wt' _ _ _ Ext.refl hr1 rfl)
    |false=>exact L2.rT (⟨ρ1,hr1,er.mono x1,wt'⟩)
  . cases c with
    |true=>exact⟨H1,I1,q1⟩
    |false=>exact h2 s1 wh pins s' σ H1 Q I1 q1
 |exc _ _ _=>exact ud nofun
 |stuck=>exact ud nofun
end
end M
end
section
namespace M
open PySem
section
variable {X:L2.Cx}{env:Env}{s:Sto}{E a b c:Expr}
theorem gx{e:Option Expr}{t t':L2.TO}(h:L2.PO X e t)(i:∀σ H Q,t' σ H Q→t σ H Q):L2.PO X e t':=fun pins s σ H Q I q=>h pins s σ H Q I (i σ H Q q)
theorem X1{o:Out (Option Int)}(h:∀v s',o≠.ok v s'){σ:L2.St}{H:L2.Hp}{Q:Option Int→L2.Hp→Prop}:¬tO X.K X.mg env s o σ H Q:=by
 rintro ⟨ρ,_,_,w⟩
 cases o with
 |ok v s'=>exact h v s' rfl
 |_=>exact w
theorem oj{e:Option Expr}{o:Out (Option Int)}(h:∀v s',o≠.ok v s'):L2.PO X e (tO X.K X.mg env s o):=fun pins sh σ H Q I q=>(X1 h q).elim
theorem Ys:L2.PO X none (tO X.K X.mg env s (.ok none s)):=gx L2.du fun σ H Q ⟨ρ,hr,er,wt⟩=>wt _ _ _ Ext.refl hr rfl
theorem a9{o:Out Val}(h:L2.PE X a (tV X.K X.mg env s o)):L2.PO X (some a) (tO X.K X.mg env s (o.bind fun v s1=>match v with|.int i=>.ok (some i) s1|_=>.stuck)):=by
 cases o with
 |ok v s1=>
  refine gx (L2.dv h) fun σ H Q ⟨ρ,hr,er,wt⟩=>⟨ρ,hr,er,fun ρ1 x H1 x1 hr1 r1=>?_⟩
  have wt':=wt.mono x1 hr1
  cases r1 with
  |int i=>exact⟨i,rfl,wt' _ _ _ Ext.refl hr1 rfl⟩
  |_=>exact wt'.elim
 |exc _ _ _=>exact oj nofun
 |stuck=>exact oj nofun
noncomputable def rMs(K:KF)(mg:Str→Option Value)(m:Bool):L2.V→Option Int→Option Int→L2.Hp→L2.VK→Prop:=fun x lo hi H Q=>∃ρ s v,HR K mg ρ s H∧RD K mg ρ H v x∧yh K mg (RD K mg) ρ H (wU m v lo hi none s) Q
theorem Xv(m:Bool):L2.SlR X (rMs X.K X.mg m):=by
 intro pins s σ H x v vl vu lo hi sl Q I rx hs pl pu h
 obtain⟨ρ,t,w,hr,rw',wt⟩:=h
 simp only[wU]at wt
 split at wt
 . cases rw' with
   |tup n e q=>exact L2.cX pins s σ H _ v vl vu lo hi sl Q I rx hs pl pu ⟨_,_,rfl,e,uW hr (q.cut lo hi) wt⟩
 . rename_i heq
   cases heq
 . split at wt
   . rename_i e
     obtain⟨p,xs,rfl,hq,q⟩:=xX hr rw' e
     exact L2.cU pins s σ H _ v vl vu lo hi sl Q I rx hs pl pu ⟨_,_,rfl,.of hq,wL hr (q.cut lo hi) wt⟩
   . exact wt.elim
 . rename_i heq
   cases heq
theorem Yq{lo hi st:Option Expr}{o:Out Val}{f2 f3 f4:Sto→Out (Option Int)}{m:Bool}{p2 pos:Pos}(h1:L2.PE X a (tV X.K X.mg env s o))(h2:∀s1,L2.PO X lo (tO X.K X.mg env s1 (f2 s1)))(h3:∀s1,L2.PO X hi (tO X.K X.mg env s1 (f3 s1)))
 (h4:∀s1,L2.PO X st (tO X.K X.mg env s1 (f4 s1))) (hst:(st=none∧∀s1,f4 s1=.ok none s1)∨∃e,st=some e∧∀s1 s2,f4 s1≠.ok none s2) :
 L2.PE X (.Subscript a (.Slice lo hi st p2) pos) (tV X.K X.mg env s (o.bind fun x s1=>(f2 s1).bind fun l s2=>(f3 s2).bind fun h s3=>(f4 s3).bind fun c s4=>wU m x l h c s4)):=by
 cases o with
 |ok v s1=>
  have h2':=h2 s1
  show L2.PE X _ (tV X.K X.mg env s ((f2 s1).bind _))
  cases hl:f2 s1 with
  |ok l s2=>
   rw[hl]at h2'
   have h3':=h3 s2
   show L2.PE X _ (tV X.K X.mg env s ((f3 s2).bind _))
   cases hh:f3 s2 with
   |ok h s3=>
    rw[hh]at h3'
    have h4':=h4 s3
    show L2.PE X _ (tV X.K X.mg env s ((f4 s3).bind _))
    rcases hst with⟨rfl,e4⟩|⟨e,rfl,e4⟩
    . rw[e4 s3]
      refine zk (L2.gp (Xv m) h1 h2' h3') fun σ H Q ⟨ρ,hr,er,wt⟩=>⟨ρ,hr,er,fun ρ1 x H1 x1 hr1 r1=>⟨ρ1,hr1,er.mono x1,fun ρ2 y H2 x2 hr2 r2=>?_⟩⟩
      cases r2
      refine⟨ρ2,hr2,(er.mono x1).mono x2,fun ρ3 z H3 x3 hr3 r3=>?_⟩
      cases r3
      exact⟨ρ3,s3,v,hr3,(r1.mono x2).mono x3,wt.mono ((x1.trans hr1 x2).trans hr2 x3) hr3⟩
    . cases hc:f4 s3 with
      |ok cc s4=>
       rw[hc]at h4'
       cases cc with
       |none=>exact absurd hc (e4 s3 s4)
       |some ci=>
        by_cases hv:∃vs,v=.tup vs
        case neg=>
         refine zk (L2.mD h1 h2' h3' h4') fun σ H Q ⟨ρ,hr,er,wt⟩=>⟨ρ,hr,er,fun ρ1 x H1 x1 hr1 r1=>⟨ρ1,hr1,er.mono x1,fun ρ2 y H2 x2 hr2 r2=>?_⟩⟩
         cases r2
         refine⟨ρ2,hr2,(er.mono x1).mono x2,fun ρ3 z H3 x3 hr3 r3=>?_⟩
         cases r3
         refine⟨ρ3,hr3,((er.mono x1).mono x2).mono x3,fun ρ4 z4 H4 x4 hr4 r4=>?_⟩
         cases r4
         have wt':yh X.K X.mg (RD X.K X.mg) ρ4 H4 (wU m v l h (some ci) s4) Q:=wt.mono (((x1.trans hr1 x2).trans hr2 x3).trans hr3 x4) hr4
         have em:wU m v l h (some ci) s4=(match yN s4 v with|some vs=>if ci≠0 then newList m (L2.zb vs (L2.xf vs.length l h ci).1 ci (L2.xf vs.length l h ci).2) s4 else .stuck|Option.none=>.stuck):=by
          cases v with
          |tup vs=>exact absurd ⟨vs,rfl⟩ hv
          |_=>rfl
         rw[em]at wt'
         cases hl:yN s4 v with
         |none=>rw[hl]at wt';exact wt'.elim
         |some vs=>
          rw[hl]at wt'
          dsimp only at wt'
          obtain⟨p,xs,rfl,hq,q⟩:=xX hr4 (((r1.mono x2).mono x3).mono x4) hl
          by_cases c0:ci≠0
          . have wt2:yh X.K X.mg (RD X.K X.mg) ρ4 H4 (newList m (L2.zb vs (L2.xf vs.length l h ci).1 ci (L2.xf vs.length l h ci).2) s4) Q:=by rwa [if_pos c0]at wt'
            refine⟨p,xs,ci,rfl,.of hq,rfl,c0,?_⟩
            rw[←q.length]
            exact wL hr4 (q.zb _ _ _) wt2
          . rw[if_neg c0]at wt';exact wt'.elim
        refine zk (L2.jZ h1 h2' h3' h4') fun σ H Q ⟨ρ,hr,er,wt⟩=>⟨ρ,hr,er,fun ρ1 x H1 x1 hr1 r1=>⟨ρ1,hr1,er.mono x1,fun ρ2 y H2 x2 hr2 r2=>?_⟩⟩
        cases r2
        refine⟨ρ2,hr2,(er.mono x1).mono x2,fun ρ3 z H3 x3 hr3 r3=>?_⟩
        cases r3
        refine⟨ρ3,hr3,((er.mono x1).mono x2).mono x3,fun ρ4 z4 H4 x4 hr4 r4=>?_⟩
        cases r4
        have xx:=((x1.trans hr1 x2).trans hr2 x3).trans hr3 x4
        have wt':yh X.K X.mg (RD X.K X.mg) ρ4 H4 (wU m v l h (some ci) s4) Q:=wt.mono xx hr4
        have r:=((r1.mono x2).mono x3).mono x4
        cases r with
        |tup n e q=>
         change yh X.K X.mg (RD X.K X.mg) ρ4 H4 (if ci≠0∧(L2.yB (List.length _) l h ci).2≤zP then .ok (.tup (L2.zb _ (L2.yB (List.length _) l h ci).1 ci (L2.yB (List.length _) l h ci).2)) s4 else .stuck) Q at wt'
         split at wt'
         . rename_i hz
           have hlen:=q.length
           refine⟨_,_,ci,rfl,e,rfl,hz.1,by rw[←hlen,←yc];exact hz.2,?_⟩
           rw[←hlen]
           exact uW hr4 (q.zb _ _ _) wt'
         . exact wt'.elim
        |_=>obtain⟨_,e⟩:=hv;cases e
      |exc _ _ _=>exact zL nofun
      |stuck=>exact zL nofun
   |exc _ _ _=>exact zL nofun
   |stuck=>exact zL nofun
  |exc _ _ _=>exact zL nofun
  |stuck=>exact zL nofun
 |exc _ _ _=>exact zL nofun
 |stuck=>exact zL nofun
noncomputable def Mf.nm:Mf→Str
 |.count=>"count"|.append=>"append"|.extend=>"extend"|.pop=>"pop"|.index=>"index"
theorem hV{f:Mf}{o:Out Val}{f2:Sto→Out Val}{apos cpos:Pos}(hs:pF a=true)(hp:plain b=true)(hline:(apos.endLine == cpos.line)=true)(h1:L2.PE X a (tV X.K X.mg env s o))(h2:∀s1,L2.PE X b (tV X.K X.mg env s1 (f2 s1))) :
 L2.PE X (.Call (.Attribute a f.nm apos) [b] [] cpos) (tV X.K X.mg env s (o.bind fun x s1=>((f2 s1).bind fun v s2=>(Out.ok [v] s2:Out (List Val))).bind fun vs s2=>yi f x vs s2)):=by
 cases o with
 |ok v s1=>
  have h2':=h2 s1
  show L2.PE X _ (tV X.K X.mg env s (((f2 s1).bind fun v s2=>(Out.ok [v] s2:Out (List Val))).bind fun vs s2=>yi f v vs s2))
  cases hb:f2 s1 with
  |ok w s2=>
   rw[hb]at h2'
   show L2.PE X _ (tV X.K X.mg env s (yi f v [w] s2))
   cases f with
   |count=>
    by_cases hv:∃vs,v=.tup vs
    . obtain⟨vs,rfl⟩:=hv
      refine zk (L2.jY h1 h2' (wu hs) (za hp) hline) fun σ H Q ⟨ρ,hr,er,wt⟩=>⟨ρ,hr,er,fun ρ1 x H1 x1 hr1 r1=>?_⟩
      cases r1 with
      |tup n e q=>
       refine⟨⟨_,_,rfl,e⟩,ρ1,hr1,er.mono x1,fun ρ2 y H2 x2 hr2 r2=>?_⟩
       have wt':yh X.K X.mg (RD X.K X.mg) ρ2 H2 (yi .count (.tup vs) [w] s2) Q:=wt.mono (x1.trans hr1 x2) hr2
       simp only[yi]at wt'
       split at wt'
       . rename_i hf
         rw[Bool.and_eq_true]at hf
         have q2:=q.mono x2
         refine⟨_,_,y,rfl,rfl,L2.SqT.of (x2.keep _ _ e n.1),r2.flat hf.1,q2.flat hf.2,?_⟩
         rw[RDs.countP r2 hf.1 q2 hf.2]
         exact zM hr2 (.int _) wt'
       . exact wt'.elim
    . refine zk (L2.jX h1 h2' (wu hs) (za hp) hline) fun σ H Q ⟨ρ,hr,er,wt⟩=>⟨ρ,hr,er,fun ρ1 x H1 x1 hr1 r1=>?_⟩
      have wt':yh X.K X.mg (RD X.K X.mg) ρ1 H1 (yi .count v [w] s2) Q:=wt.mono x1 hr1
      have em:yi .count v [w] s2=(match yN s2 v with|some vs=>if M.flat w&&vs.all M.flat then .ok (.int (vs.countP fun z=>eqF z w:Nat)) s2 else .stuck|Option.none=>.stuck):=by
       cases v with
       |tup vs=>exact absurd ⟨vs,rfl⟩ hv
       |_=>rfl
      rw[em]at wt'
      cases hl:yN s2 v with
      |none=>rw[hl]at wt';exact wt'.elim
      |some vs=>
       rw[hl]at wt'
       -- the receiver is a list already ahead of the argument
       have ty:L2.tyV X.K "list" x H1:=by
        cases r1 with
        |lst n e q=>exact .inl ⟨rfl,_,.of e⟩
        |ref e=>
         obtain⟨xs,q⟩:=hr1.trk (List.mem_of_getElem? e)
         exact .inl ⟨rfl,_,.of q⟩
        |_=>cases hl
       refine⟨ty,ρ1,hr1,er.mono x1,fun ρ2 y H2 x2 hr2 r2=>?_⟩
       obtain⟨p,xs,rfl,hq,q⟩:=xX hr2 (r1.mono x2) hl
       have wt2:=wt'.mono x2 hr2
       simp only at wt2
       split at wt2
       . rename_i hf
         rw[Bool.and_eq_true]at hf
         refine⟨_,_,y,rfl,rfl,L2.SqL.of hq,r2.flat hf.1,q.flat hf.2,?_⟩
         rw[RDs.countP r2 hf.1 q hf.2]
         exact zM hr2 (.int _) wt2
       . exact wt2.elim
   |append=>
    cases v with
    |ref i=>
     refine zk (L2.jW (es:=[]) h1 h2' (wu hs) (za hp) hline) fun σ H Q ⟨ρ,hr,er,wt⟩=>⟨ρ,hr,er,fun ρ1 x H1 x1 hr1 r1=>?_⟩
     cases r1 with
     |ref e=>
      obtain⟨xs,q⟩:=hr1.trk (List.mem_of_getElem? e)
      refine⟨.inl ⟨rfl,_,.of q⟩,ρ1,hr1,er.mono x1,fun ρ2 y H2 x2 hr2 r2=>?_⟩
      have wt':yh X.K X.mg (RD X.K X.mg) ρ2 H2 (yi .append (.ref i) [w] s2) Q:=wt.mono (x1.trans hr1 x2) hr2
      simp only[yi]at wt'
      split at wt'
      . rename_i vs hv
        split at wt'
        . rename_i hz
          obtain⟨b',ys,e1,e2,q2⟩:=hr2.obj i _ hv
          have e':=x2.get e
          rw[e']at e1;cases e1
          refine⟨_,ys,y,rfl,rfl,e2,by rw[←q2.length,←yc];exact hz,?_⟩
          exact wt' _ _ _ (Ext.write hr2 e' _) (hr2.write e' (q2.append (.cons r2 .nil))) .none
        . exact wt'.elim
      . exact wt'.elim
    |_=>exact zL nofun
   |extend=>
    cases v with
    |ref i=>
     have hs1:starEach [b] X.env=(false,eval b X.env)::starEach [] X.env:=L2.yA (za hp)
     have rule:L2.PE X (.Call (.Attribute a "extend" apos) [b] [] cpos) (L2.tBM X.K "list" L2.kA _ (L2.qX _ L2.jz)):=L2.gi PySem.F.plainAttrs_list PySem.F.slot_list_extend PySem.F.type_list_extend L2.jG h1 (L2.pac h2' L2.vR (za hp)) (wu hs) (by rw[hs1];rfl) hline hs1 rfl
     refine zk rule fun σ H Q ⟨ρ,hr,er,wt⟩=>⟨ρ,hr,er,fun ρ1 x H1 x1 hr1 r1=>?_⟩
     cases r1 with
     |ref e=>
      obtain⟨xs,q⟩:=hr1.trk (List.mem_of_getElem? e)
      refine⟨.inl ⟨rfl,_,.of q⟩,ρ1,hr1,er.mono x1,fun ρ2 y H2 x2 hr2 r2=>?_⟩
      have wt':yh X.K X.mg (RD X.K X.mg) ρ2 H2 (yi .extend (.ref i) [w] s2) Q:=wt.mono (x1.trans hr1 x2) hr2
      simp only[yi]at wt'
      split at wt'
      . rename_i vs ws hv hw
        split at wt'
        . rename_i hz
          obtain⟨b',ys,e1,e2,q2⟩:=hr2.obj i _ hv
          obtain⟨p,zs,rfl,hq,q3⟩:=xX hr2 r2 hw
          have e':=x2.get e
          rw[e']at e1;cases e1
          refine⟨_,_,ys,zs,rfl,rfl,e2,hq,by rw[←q2.length,←q3.length,←yc];exact hz,?_⟩
          exact wt' _ _ _ (Ext.write hr2 e' _) (hr2.write e' (q2.append q3)) .none
        . exact wt'.elim
      . exact wt'.elim
    |_=>exact zL nofun
   |pop=>exact zL nofun
   |index=>exact zL nofun
  |exc _ _ _=>exact zL nofun
  |stuck=>exact zL nofun
 |exc _ _ _=>exact zL nofun
 |stuck=>exact zL nofun
end
noncomputable def spN(T:Tbl)(K:KF)(mg:Str→Option Value)(n:Nat)(f:Str)(ver:Nat):L2.Sp:=fun vs H Q _=>∃ρ s args,HR K mg ρ s H∧RDs K mg ρ H args vs∧yh K mg (RD K mg) ρ H (zH T n f ver args s) Q
structure Callee(T:Tbl)(n:Nat)(X:L2.Cx)(f:Str)(ver:Nat)(F:Fn):Prop where
 ex:∃fa fd,X.mg f=some (.ref fa)∧PySem.W.keepIn X.K (.ref fa)=true∧L2.Binds X.K fd F.ps []∧L2.tY X.prog X.w X.K X.mg X.base L2.CX0 n fa fd F.ps (spN T X.K X.mg n f ver)
section
variable {X:L2.Cx}{env:Env}{s:Sto}{T:Tbl}{n ver:Nat}{f:Str}{F:Fn}
theorem hJ{p pos:Pos}(C:Callee T n X f ver F)(hr0:L2.xG n X.A)(hg:L2.Gl X f)(hd:(f == ("__debug__":Str))=false):L2.PE X (.Call (.Name f p) [] [] pos) (tV X.K X.mg env s (zH T n f ver [] s)):=by
 obtain⟨fa,fd,hm,hk,hb,hf⟩:=C.ex
 exact zk (L2.gj hf hr0 hg hm hk hb .nil L2.bT hd) fun σ H Q ⟨ρ,hr,er,wt⟩=>⟨ρ,s,[],hr,.nil,wt⟩
theorem ed{es:List Expr}{o:Out (List Val)}{p pos:Pos}(C:Callee T n X f ver F)(hr0:L2.xG n X.A)(hg:L2.Gl X f)(hd:(f == ("__debug__":Str))=false)(hp:yb es=true)(hne:es≠[])(h:L2.PA X es (tVs X.K X.mg env s o)) :
 L2.PE X (.Call (.Name f p) es [] pos) (tV X.K X.mg env s (o.bind (zH T n f ver))):=by
 obtain⟨fa,fd,hm,hk,hb,hf⟩:=C.ex
 cases o with
 |ok vs s1=>
  cases es with
  |nil=>exact absurd rfl hne
  |cons e es=>
   rw[yb,Bool.and_eq_true]at hp
   refine zk (L2.dY hf hr0 hg hm hk hb .nil L2.bT h hd (L2.yA (za hp.1)) (uC hp.2)) fun σ H Q ⟨ρ,hr,er,wt⟩=>⟨ρ,hr,er,fun ρ1 xs H1 x1 hr1 r1=>?_⟩
   show spN T X.K X.mg n f ver (xs++[]) H1 Q L2.E0
   rw[List.append_nil]
   exact⟨ρ1,s1,vs,hr1,r1,wt.mono x1 hr1⟩
 |exc _ _ _=>exact zL nofun
 |stuck=>exact zL nofun
end
end M
end
section
namespace M
open PySem
mutual
theorem beq_eq:∀{a b:Val},a.beq b=true→a=b
 |.none,b,h=>by cases b<;>first|rfl|cases h
 |.bool x,b,h=>by cases b with|bool y=>simp only[Val.beq,beq_iff_eq]at h;rw[h]|_=>cases h
 |.int x,b,h=>by cases b with|int y=>simp only[Val.beq,beq_iff_eq]at h;rw[h]|_=>cases h
 |.str x,b,h=>by cases b with|str y=>simp only[Val.beq,beq_iff_eq]at h;rw[h]|_=>cases h
 |.tup x,b,h=>by cases b with|tup y=>simp only[Val.beq]at h;rw[vY h]|_=>cases h
 |.lst x,b,h=>by cases b with|lst y=>simp only[Val.beq]at h;rw[vY h]|_=>cases h
 |.dct0,b,h=>by cases b<;>first|rfl|cases h
 |.ctup x,b,h=>by cases b with|ctup y=>simp only[Val.beq,beq_iff_eq]at h;rw[h]|_=>cases h
 |.scr x,b,h=>by cases b with|scr y=>simp only[Val.beq,beq_iff_eq]at h;rw[h]|_=>cases h
 |.ref x,b,h=>by cases b with|ref y=>simp only[Val.beq,beq_iff_eq]at h;rw[h]|_=>cases h
 |.fn x,b,h=>by cases b with|fn y=>simp only[Val.beq,beq_iff_eq]at h;rw[h]|_=>cases h
 |.ty x,b,h=>by cases b with|ty y=>simp only[Val.beq,beq_iff_eq]at h;rw[h]|_=>cases h
theorem vY:∀{a b:List Val},qi a b=true→a=b
 |[],[],_=>rfl
 |[],_::_,h=>by cases h
 |_::_,[],h=>by cases h
 |x::xs,y::ys,h=>by
  rw[qi,Bool.and_eq_true]at h
  rw[beq_eq h.1,vY h.2]
end
section
variable {K:KF}{mg:Str→Option Value}
theorem Mv.refl{ρ:Own}{H:L2.Hp}:Mv ρ H ρ H:=⟨fun a o e n=>⟨e,n⟩,fun i a e=>e⟩
theorem Mv.trans{ρ ρ1 ρ2:Own}{H H1 H2:L2.Hp}(x:Mv ρ H ρ1 H1)(y:Mv ρ1 H1 ρ2 H2):Mv ρ H ρ2 H2:=
 ⟨fun a o e n=>y.keep a o (x.keep a o e n).1 (x.keep a o e n).2,fun i a e=>y.get i a (x.get i a e)⟩
structure Walk(K:KF)(mg:Str→Option Value)(ρ:Own)(H:L2.Hp)(r:Src)(J:L2.It):Prop where
 len:r.xs.length≤zP
 go:∀(ρ2:Own) (H2:L2.Hp) (s2:Sto) (i:Nat) (v:Val),Mv ρ H ρ2 H2→HR K mg ρ2 s2 H2→r.ok s2=true→r.xs[i]?=some v→J.go i H2∧∀x H3,J.yld i H2 x H3→(H3=H2∨∃p o,H2 p=none∧H3=L2.upd H2 p o)∧RD K mg ρ2 H3 v x
 stop:∀(ρ2:Own) (H2:L2.Hp) (s2:Sto) (i:Nat),Mv ρ H ρ2 H2→HR K mg ρ2 s2 H2→r.ok s2=true→i=r.xs.length→J.stop i H2
theorem Walk.mv{ρ ρ1:Own}{H H1:L2.Hp}{r:Src}{J:L2.It}(w:Walk K mg ρ H r J)(x:Mv ρ H ρ1 H1):Walk K mg ρ1 H1 r J:=
 ⟨w.len,fun ρ2 H2 s2 i v y=>w.go ρ2 H2 s2 i v (x.trans y),fun ρ2 H2 s2 i y=>w.stop ρ2 H2 s2 i (x.trans y)⟩
def iE(H:L2.Hp):Prop:=∀a xs,(H a=some (.tup xs)∨H a=some (.lst xs))→xs.length≤sizeLine
theorem ub{X:L2.Cx}{tg it:Expr}{wi:L2.TI}(h:L2.PI X tg it wi):L2.PI X tg it (fun σ H R=>wi σ H fun J H1=>iE H1→R J H1):=fun pins s σ H R I q=>
 L2.thn (h pins s σ H _ I q) fun v s1 h1=>L2.thn h1 fun itv s2 ⟨i,fp,tn,J,H',e,I',T,t0,f,r⟩=>⟨i,fp,tn,J,H',e,I',T,t0,f,r fun a xs hx=>by
  rcases hx with hx|hx
  . obtain⟨z,_⟩:=(show L2.zy X.prog X.w H' s2.heap a (.tup xs) from I'.hok a _ hx);exact z
  . obtain⟨z,_⟩:=(show L2.zy X.prog X.w H' s2.heap a (.lst xs) from I'.hok a _ hx);exact z⟩
theorem ff{ρ:Own}{H:L2.Hp}{a:Addr}{vs:List Val}{xs:List L2.V}(hz:vs.length≤zP)(n:ρ.no a)(e:H a=some (.tup xs))(q:RDs K mg ρ H vs xs):Walk K mg ρ H ⟨vs,none⟩ (L2.Itt K a) where
 len:=hz
 go:=fun ρ2 H2 s2 i v x hr _ hv=>by
  have e2:=(x.keep a _ e n).1
  have q2:=RDs.mv x q
  obtain⟨y,h1,h2⟩:=q2.get hv
  refine⟨⟨xs,y,.of e2,h1⟩,fun z H3 ⟨e3,h3⟩=>⟨.inl e3,?_⟩⟩
  subst e3
  have:=h3 xs (.of e2)
  rw[h1]at this;cases this
  exact h2
 stop:=fun ρ2 H2 s2 i x hr _ hi=>⟨xs,.of (x.keep a _ e n).1,by rw[←q.length];exact Nat.le_of_eq hi.symm⟩
theorem fb{ρ:Own}{H:L2.Hp}{a:Addr}{vs:List Val}{xs:List L2.V}(hz:vs.length≤zP)(n:ρ.no a)(e:H a=some (.lst xs))(q:RDs K mg ρ H vs xs):Walk K mg ρ H ⟨vs,none⟩ (L2.Itl K a) where
 len:=hz
 go:=fun ρ2 H2 s2 i v x hr _ hv=>by
  have e2:=(x.keep a _ e n).1
  have q2:=RDs.mv x q
  obtain⟨y,h1,h2⟩:=q2.get hv
  refine⟨⟨xs,y,.of e2,h1⟩,fun z H3 ⟨e3,h3⟩=>⟨.inl e3,?_⟩⟩
  subst e3
  have:=h3 xs (.of e2)
  rw[h1]at this;cases this
  exact h2
 stop:=fun ρ2 H2 s2 i x hr _ hi=>⟨xs,.of (x.keep a _ e n).1,by rw[←q.length];exact Nat.le_of_eq hi.symm⟩
theorem j6{ρ:Own}{H:L2.Hp}{a:Addr}{ns:List Int}(k:KT K a (ns.map L2.V.int)):Walk K mg ρ H ⟨ns.map .int,none⟩ (L2.Itt K a) where
 len:=by
  obtain⟨o,its,n,_,_,_,h4,h5⟩:=k
  have:=h5.length
  simp only[List.length_map,Array.length_toList]at this
  show (ns.map Val.int).length≤_
  rw[List.length_map,yc,this];exact h4
 go:=fun ρ2 H2 s2 i v x hr _ hv=>by
  obtain⟨y,h1,h2⟩:=(RDs.ints (K:=K) (mg:=mg) (ρ:=ρ2) (H:=H2) ns).get hv
  refine⟨⟨_,y,k.sqt,h1⟩,fun z H3 ⟨e3,h3⟩=>⟨.inl e3,?_⟩⟩
  subst e3
  have:=h3 _ k.sqt
  rw[h1]at this;cases this
  exact h2
 stop:=fun ρ2 H2 s2 i x hr _ hi=>⟨_,k.sqt,by rw[List.length_map];rw[hi];simp⟩
theorem fc{ρ:Own}{H:L2.Hp}{i0:Nat}{a:Addr}{vs:List Val}(hz:vs.length≤zP)(e:ρ.o[i0]?=some a):Walk K mg ρ H ⟨vs,some i0⟩ (L2.Itl K a) where
 len:=hz
 go:=fun ρ2 H2 s2 i v x hr ho hv=>by
  simp only[Src.ok]at ho
  split at ho
  . rename_i ws hw
    cases vY ho
    obtain⟨b,xs,e1,e2,q⟩:=hr.obj i0 _ hw
    rw[x.get _ _ e]at e1;cases e1
    obtain⟨y,h1,h2⟩:=q.get hv
    refine⟨⟨xs,y,.of e2,h1⟩,fun z H3 ⟨e3,h3⟩=>⟨.inl e3,?_⟩⟩
    subst e3
    have:=h3 xs (.of e2)
    rw[h1]at this;cases this
    exact h2
  . cases ho
 stop:=fun ρ2 H2 s2 i x hr ho hi=>by
  simp only[Src.ok]at ho
  split at ho
  . rename_i ws hw
    cases vY ho
    obtain⟨b,xs,e1,e2,q⟩:=hr.obj i0 _ hw
    rw[x.get _ _ e]at e1;cases e1
    exact⟨xs,.of e2,by rw[←q.length];exact Nat.le_of_eq hi.symm⟩
  . cases ho
theorem fF{lo:Int}{n i:Nat}:(zi lo n)[i]?=if i<n then some (.int (lo+i)) else none:=by
 unfold zi
 rw[List.getElem?_map]
 by_cases h:i<n
 . rw[if_pos h,List.getElem?_range h];rfl
 . rw[if_neg h,List.getElem?_eq_none (by rw[List.length_range];omega)];rfl
theorem ow{lo:Int}{n:Nat}:(zi lo n).length=n:=by unfold zi;rw[List.length_map,List.length_range]
theorem nJ{ρ:Own}{H:L2.Hp}{lo:Int}{n:Nat}(hz:n≤zP):Walk K mg ρ H ⟨zi lo n,none⟩ (L2.Itr lo n) where
 len:=by show (zi lo n).length≤_;rw[ow];exact hz
 go:=fun ρ2 H2 s2 i v x hr _ hv=>by
  have hv':(zi lo n)[i]?=some v:=hv
  rw[fF]at hv'
  split at hv'
  . rename_i hi
    cases hv'
    refine⟨hi,fun z H3 ⟨e3,h3⟩=>⟨.inl e3,?_⟩⟩
    subst h3
    exact .int _
  . cases hv'
 stop:=fun ρ2 H2 s2 i x hr _ hi=>by
  have:i=(zi lo n).length:=hi
  rw[ow]at this;exact Nat.le_of_eq this.symm
theorem u4:∀{vs:List Val} {n i:Nat},(yC n vs)[i]?=(vs[i]?).map fun v=>.tup [.int ((n+i:Nat):Int),v]
 |[],_,_=>rfl
 |v::vs,n,0=>rfl
 |v::vs,n,i+1=>by
  show (yC (n+1) vs)[i]?=(vs[i]?).map _
  rw[u4]
  rw[show n+1+i=n+(i+1) by omega]
theorem wd:∀{vs:List Val} {n:Nat},(yC n vs).length=vs.length
 |[],_=>rfl
 |v::vs,n=>by show (yC (n+1) vs).length+1=_;rw[wd];rfl
theorem j7{ρ:Own}{H:L2.Hp}{a:Addr}{vs:List Val}{xs:List L2.V}(hz:vs.length≤zP)(n:ρ.no a)(e:H a=some (.tup xs))(q:RDs K mg ρ H vs xs):Walk K mg ρ H ⟨yC 0 vs,none⟩ (L2.Ite K a) where
 len:=by show (yC 0 vs).length≤_;rw[wd];exact hz
 go:=fun ρ2 H2 s2 i v x hr _ hv=>by
  have e2:=(x.keep a _ e n).1
  have q2:=RDs.mv x q
  have hv':(yC 0 vs)[i]?=some v:=hv
  rw[u4,Option.map_eq_some_iff]at hv'
  obtain⟨w,h0,rfl⟩:=hv'
  obtain⟨y,h1,h2⟩:=q2.get h0
  refine⟨⟨xs,y,.of e2,h1⟩,fun z H3 ⟨t,y',ht,e3,h3,e4⟩=>⟨.inr ⟨t,_,ht,e4⟩,?_⟩⟩
  subst e3 e4
  have:=h3 xs (.of e2)
  rw[h1]at this;cases this
  have X:=Ext.new hr ht (.tup [.int ((i:Nat):Int),y])
  refine .tup (hr.new ht) L2.zt (.cons ?_ (.cons (h2.mono X) .nil))
  rw[Nat.zero_add];exact .int _
 stop:=fun ρ2 H2 s2 i x hr _ hi=>⟨xs,.of (x.keep a _ e n).1,by rw[←q.length,hi];exact wd.symm⟩
theorem mm{ρ:Own}{H:L2.Hp}{a:Addr}{vs:List Val}{xs:List L2.V}(hz:vs.length≤zP)(n:ρ.no a)(e:H a=some (.lst xs))(q:RDs K mg ρ H vs xs):Walk K mg ρ H ⟨yC 0 vs,none⟩ (L2.bp K a) where
 len:=by show (yC 0 vs).length≤_;rw[wd];exact hz
 go:=fun ρ2 H2 s2 i v x hr _ hv=>by
  have e2:=(x.keep a _ e n).1
  have q2:=RDs.mv x q
  have hv':(yC 0 vs)[i]?=some v:=hv
  rw[u4,Option.map_eq_some_iff]at hv'
  obtain⟨w,h0,rfl⟩:=hv'
  obtain⟨y,h1,h2⟩:=q2.get h0
  refine⟨⟨xs,y,.of e2,h1⟩,fun z H3 ⟨t,y',ht,e3,h3,e4⟩=>⟨.inr ⟨t,_,ht,e4⟩,?_⟩⟩
  subst e3 e4
  have:=h3 xs (.of e2)
  rw[h1]at this;cases this
  have X:=Ext.new hr ht (.tup [.int ((i:Nat):Int),y])
  refine .tup (hr.new ht) L2.zt (.cons ?_ (.cons (h2.mono X) .nil))
  rw[Nat.zero_add];exact .int _
 stop:=fun ρ2 H2 s2 i x hr _ hi=>⟨xs,.of (x.keep a _ e n).1,by rw[←q.length,hi];exact wd.symm⟩
noncomputable def tI(env:Env)(s:Sto)(o:Out Src):L2.TI:=fun σ H R=>∃ρ,HR K mg ρ s H∧ER K mg ρ H env σ∧(match o with
 |.ok r s'=>∀ρ' H' J,Ext ρ H ρ' H'→HR K mg ρ' s' H'→Walk K mg ρ' H' r J→R J H'
 |_=>False)
end
section
variable {X:L2.Cx}{env:Env}{s:Sto}{a b tg:Expr}
theorem uB{it:Expr}{t t':L2.TI}(h:L2.PI X tg it t)(i:∀σ H R,t' σ H R→t σ H R):L2.PI X tg it t':=fun pins s σ H R I q=>h pins s σ H R I (i σ H R q)
theorem yW{it:Expr}{o:Out Src}(h:∀v s',o≠.ok v s'):L2.PI X tg it (tI (K:=X.K) (mg:=X.mg) env s o):=fun pins sh σ H R I q=>by
 obtain⟨ρ,_,_,w⟩:=q
 cases o with
 |ok v s'=>exact(h v s' rfl).elim
 |exc _ _ _=>exact w.elim
 |stuck=>exact w.elim
theorem iE.of{K:KF}{mg:Str→Option Value}{ρ:Own}{H:L2.Hp}(z:iE H){a:Addr}{vs:List Val}{xs:List L2.V}(q:RDs K mg ρ H vs xs)(h:H a=some (.tup xs)∨H a=some (.lst xs)):vs.length≤zP:=by
 rw[q.length,yc];exact z a xs h
theorem a8{o:Out Val}(h:L2.PE X a (tV X.K X.mg env s o)):L2.PI X tg a (tI (K:=X.K) (mg:=X.mg) env s (o.bind fun v s1=>match srcOf s1 v with|some r=>.ok r s1|Option.none=>.stuck)):=by
 cases o with
 |ok v s1=>
  show L2.PI X tg a (tI (K:=X.K) (mg:=X.mg) env s (match srcOf s1 v with|some r=>.ok r s1|Option.none=>.stuck))
  cases v with
  |tup vs=>
   refine uB (ub (L2.gr h)) fun σ H R ⟨ρ,hr,er,w⟩=>⟨ρ,hr,er,fun ρ1 x H1 x1 hr1 r1=>?_⟩
   cases r1 with
   |tup n e q=>exact⟨_,rfl,⟨_,.of e⟩,fun z=>w ρ1 H1 _ x1 hr1 (ff (z.of q (.inl e)) n e q)⟩
  |lst vs=>
   refine uB (ub (L2.l0 h)) fun σ H R ⟨ρ,hr,er,w⟩=>⟨ρ,hr,er,fun ρ1 x H1 x1 hr1 r1=>?_⟩
   cases r1 with
   |lst n e q=>exact⟨_,rfl,⟨_,.of e⟩,fun z=>w ρ1 H1 _ x1 hr1 (fb (z.of q (.inr e)) n e q)⟩
  |ctup ns=>
   refine uB (L2.gr h) fun σ H R ⟨ρ,hr,er,w⟩=>⟨ρ,hr,er,fun ρ1 x H1 x1 hr1 r1=>?_⟩
   cases r1 with
   |ctup k=>exact⟨_,rfl,⟨_,k.sqt⟩,w ρ1 H1 _ x1 hr1 (j6 k)⟩
  |ref i=>
   simp only[srcOf]
   cases hs:s1[i]? with
   |none=>exact yW nofun
   |some cl=>
    cases cl with
    |lst vs=>
     refine uB (ub (L2.l0 h)) fun σ H R ⟨ρ,hr,er,w⟩=>⟨ρ,hr,er,fun ρ1 x H1 x1 hr1 r1=>?_⟩
     cases r1 with
     |ref e=>
      obtain⟨b',xs,e1,e2,q⟩:=hr1.obj i _ hs
      rw[e]at e1;cases e1
      exact⟨_,rfl,⟨_,.of e2⟩,fun z=>w ρ1 H1 _ x1 hr1 (fc (z.of q (.inr e2)) e)⟩
  |_=>exact yW nofun
 |exc _ _ _=>exact yW nofun
 |stuck=>exact yW nofun
theorem kj{o:Out Val}{p pos:Pos}(hp:plain a=true)(hg:L2.Gl X "range")(hm:X.mg "range"=none)(h:L2.PE X a (tV X.K X.mg env s o)) :
 L2.PI X tg (.Call (.Name "range" p) [a] [] pos) (tI (K:=X.K) (mg:=X.mg) env s (o.bind fun x s1=>match x with
  |.int j=>if -(2 ^ 62)≤j∧j≤zP then .ok ⟨zi 0 j.toNat,Option.none⟩ s1 else .stuck
  |_=>.stuck)):=by
 cases o with
 |ok v s1=>
  have st:starEach [a] X.env=[(false,eval a X.env)]:=L2.yA (za hp)
  refine uB (L2.jd hg hm (L2.pac h L2.vR (za hp)) st) fun σ H R ⟨ρ,hr,er,w⟩=>⟨ρ,hr,er,fun ρ1 x H1 x1 hr1 r1=>?_⟩
  cases r1 with
  |int j=>
   simp only[zR]at w
   by_cases hz:-(2 ^ 62)≤j∧j≤zP
   . rw[if_pos hz]at w
     have hl:(zP:Int)<2 ^ 62:=by decide
     exact⟨j,rfl,hz.1,by omega,w ρ1 H1 _ x1 hr1 (nJ (by omega))⟩
   . rw[if_neg hz]at w;exact w.elim
  |_=>exact w.elim
 |exc _ _ _=>exact yW nofun
 |stuck=>exact yW nofun
theorem km{o:Out Val}{f2:Sto→Out Val}{p pos:Pos}(hp:plain a=true)(hp2:plain b=true)(hg:L2.Gl X "range")(hm:X.mg "range"=none)(h:L2.PE X a (tV X.K X.mg env s o))(h2:∀s1,L2.PE X b (tV X.K X.mg env s1 (f2 s1))) :
 L2.PI X tg (.Call (.Name "range" p) [a,b] [] pos) (tI (K:=X.K) (mg:=X.mg) env s (o.bind fun x s1=>(f2 s1).bind fun y s2=>match x,y with
  |.int i,.int j=>if -(2 ^ 62)≤i∧i<2 ^ 62∧-(2 ^ 62)≤j∧j<2 ^ 62∧j-i≤zP then .ok ⟨zi i (j-i).toNat,Option.none⟩ s2 else .stuck
  |_,_=>.stuck)):=by
 cases o with
 |ok v s1=>
  have h2':=h2 s1
  simp only[zR]
  cases hb:f2 s1 with
  |ok w s2=>
   rw[hb]at h2'
   have st2:starEach [b] X.env=[(false,eval b X.env)]:=L2.yA (za hp2)
   have st:starEach [a,b] X.env=[(false,eval a X.env),(false,eval b X.env)]:=by rw[L2.yA (za hp),st2]
   refine uB (L2.jf hg hm (L2.pac h (L2.pac h2' L2.vR (za hp2)) (za hp)) st st2) fun σ H R ⟨ρ,hr,er,wt⟩=>⟨ρ,hr,er,fun ρ1 x H1 x1 hr1 r1=>⟨ρ1,hr1,er.mono x1,fun ρ2 y H2 x2 hr2 r2=>?_⟩⟩
   simp only[zR]at wt
   cases r1 with
   |int i=>
    cases r2 with
    |int j=>
     simp only at wt
     by_cases hz:-(2 ^ 62)≤i∧i<2 ^ 62∧-(2 ^ 62)≤j∧j<2 ^ 62∧j-i≤zP
     . rw[if_pos hz]at wt
       exact⟨i,j,rfl,⟨hz.1,hz.2.1,hz.2.2.1,hz.2.2.2.1⟩,wt ρ2 H2 _ (x1.trans hr1 x2) hr2 (nJ (by omega))⟩
     . rw[if_neg hz]at wt;exact wt.elim
    |_=>exact wt.elim
   |_=>exact wt.elim
  |exc _ _ _=>exact yW nofun
  |stuck=>exact yW nofun
 |exc _ _ _=>exact yW nofun
 |stuck=>exact yW nofun
theorem eg{es:List Expr}{k:Nat}{o:Out Val}{p pos tp:Pos}(hp:plain a=true)(hg:L2.Gl X "enumerate")(hm:X.mg "enumerate"=none)(h:L2.PE X a (tV X.K X.mg env s o)) :
 L2.PI X (.Tuple es k tp) (.Call (.Name "enumerate" p) [a] [] pos) (tI (K:=X.K) (mg:=X.mg) env s (o.bind fun v s1=>match v with
  |.tup vs=>.ok ⟨yC 0 vs,Option.none⟩ s1
  |.lst vs=>.ok ⟨yC 0 vs,Option.none⟩ s1
  |_=>.stuck)):=by
 cases o with
 |ok v s1=>
  have st:starEach [a] X.env=[(false,eval a X.env)]:=L2.yA (za hp)
  refine uB (ub (L2.dq hg hm (L2.pac h L2.vR (za hp)) st)) fun σ H R ⟨ρ,hr,er,w⟩=>⟨ρ,hr,er,fun ρ1 x H1 x1 hr1 r1=>?_⟩
  cases r1 with
  |tup n e q=>exact⟨_,rfl,.inl ⟨⟨_,.of e⟩,fun z=>w ρ1 H1 _ x1 hr1 (j7 (z.of q (.inl e)) n e q)⟩⟩
  |lst n e q=>exact⟨_,rfl,.inr ⟨⟨_,.of e⟩,fun z=>w ρ1 H1 _ x1 hr1 (mm (z.of q (.inr e)) n e q)⟩⟩
  |_=>exact w.elim
 |exc _ _ _=>exact yW nofun
 |stuck=>exact yW nofun
end
end M
end
section
namespace M
open PySem
def uv(K:KF)(mg:Str→Option Value)(t:Tgt)(g:L2.TG):Prop:=∀(ρ:Own) (s:Sto) (H:L2.Hp) (v:Val) (x:L2.V) (env env':Env) (σ:L2.St) (Q:L2.St→L2.Hp→Prop),HR K mg ρ s H→RD K mg ρ H v x→ER K mg ρ H env σ→yS t v env=some env' →
 (∀σ',ER K mg ρ H env' σ'→Q σ' H)→g x σ H Q
theorem uk{K:KF}{mg:Str→Option Value}{i:Nat}:uv K mg (.nm i) (L2.vM i):=fun ρ s H v x env env' σ Q hr r er e q=>by
 cases e
 exact q _ (er.set i r)
noncomputable def qz:List Nat→L2.TGs
 |[]=>L2.YX
 |i::is=>L2.bK (L2.vM i) (qz is)
theorem qR{K:KF}{mg:Str→Option Value}{ρ:Own}{H:L2.Hp}{Q:L2.St→L2.Hp→Prop}:∀{is:List Nat} {vs:List Val} {xs:List L2.V} {env:Env} {σ:L2.St},RDs K mg ρ H vs xs→ER K mg ρ H env σ→vs.length=is.length →
 (∀σ',ER K mg ρ H ((is.zip vs).foldl (fun e p=>e.set p.1 (some p.2)) env) σ'→Q σ' H)→qz is xs σ H Q
 |[],[],_,env,σ,.nil,er,_,q=>⟨rfl,q σ er⟩
 |[],_::_,_,_,_,_,_,h,_=>by cases h
 |_::_,[],_,_,_,_,_,h,_=>by cases h
 |i::is,v::vs,x::xs,env,σ,.cons r rs,er,h,q=>⟨x,xs,rfl,qR rs (er.set i r) (by simpa using h) q⟩
theorem wG{K:KF}{mg:Str→Option Value}{is:List Nat}:uv K mg (.nms is) (L2.YZ K is.length (qz is)):=fun ρ s H v x env env' σ Q hr r er e q=>by
 simp only[yS]at e
 split at e
 . split at e
   . rename_i hl
     cases e
     cases r with
     |tup n e q2=>exact⟨_,_,rfl,.of e,by rw[←q2.length];exact hl,qR q2 er hl q⟩
   . cases e
 . cases e
noncomputable def z0(sc:Scope)(N:List Str):List Nat→List Expr→Bool
 |[],[]=>true
 |i::is,.Name x _::es=>decide (N[i]?=some x)&&(decide (sc.names.lookup x=some .local)||decide (sc.names.lookup x=some .cell))&&z0 sc N is es
 |_,_=>false
noncomputable def ckT(sc:Scope)(N:List Str):Tgt→Expr→Bool
 |.nm i,.Name x _=>decide (N[i]?=some x)&&(decide (sc.names.lookup x=some .local)||decide (sc.names.lookup x=some .cell))
 |.nms is,.Tuple es _ _=>z0 sc N is es&&decide (es≠[])
 |_,_=>false
section
variable {X:L2.Cx}
structure Scp(sc:Scope)(N:List Str)(X:L2.Cx):Prop where
 hN:X.N=N
 nd:N.Nodup
 vis:∀x,sc.names.lookup x=some .local∨sc.names.lookup x=some .cell∨sc.names.lookup x=some .free→L2.Vis X.env.scope x
 loc:∀x,sc.names.lookup x=some .local∨sc.names.lookup x=some .cell→L2.Loc X.env.scope x∧(X.fn x=true∨X.env.scope.names.lookup x=some .local)
 gl:∀x,sc.names.lookup x=some .globalImplicit→L2.Gl X x
 cf:∀x,sc.names.lookup x=some .cell∨sc.names.lookup x=some .free→X.env.kindOf x=some .cell∨X.env.kindOf x=some .free
theorem qU{sc:Scope}{N:List Str}(S:Scp sc N X){i:Nat}{x:Str}{p:Pos}(h1:N[i]?=some x)(h2:sc.names.lookup x=some .local∨sc.names.lookup x=some .cell):L2.PG X (.Name x p) (L2.vM i):=by
 obtain⟨a,b⟩:=S.loc x h2
 exact L2.dj (by rw[S.hN];exact S.nd) (by rw[S.hN];exact h1) a b
theorem xE{sc:Scope}{N:List Str}(S:Scp sc N X):∀{is:List Nat} {es:List Expr},z0 sc N is es=true→L2.PGs X es (qz is)∧(assignEach es X.env).length=is.length∧(assignEach es X.env).findIdx? (·.1)=none
 |[],[],_=>⟨L2.dk,rfl,rfl⟩
 |[],_::_,h=>by cases h
 |_::_,[],h=>by cases h
 |i::is,e::es,h=>by
  cases e with
  |Name x p=>
   simp only[z0,Bool.and_eq_true,Bool.or_eq_true,decide_eq_true_eq]at h
   obtain⟨a,b,c⟩:=xE S h.2
   refine⟨L2.gq (qU S h.1.1 h.1.2) a,?_,?_⟩
   . show (assignEach es X.env).length+1=is.length+1
     rw[b]
   . show List.findIdx? (·.1) ((false,assign (.Name x p) X.env)::assignEach es X.env)=none
     rw[List.findIdx?_cons]
     simp only[Bool.false_eq_true,if_false]
     rw[c];rfl
  |_=>cases h
theorem XZ{sc:Scope}{N:List Str}(S:Scp sc N X)(hc:X.calm=true){t:Tgt}{e:Expr}(h:ckT sc N t e=true):∃g,L2.PG X e g∧uv X.K X.mg t g:=by
 cases t with
 |nm i=>
  cases e with
  |Name x p=>
   simp only[ckT,Bool.and_eq_true,Bool.or_eq_true,decide_eq_true_eq]at h
   exact⟨_,qU S h.1 h.2,uk⟩
  |_=>cases h
 |nms is=>
  cases e with
  |Tuple es k p=>
   simp only[ckT,Bool.and_eq_true,decide_eq_true_eq]at h
   obtain⟨a,b,c⟩:=xE S h.1
   exact⟨_,L2.uA hc a b c,wG⟩
  |_=>cases h
end
structure Lp(acc:Addr)(ρ:Own)(H:L2.Hp)(ρ':Own)(H':L2.Hp):Prop where
 pre:∃new:List Addr,ρ'.o=ρ.o++new∧∀a∈new,H a=none
 hid:ρ'.h=acc::ρ.h
 keep:∀(a:Addr) (o:L2.HO),H a=some o→a ∉ ρ.o→H' a=some o
section
variable {K:KF}{mg:Str→Option Value}{ρ ρ1 ρ2:Own}{H H1 H2:L2.Hp}{s s1:Sto}{acc:Addr}
noncomputable def Own.hide(ρ:Own)(acc:Addr):Own:=⟨ρ.o,acc::ρ.h⟩
theorem lU(hn:H acc=none)(o:L2.HO):Mv ρ H (ρ.hide acc) (L2.upd H acc o):=
 ⟨fun a u e n=>⟨by rw[L2.zS (L2.zV e hn)];exact e,n.1,fun hm=>by
  rcases List.mem_cons.mp hm with z|z
  . exact L2.zV e hn z
  . exact n.2 z⟩,fun i a e=>e⟩
theorem HR.hide(hr:HR K mg ρ s H)(hn:H acc=none){xs:List L2.V}:HR K mg (ρ.hide acc) s (L2.upd H acc (.lst xs)):=by
 refine⟨hr.len,hr.nd,fun i vs e=>?_,fun a ha=>?_⟩
 . obtain⟨a,ys,e1,e2,q⟩:=hr.obj i vs e
   exact⟨a,ys,e1,by rw[L2.zS (L2.zV e2 hn)];exact e2,RDs.mv (lU hn _) q⟩
 . rcases List.mem_cons.mp ha with z|z
   . subst z;exact⟨⟨xs,L2.zt⟩,(hr.new hn).1⟩
   . obtain⟨⟨ys,e⟩,n⟩:=hr.hid a z
     exact⟨⟨ys,by rw[L2.zS (L2.zV e hn)];exact e⟩,n⟩
theorem Lp.start(hn:H acc=none)(o:L2.HO):Lp acc ρ H (ρ.hide acc) (L2.upd H acc o):=
 ⟨⟨[],by simp[Own.hide],fun a ha=>by cases ha⟩,rfl,fun a u e _=>by rw[L2.zS (L2.zV e hn)];exact e⟩
theorem Lp.step(l:Lp acc ρ H ρ1 H1)(hr:HR K mg ρ1 s1 H1)(x:Ext ρ1 H1 ρ2 H2):Lp acc ρ H ρ2 H2:=by
 obtain⟨new,e1,hn⟩:=l.pre
 obtain⟨new2,e2,hn2⟩:=x.pre
 refine⟨⟨new++new2,by rw[e2,e1,List.append_assoc],fun a ha=>?_⟩,x.hid.trans l.hid,fun a o e n=>x.keep a o (l.keep a o e n) ?_⟩
 . rcases List.mem_append.mp ha with ha|ha
   . exact hn a ha
   . cases q:H a with
     |none=>rfl
     |some o=>
      by_cases hm:a∈ρ.o
      . obtain⟨xs,e⟩:=hr.trk (a:=a) (by rw[e1];exact List.mem_append_left _ hm)
        rw[hn2 a ha]at e;cases e
      . have:=l.keep a o q hm
        rw[hn2 a ha]at this;cases this
 . rw[e1]
   intro hm
   rcases List.mem_append.mp hm with hm|hm
   . exact n hm
   . rw[hn a hm]at e;cases e
theorem Lp.emit(l:Lp acc ρ H ρ1 H1)(hn:H acc=none)(o:L2.HO):Lp acc ρ H ρ1 (L2.upd H1 acc o):=
 ⟨l.pre,l.hid,fun a u e n=>by rw[L2.zS (L2.zV e hn)];exact l.keep a u e n⟩
theorem Lp.here(l:Lp acc ρ H ρ1 H1):acc∈ρ1.h:=by rw[l.hid];exact List.mem_cons_self
theorem lP(ha:acc∈ρ1.h)(o:L2.HO):Mv ρ1 H1 ρ1 (L2.upd H1 acc o):=
 ⟨fun a u e n=>⟨by rw[L2.zS (fun z=>n.2 (by rw[z];exact ha))];exact e,n⟩,fun i a e=>e⟩
theorem HR.emit(hr:HR K mg ρ1 s1 H1)(ha:acc∈ρ1.h){xs:List L2.V}:HR K mg ρ1 s1 (L2.upd H1 acc (.lst xs)):=by
 have hno:=(hr.hid acc ha).2
 refine⟨hr.len,hr.nd,fun i vs e=>?_,fun a hm=>?_⟩
 . obtain⟨a,ys,e1,e2,q⟩:=hr.obj i vs e
   exact⟨a,ys,e1,by rw[L2.zS (fun z=>hno (by rw[←z];exact List.mem_of_getElem? e1))];exact e2,RDs.mv (lP ha _) q⟩
 . obtain⟨⟨ys,e⟩,n⟩:=hr.hid a hm
   by_cases z:a=acc
   . subst z;exact⟨⟨xs,L2.zt⟩,n⟩
   . exact⟨⟨ys,by rw[L2.zS z];exact e⟩,n⟩
theorem Lp.done(l:Lp acc ρ H ρ1 H1)(h0:HR K mg ρ s H)(hn:H acc=none)(hr:HR K mg ρ1 s1 H1){vs:List Val}{ys:List L2.V}(e:H1 acc=some (.lst ys))(q:RDs K mg ρ1 H1 vs ys){m:Bool}{Q:L2.VK}(w:yh K mg (RD K mg) ρ H (newList m vs s1) Q):Q (.ref acc) H1:=by
 have ha:=l.here
 have hacc:=(hr.hid acc ha).2
 have hnh:=(h0.new hn).2
 cases m with
 |false=>
  have mv:Mv ρ1 H1 ⟨ρ1.o,ρ.h⟩ H1:=⟨fun a u e n=>⟨e,n.1,fun z=>n.2 (by rw[l.hid];exact List.mem_cons_of_mem _ z)⟩,fun i a e=>e⟩
  refine w ⟨ρ1.o,ρ.h⟩ _ H1 ⟨l.pre,rfl,l.keep⟩ ⟨hr.len,hr.nd,fun i ws e=>?_,fun a hm=>?_⟩ (.lst ⟨hacc,hnh⟩ e (RDs.mv mv q))
  . obtain⟨a,zs,e1,e2,t⟩:=hr.obj i ws e
    exact⟨a,zs,e1,e2,RDs.mv mv t⟩
  . exact hr.hid a (by rw[l.hid];exact List.mem_cons_of_mem _ hm)
 |true=>
  have mv:Mv ρ1 H1 ⟨ρ1.o++[acc],ρ.h⟩ H1:=by
   refine⟨fun a u e n=>⟨e,fun hm=>?_,fun z=>n.2 (by rw[l.hid];exact List.mem_cons_of_mem _ z)⟩,fun i a e=>?_⟩
   . rcases List.mem_append.mp hm with hm|hm
     . exact n.1 hm
     . rw[List.mem_singleton.mp hm]at n;exact n.2 ha
   . show (ρ1.o++[acc])[i]?=_
     rw[List.getElem?_append_left (List.getElem?_eq_some_iff.mp e).1];exact e
  have rf:(ρ1.o++[acc])[s1.length]?=some acc:=by rw[←hr.len,List.getElem?_append_right (Nat.le_refl _)];simp
  refine w ⟨ρ1.o++[acc],ρ.h⟩ _ H1 ⟨?_,rfl,l.keep⟩ ⟨?_,?_,fun i ws q'=>?_,fun a hm=>?_⟩ (.ref rf)
  . obtain⟨new,e1,hnew⟩:=l.pre
    refine⟨new++[acc],by show ρ1.o++[acc]=_;rw[e1,List.append_assoc],fun a hm=>?_⟩
    rcases List.mem_append.mp hm with hm|hm
    . exact hnew a hm
    . rw[List.mem_singleton.mp hm];exact hn
  . show (ρ1.o++[acc]).length=(s1++[Cel.lst vs]).length
    rw[List.length_append,List.length_append,hr.len];rfl
  . show (ρ1.o++[acc]).Nodup
    rw[List.nodup_append]
    exact⟨hr.nd,by simp,fun a ha' b hb=>by rw[List.mem_singleton.mp hb];intro z;subst z;exact hacc ha'⟩
  . by_cases hi:i<s1.length
    . rw[List.getElem?_append_left hi]at q'
      obtain⟨a,zs,e1,e2,t⟩:=hr.obj i ws q'
      exact⟨a,zs,mv.get i a e1,e2,RDs.mv mv t⟩
    . have hi':i=s1.length:=by
       have:=(List.getElem?_eq_some_iff.mp q').1
       rw[List.length_append]at this
       simp at this;omega
      subst hi'
      rw[List.getElem?_append_right (Nat.le_refl _)]at q'
      simp at q'
      subst q'
      exact⟨acc,ys,rf,e,RDs.mv mv q⟩
  . obtain⟨x,n⟩:=hr.hid a (by rw[l.hid];exact List.mem_cons_of_mem _ hm)
    refine⟨x,fun z=>?_⟩
    rcases List.mem_append.mp z with z|z
    . exact n z
    . rw[List.mem_singleton.mp z]at hm;exact hnh hm
end
end M
end
section
namespace M
open PySem
section
variable {K:KF}{mg:Str→Option Value}
theorem oF{J:L2.It}{g:L2.TG}{tb:L2.TS}{D:L2.Ends}{σ:L2.St}{H:L2.Hp}{n:Nat}(Pv:Nat→L2.St→L2.Hp→Prop)(h0:Pv 0 σ H)(hd:∀σ H,Pv n σ H→J.stop n H∧D.nx σ H)
 (hs:∀i σ H,i<n→Pv i σ H→J.go i H∧∀x H',J.yld i H x H'→g x σ H' fun σ2 H2=>tb {D with nx:=Pv (i+1),ct:=Pv (i+1),bk:=D.nx} σ2 H2):L2.qV J g tb D σ H:=by
 refine⟨fun i m σ H=>m=n-i∧i≤n∧Pv i σ H,⟨n,by simp,Nat.zero_le _,h0⟩,?_⟩
 rintro i m σ H ⟨rfl,hi,p⟩
 by_cases hlt:i<n
 . obtain⟨a,b⟩:=hs i σ H hlt p
   exact .inr ⟨a,Pv (i+1),fun σ' H' p'=>⟨n-(i+1),by omega,rfl,hlt,p'⟩,b⟩
 . have e:i=n:=by omega
   subst e
   exact .inl (hd σ H p)
structure CS(K:KF)(mg:Str→Option Value)(acc:Addr)(ρ0:Own)(H0:L2.Hp)(a:List Val)(s:Sto)(env:Env)(ρ:Own)(σ:L2.St)(H:L2.Hp):Prop where
 lp:Lp acc ρ0 H0 ρ H
 hr:HR K mg ρ s H
 er:ER K mg ρ H env σ
 ac:∃ys,H acc=some (.lst ys)∧RDs K mg ρ H a ys
def Grows(body:Env→Sto→List Val→Out (List Val × Env)):Prop:=∀e s a p s',body e s a=.ok p s'→a.length≤p.1.length
theorem vN{r:Src}{t:Tgt}{body:Env→Sto→List Val→Out (List Val × Env)}(hb:Grows body):∀{xs:List Val} {env:Env} {s:Sto} {a:List Val} {p:List Val × Env} {s':Sto},yV r t body xs env s a=.ok p s'→a.length≤p.1.length
 |[],env,s,a,p,s',h=>by
  rw[yV]at h
  split at h
  . cases h;exact Nat.le_refl _
  . cases h
 |x::xs,env,s,a,p,s',h=>by
  rw[yV]at h
  split at h
  . split at h
    . cases h
    . rename_i env' he
      cases hc:body env' s a with
      |ok q s1=>
       rw[hc]at h
       exact Nat.le_trans (hb _ _ _ _ _ hc) (vN hb h)
      |exc _ _ _=>rw[hc]at h;cases h
      |stuck=>rw[hc]at h;cases h
  . cases h
def BodyOk(K:KF)(mg:Str→Option Value)(acc:Addr)(ρ0:Own)(H0:L2.Hp)(body:Env→Sto→List Val→Out (List Val × Env))(tb:L2.TS):Prop:=
 ∀(ρ:Own) (s:Sto) (H:L2.Hp) (env:Env) (σ:L2.St) (a:List Val) (p:List Val × Env) (s':Sto) (D:L2.Ends),CS K mg acc ρ0 H0 a s env ρ σ H→body env s a=.ok p s'→p.1.length≤zP →
  (∀ρ' H' σ',CS K mg acc ρ0 H0 p.1 s' p.2 ρ' σ' H'→Mv ρ H ρ' H'→D.nx σ' H')→tb D σ H
theorem wZ{acc:Addr}{ρ0:Own}{H0:L2.Hp}{r:Src}{J:L2.It}{t:Tgt}{g:L2.TG}{body:Env→Sto→List Val→Out (List Val × Env)}{tb:L2.TS}{D:L2.Ends}{ρ:Own}{s:Sto}{H:L2.Hp}{env:Env}{σ:L2.St}{a:List Val}
 {p:List Val × Env} {sf:Sto} (W:Walk K mg ρ H r J) (TG:uv K mg t g) (hg:Grows body) (hb:BodyOk K mg acc ρ0 H0 body tb)
 (C:CS K mg acc ρ0 H0 a s env ρ σ H) (h:yV r t body r.xs env s a=.ok p sf) (hz:p.1.length≤zP) (fin:∀ρ' H' σ',CS K mg acc ρ0 H0 p.1 sf p.2 ρ' σ' H'→Mv ρ H ρ' H'→D.nx σ' H'):L2.qV J g tb D σ H:=by
 refine oF (n:=r.xs.length) (fun i σ2 H2=>∃ρ2 s2 env2 a2,CS K mg acc ρ0 H0 a2 s2 env2 ρ2 σ2 H2∧Mv ρ H ρ2 H2∧yV r t body (r.xs.drop i) env2 s2 a2=.ok p sf) ⟨ρ,s,env,a,C,Mv.refl,by rw[List.drop_zero];exact h⟩ ?_ ?_
 . rintro σ2 H2 ⟨ρ2,s2,env2,a2,C2,mv,h2⟩
   rw[List.drop_length,yV]at h2
   split at h2
   . rename_i ho
     cases h2
     exact⟨W.stop ρ2 H2 _ _ mv C2.hr ho rfl,fin ρ2 H2 σ2 C2 mv⟩
   . cases h2
 . rintro i σ2 H2 hi ⟨ρ2,s2,env2,a2,C2,mv,h2⟩
   rw[List.drop_eq_getElem_cons hi,yV]at h2
   split at h2
   . rename_i ho
     obtain⟨hgo,hy⟩:=W.go ρ2 H2 s2 i (r.xs[i]) mv C2.hr ho (List.getElem?_eq_getElem hi)
     refine⟨hgo,fun x H3 y=>?_⟩
     obtain⟨hH,rx⟩:=hy x H3 y
     split at h2
     . cases h2
     . rename_i env' he
       -- the item is there: perhaps a new thing
       have C3:CS K mg acc ρ0 H0 a2 s2 env2 ρ2 σ2 H3∧Mv ρ2 H2 ρ2 H3:=by
        rcases hH with e|⟨q,o,hq,e⟩
        . subst e;exact⟨C2,Mv.refl⟩
        . subst e
          have X:=Ext.new C2.hr hq o
          refine⟨⟨C2.lp.step C2.hr X,C2.hr.more hq o,C2.er.mono X,?_⟩,X.mv⟩
          obtain⟨ys,e1,e2⟩:=C2.ac
          exact⟨ys,by rw[L2.zS (L2.zV e1 hq)];exact e1,e2.mono X⟩
       refine TG ρ2 s2 H3 _ x env2 env' σ2 _ C3.1.hr rx C3.1.er he fun σ4 er4=>?_
       cases hc:body env' s2 a2 with
       |ok q s5=>
        rw[hc]at h2
        have hlen:q.1.length≤zP:=Nat.le_trans (vN hg h2) hz
        exact hb ρ2 s2 H3 env' σ4 a2 q s5 _ ⟨C3.1.lp,C3.1.hr,er4,C3.1.ac⟩ hc hlen fun ρ5 H5 σ5 C5 mv5=>⟨ρ5,s5,q.2,q.1,C5,(mv.trans C3.2).trans mv5,h2⟩
       |exc _ _ _=>rw[hc]at h2;cases h2
       |stuck=>rw[hc]at h2;cases h2
   . cases h2
end
section
variable (K:KF)(mg:Str→Option Value)(Φ:Calls)(G:Str→Option Val)
noncomputable def uE(e:Ex):L2.TE:=fun σ H Q=>∃env s,tV K mg env s (evE Φ G env e s) σ H Q
noncomputable def uT(e:Cn):L2.TT:=fun σ H Q=>∃env s,tT K mg env s (evT Φ G env e s) σ H Q
noncomputable def uI(it:Itb):L2.TI:=fun σ H R=>∃env s,tI (K:=K) (mg:=mg) env s (yT Φ G env it s) σ H R
noncomputable def uTs:Cns→List L2.TT
 |.nil=>[]
 |.cons e es=>uT K mg Φ G e::uTs es
end
section
variable {K:KF}{mg:Str→Option Value}{Φ:Calls}{G:Str→Option Val}
theorem di{X:L2.Cx}{e:Ex}{E:Expr}(h:∀env s,L2.PE X E (tV X.K X.mg env s (evE Φ G env e s))):L2.PE X E (uE X.K X.mg Φ G e):=fun pins s σ H Q I ⟨env,t,q⟩=>h env t pins s σ H Q I q
theorem Xg{X:L2.Cx}{e:Cn}{E:Expr}(h:∀env s,L2.PT X E (tT X.K X.mg env s (evT Φ G env e s))):L2.PT X E (uT X.K X.mg Φ G e):=fun pins s σ H Q I ⟨env,t,q⟩=>h env t pins s σ H Q I q
theorem mE{X:L2.Cx}{it:Itb}{tg E:Expr}(h:∀env s,L2.PI X tg E (tI (K:=X.K) (mg:=X.mg) env s (yT Φ G env it s))):L2.PI X tg E (uI X.K X.mg Φ G it):=fun pins s σ H Q I ⟨env,t,q⟩=>h env t pins s σ H Q I q
theorem rK{s2:Sto}{env:Env}{σ:L2.St}{b:Bool}{Q:Bool→L2.Hp→Prop}:∀{es:Cns} {ρ:Own} {s:Sto} {H:L2.Hp},HR K mg ρ s H→ER K mg ρ H env σ→yu Φ G env es s=.ok b s2 →
 (∀ρ' H',Ext ρ H ρ' H'→HR K mg ρ' s2 H'→Q b H')→L2.pd (uTs K mg Φ G es) σ H Q
 |.nil,ρ,s,H,hr,er,h,q=>by
  rw[yu]at h;cases h
  exact q ρ H Ext.refl hr
 |.cons e es,ρ,s,H,hr,er,h,q=>by
  rw[yu]at h
  refine⟨env,s,ρ,hr,er,?_⟩
  cases hc:evT Φ G env e s with
  |ok c s1=>
   rw[hc]at h
   intro ρ1 c' H1 x1 hr1 e1
   cases e1
   cases c with
   |true=>exact L2.rV (rK hr1 (er.mono x1) h fun ρ' H' x' hr'=>q ρ' H' (x1.trans hr1 x') hr')
   |false=>
    simp only[zR]at h
    cases h
    exact L2.rT (q ρ1 H1 x1 hr1)
  |exc _ _ _=>rw[hc]at h;cases h
  |stuck=>rw[hc]at h;cases h
noncomputable def vv(Φ:Calls)(G:Str→Option Val)(elt:Ex)(ifs:Cns):Env→Sto→List Val→Out (List Val × Env):=fun e s' acc=>(yu Φ G e ifs s').bind fun b s2=>if b then (evE Φ G e elt s2).bind fun v s3=>.ok (acc++[v],e) s3 else .ok (acc,e) s2
theorem wN{elt:Ex}{ifs:Cns}:Grows (vv Φ G elt ifs):=by
 intro e s a p s' h
 unfold vv at h
 cases hc:yu Φ G e ifs s with
 |ok b s1=>
  rw[hc]at h
  cases b with
  |true=>
   simp only[zR,if_true]at h
   cases hv:evE Φ G e elt s1 with
   |ok v s2=>rw[hv]at h;cases h;simp
   |exc _ _ _=>rw[hv]at h;cases h
   |stuck=>rw[hv]at h;cases h
  |false=>simp only[zR]at h;cases h;exact Nat.le_refl _
 |exc _ _ _=>rw[hc]at h;cases h
 |stuck=>rw[hc]at h;cases h
theorem rN{acc:Addr}{ρ0:Own}{H0:L2.Hp}(hn:H0 acc=none){elt:Ex}{ifs:Cns}:BodyOk K mg acc ρ0 H0 (vv Φ G elt ifs) (L2.tTB (uTs K mg Φ G ifs) (L2.vt acc (uE K mg Φ G elt))):=by
 intro ρ s H env σ a p s' D C h hz q
 unfold vv at h
 cases hc:yu Φ G env ifs s with
 |ok b s1=>
  rw[hc]at h
  refine rK (ρ:=ρ) (s:=s) C.hr C.er hc fun ρ1 H1 x1 hr1=>?_
  have hacc1:∃ys,H1 acc=some (.lst ys)∧RDs K mg ρ1 H1 a ys:=by
   obtain⟨ys,e1,e2⟩:=C.ac
   exact⟨ys,x1.keep _ _ e1 (C.hr.hid acc C.lp.here).2,e2.mono x1⟩
  cases b with
  |true=>
   simp only[zR,if_true]at h
   refine L2.rV ⟨env,s1,ρ1,hr1,C.er.mono x1,?_⟩
   cases hv:evE Φ G env elt s1 with
   |ok v s2=>
    rw[hv]at h
    cases h
    intro ρ2 y H2 x2 hr2 r2
    have xx:=x1.trans hr1 x2
    have lp2:=C.lp.step C.hr xx
    obtain⟨ys,e1,e2⟩:=hacc1
    have e3:H2 acc=some (.lst ys):=x2.keep _ _ e1 (hr1.hid acc (C.lp.step C.hr x1).here).2
    have e4:=e2.mono x2
    have hl:ys.length<sizeLine:=by
     have h1:(a++[v]).length≤zP:=hz
     rw[List.length_append,e2.length,yc]at h1
     simp at h1;omega
    have mv2:=lP (H1:=H2) lp2.here (.lst (ys++[y]))
    refine⟨ys,e3,hl,q ρ2 _ σ ⟨lp2.emit hn _,hr2.emit lp2.here,⟨C.er.len,fun i v' e'=>?_⟩,⟨_,L2.zt,RDs.mv mv2 (e4.append (.cons r2 .nil))⟩⟩ (xx.mv.trans mv2)⟩
    obtain⟨u,h1,h2⟩:=(C.er.mono xx).at_ i v' e'
    exact⟨u,h1,RD.mv mv2 h2⟩
   |exc _ _ _=>rw[hv]at h;cases h
   |stuck=>rw[hv]at h;cases h
  |false=>
   simp only[zR]at h
   cases h
   exact L2.rT (q ρ1 H1 σ ⟨C.lp.step C.hr x1,hr1,C.er.mono x1,hacc1⟩ x1.mv)
 |exc _ _ _=>rw[hc]at h;cases h
 |stuck=>rw[hc]at h;cases h
noncomputable def tL(Φ:Calls)(G:Str→Option Val)(elt:Ex)(ifs:Cns)(t2:Tgt)(it2:Itb)(ifs2:Cns):Env→Sto→List Val→Out (List Val × Env):=fun e s' acc=>(yu Φ G e ifs s').bind fun b s2=>if b then (yT Φ G e it2 s2).bind fun r2 s3=>
 yV r2 t2 (vv Φ G elt ifs2) r2.xs e s3 acc
 else .ok (acc,e) s2
theorem uo{elt:Ex}{ifs ifs2:Cns}{t2:Tgt}{it2:Itb}:Grows (tL Φ G elt ifs t2 it2 ifs2):=by
 intro e s a p s' h
 unfold tL at h
 cases hc:yu Φ G e ifs s with
 |ok b s1=>
  rw[hc]at h
  cases b with
  |true=>
   simp only[zR,if_true]at h
   cases hv:yT Φ G e it2 s1 with
   |ok v s2=>rw[hv]at h;exact vN wN h
   |exc _ _ _=>rw[hv]at h;cases h
   |stuck=>rw[hv]at h;cases h
  |false=>simp only[zR]at h;cases h;exact Nat.le_refl _
 |exc _ _ _=>rw[hc]at h;cases h
 |stuck=>rw[hc]at h;cases h
theorem qZ{acc:Addr}{ρ0:Own}{H0:L2.Hp}(hn:H0 acc=none){elt:Ex}{ifs ifs2:Cns}{t2:Tgt}{it2:Itb}{g2:L2.TG}(TG:uv K mg t2 g2) :
 BodyOk K mg acc ρ0 H0 (tL Φ G elt ifs t2 it2 ifs2) (L2.tTB (uTs K mg Φ G ifs) (L2.rH (uI K mg Φ G it2) g2 (uTs K mg Φ G ifs2) (L2.vt acc (uE K mg Φ G elt)))):=by
 intro ρ s H env σ a p s' D C h hz q
 unfold tL at h
 cases hc:yu Φ G env ifs s with
 |ok b s1=>
  rw[hc]at h
  refine rK (ρ:=ρ) (s:=s) C.hr C.er hc fun ρ1 H1 x1 hr1=>?_
  have hacc1:∃ys,H1 acc=some (.lst ys)∧RDs K mg ρ1 H1 a ys:=by
   obtain⟨ys,e1,e2⟩:=C.ac
   exact⟨ys,x1.keep _ _ e1 (C.hr.hid acc C.lp.here).2,e2.mono x1⟩
  have lp1:=C.lp.step C.hr x1
  cases b with
  |true=>
   simp only[zR,if_true]at h
   refine L2.rV ⟨env,s1,ρ1,hr1,C.er.mono x1,?_⟩
   cases hv:yT Φ G env it2 s1 with
   |ok r2 s2=>
    rw[hv]at h
    intro ρ2 H2 J x2 hr2 W
    have xx:=x1.trans hr1 x2
    obtain⟨ys,e1,e2⟩:=hacc1
    have e3:H2 acc=some (.lst ys):=x2.keep _ _ e1 (hr1.hid acc lp1.here).2
    exact wZ W TG wN (rN hn) ⟨lp1.step hr1 x2,hr2,C.er.mono xx,⟨ys,e3,e2.mono x2⟩⟩ h hz fun ρ3 H3 σ3 C3 mv3=>q ρ3 H3 σ3 C3 (xx.mv.trans mv3)
   |exc _ _ _=>rw[hv]at h;cases h
   |stuck=>rw[hv]at h;cases h
  |false=>
   simp only[zR]at h
   cases h
   exact L2.rT (q ρ1 H1 σ ⟨lp1,hr1,C.er.mono x1,hacc1⟩ x1.mv)
 |exc _ _ _=>rw[hc]at h;cases h
 |stuck=>rw[hc]at h;cases h
theorem jx{ρ:Own}{H:L2.Hp}{env:Env}{σ:L2.St}(er:ER K mg ρ H env σ)(fr:List (Option Nat)):ER K mg ρ H (zG fr env) (L2.zG fr σ):=by
 refine⟨by unfold zG L2.zG;rw[List.length_map,List.length_map],fun i v e=>?_⟩
 unfold zG at e
 unfold L2.zG
 rw[List.getElem?_map]at e ⊢
 cases hf:fr[i]? with
 |none=>rw[hf]at e;cases e
 |some o=>
  rw[hf]at e
  cases o with
  |none=>cases e
  |some j=>
   have e':(env[j]?).join=some v:=Option.some.inj e
   have e2:env[j]?=some (some v):=by
    cases h1:env[j]? with
    |none=>rw[h1]at e';cases e'
    |some w=>rw[h1]at e';have:w=some v:=e';rw[this]
   obtain⟨x,h1,h2⟩:=er.at_ j v e2
   refine⟨x,?_,h2⟩
   show some ((σ[j]?).join)=_
   rw[h1];rfl
theorem vZ{fr:List (Option Nat)}{it:Itb}{t:Tgt}{g:L2.TG}{ts:List L2.TT}{tb:Addr→L2.TB}{body:Env→Sto→List Val→Out (List Val × Env)}{m:Bool}{env:Env}{s:Sto}(TG:uv K mg t g)(hg:Grows body)
 (hb:∀acc ρ0 H0,H0 acc=none→BodyOk K mg acc ρ0 H0 body (L2.tTB ts (tb acc))) {σ:L2.St} {H:L2.Hp} {Q:L2.VK} {chk:Bool}
 (h:tV K mg env s ((yT Φ G env it s).bind fun r s1=>(yV r t body r.xs (zG fr env) s1 []).bind fun p s2=>if chk=true→p.1.length≤zP then newList m p.1 s2 else .stuck) σ H Q)
 (hlen:chk=false→∀r s1 p s2,yV r t body r.xs (zG fr env) s1 []=.ok p s2→p.1.length≤r.xs.length):L2.vS fr (uI K mg Φ G it) g ts tb σ H Q:=by
 obtain⟨ρ,hr,er,w⟩:=h
 refine⟨env,s,ρ,hr,er,?_⟩
 cases hi:yT Φ G env it s with
 |ok r s1=>
  rw[hi]at w
  simp only[zR]at w
  intro ρ1 H1 J x1 hr1 W acc hacc
  cases hl:yV r t body r.xs (zG fr env) s1 [] with
  |ok p s2=>
   rw[hl]at w
   simp only[zR]at w
   have hz:p.1.length≤zP∧yh K mg (RD K mg) ρ H (newList m p.1 s2) Q:=by
    by_cases hc:chk=true→p.1.length≤zP
    . rw[if_pos hc]at w
      refine⟨?_,w⟩
      cases chk with
      |true=>exact hc rfl
      |false=>exact Nat.le_trans (hlen rfl r s1 p s2 hl) W.len
    . rw[if_neg hc]at w;exact w.elim
   have mv:=lU (ρ:=ρ1) hacc (.lst [])
   have ers:=jx (er.mono x1) fr
   refine wZ (ρ0:=ρ1) (H0:=H1) (W.mv mv) TG hg (hb acc ρ1 H1 hacc) ⟨Lp.start hacc _,hr1.hide hacc,⟨ers.len,fun i v e=>?_⟩,⟨[],L2.zt,.nil⟩⟩ hl hz.1 fun ρ3 H3 σ3 C3 _=>?_
   . obtain⟨x,h1,h2⟩:=ers.at_ i v e
     exact⟨x,h1,RD.mv mv h2⟩
   . obtain⟨ys,e1,e2⟩:=C3.ac
     exact C3.lp.done hr1 hacc C3.hr e1 e2 (hz.2.mono x1 hr1)
  |exc _ _ _=>rw[hl]at w;exact w.elim
  |stuck=>rw[hl]at w;exact w.elim
 |exc _ _ _=>rw[hi]at w;exact w.elim
 |stuck=>rw[hi]at w;exact w.elim
theorem tM{r:Src}{t:Tgt}{elt:Ex}{ifs:Cns}:∀{xs:List Val} {env:Env} {s:Sto} {a:List Val} {p:List Val × Env} {s':Sto},yV r t (vv Φ G elt ifs) xs env s a=.ok p s'→p.1.length≤a.length+xs.length
 |[],env,s,a,p,s',h=>by
  rw[yV]at h
  split at h
  . cases h;exact Nat.le_refl _
  . cases h
 |x::xs,env,s,a,p,s',h=>by
  rw[yV]at h
  split at h
  . split at h
    . cases h
    . rename_i env' he
      cases hc:vv Φ G elt ifs env' s a with
      |ok q s1=>
       rw[hc]at h
       have h1:=tM h
       have h2:q.1.length≤a.length+1:=by
        unfold vv at hc
        cases h3:yu Φ G env' ifs s with
        |ok b s2=>
         rw[h3]at hc
         cases b with
         |true=>
          simp only[zR,if_true]at hc
          cases h4:evE Φ G env' elt s2 with
          |ok v s3=>rw[h4]at hc;cases hc;simp
          |exc _ _ _=>rw[h4]at hc;cases hc
          |stuck=>rw[h4]at hc;cases hc
         |false=>simp only[zR]at hc;cases hc;exact Nat.le_succ _
        |exc _ _ _=>rw[h3]at hc;cases hc
        |stuck=>rw[h3]at hc;cases hc
       rw[List.length_cons];omega
      |exc _ _ _=>rw[hc]at h;cases h
      |stuck=>rw[hc]at h;cases h
  . cases h
end
end M
end
section
namespace M
open PySem
noncomputable def bM(sc:Scope)(x:Str):Bool:=decide (sc.names.lookup x=some .local)||decide (sc.names.lookup x=some .cell)||decide (sc.names.lookup x=some .free)
noncomputable def uX(sc:Scope)(x:Str):Bool:=decide (sc.names.lookup x=some .globalImplicit)
noncomputable def wX:List Str:=["len","all","any","tuple","list","sorted","repr","max","min","sum","int","isinstance","divmod","str","bool","dict","set","range","enumerate","zip"]
noncomputable def X6(y:Str)(n:String):Bool:=(decide (y="int")&&decide (n="int"))||(decide (y="bool")&&decide (n="bool"))||(decide (y="str")&&decide (n="str"))||(decide (y="list")&&decide (n="list"))||(decide (y="tuple")&&decide (n="tuple"))||(decide (y="dict")&&decide (n="dict"))
noncomputable def qF:Val→Expr→Bool
 |.none,.Constant .none _ _=>true
 |.bool b,.Constant (.bool c) _ _=>b == c
 |.int i,.Constant (.int j) _ _=>decide (i=j)
 |.str x,.Constant (.str y) _ _=>decide (x=y)
 |_,_=>false
mutual
noncomputable def ck(sc:Scope)(N:List Str):Ex→Expr→Bool
 |.lit v,e=>qF v e
 |.var i,e=>(match e with|.Name x _=>decide (N[i]?=some x)&&bM sc x&&!(x == ("__debug__":Str))&&!(x == ("__classdict__":Str))|_=>false)
 |.gl y,e=>(match e with|.Name x _=>decide (x=y)&&uX sc x&&!(x == ("__debug__":Str))|_=>false)
 |.ty y n,e=>(match e with|.Name x _=>decide (x=y)&&uX sc x&&X6 y n|_=>false)
 |.bin _ op a b,e=>(match e with|.BinOp l o r _=>(okB op&&decide (o=op.op))&&ck sc N a l&&ck sc N b r|_=>false)
 |.neg a,e=>(match e with|.UnaryOp .USub x _=>ck sc N a x|_=>false)
 |.not a,e=>(match e with|.UnaryOp .Not x _=>ck sc N a x|_=>false)
 |.cmp op a b,e=>(match e with|.Compare l [o] [r] _=>(okC op&&decide (o=op.op))&&ck sc N a l&&ck sc N b r&&plain r|_=>false)
 |.chain op op' a b c,e=>(match e with|.Compare l [o,o'] [r,r'] _=>(okC op&&decide (o=op.op))&&(okC op'&&decide (o'=op'.op))&&ck sc N a l&&ck sc N b r&&ck sc N c r'&&plain r'|_=>false)
 |.andE a es,e=>(match e with|.BoolOp .And (x::xs) _=>ck sc N a x&&ckL sc N es xs|_=>false)
 |.orE a es,e=>(match e with|.BoolOp .Or (x::xs) _=>ck sc N a x&&ckL sc N es xs|_=>false)
 |.ife c a b,e=>(match e with|.IfExp t x y _=>ckC sc N c t&&ck sc N a x&&ck sc N b y|_=>false)
 |.tup es,e=>(match e with|.Tuple xs _ _=>ckL sc N es xs&&yb xs|_=>false)
 |.lst _ es,e=>(match e with|.List xs _=>ckL sc N es xs&&yb xs|_=>false)
 |.dct0,e=>(match e with|.Dict [] [] _=>true|_=>false)
 |.call f _ es,e=>(match e with|.Call (.Name x _) xs [] _=>decide (x=f)&&uX sc x&&!(x == ("__debug__":Str))&&ckL sc N es xs&&yb xs|_=>false)
 |.blt f _ es,e=>(match e with|.Call (.Name x _) (y::ys) [] _=>(okF f&&decide (x=f.nm))&&uX sc x&&ckL sc N es (y::ys)&&yb (y::ys)|_=>false)
 |.maxD _ _,_=>false
 |.yi f _ o es,e=>(match e with|.Call (.Attribute ob x ap) [y] [] cp=>decide (x=f.nm)&&ck sc N o ob&&ckL sc N es [y]&&plain y&&pF ob&&(ap.endLine == cp.line)|_=>false)
 |.ix a b,e=>(match e with|.Subscript l r _=>ck sc N a l&&ck sc N b r&&plain r|_=>false)
 |.sl _ a lo hi st,e=>(match e with|.Subscript l (.Slice x y z _) _=>ck sc N a l&&ckO sc N lo x&&ckO sc N hi y&&ckO sc N st z|_=>false)
 |.comp _ N' fr elt t it ifs,e=>(match e with|.ListComp x [⟨tg,iter,fs,0⟩] csc _=>L2.qq sc N N' csc fr&&decide N'.Nodup&&ckT csc N' t tg&&ckI sc N it iter tg&&qr csc N' ifs fs&&ck csc N' elt x&&plain iter|_=>false)
 |.comp2 _ N' fr elt t it ifs t2 it2 ifs2,e=>(match e with|.ListComp x [⟨tg,iter,fs,0⟩,⟨tg2,iter2,fs2,0⟩] csc _=>L2.qq sc N N' csc fr&&decide N'.Nodup&&ckT csc N' t tg&&ckI sc N it iter tg&&qr csc N' ifs fs&&ckT csc N' t2 tg2&&ckI csc N' it2 iter2 tg2&&qr csc N' ifs2 fs2&&ck csc N' elt x&&plain iter&&plain iter2|_=>false)
 |.listRange _ _ _ _,_=>false
noncomputable def ckL(sc:Scope)(N:List Str):Exs→List Expr→Bool
 |.nil,es=>(match es with|[]=>true|_=>false)
 |.cons a as,es=>(match es with|e::es=>ck sc N a e&&ckL sc N as es|_=>false)
noncomputable def ckO(sc:Scope)(N:List Str):OEx→Option Expr→Bool
 |.no,e=>(match e with|none=>true|_=>false)
 |.yes a,e=>(match e with|some e=>ck sc N a e|_=>false)
noncomputable def ckC(sc:Scope)(N:List Str):Cn→Expr→Bool
 |.val a,e=>ck sc N a e&&(plainT e||(match e with|.Compare ..=>true|_=>false))
 |.not c,e=>(match e with|.UnaryOp .Not x _=>ckC sc N c x|_=>false)
 |.and c cs,e=>(match e with|.BoolOp .And (x::xs) _=>ckC sc N c x&&qr sc N cs xs|_=>false)
 |.or c cs,e=>(match e with|.BoolOp .Or (x::xs) _=>ckC sc N c x&&qr sc N cs xs|_=>false)
noncomputable def qr(sc:Scope)(N:List Str):Cns→List Expr→Bool
 |.nil,es=>(match es with|[]=>true|_=>false)
 |.cons a as,es=>(match es with|e::es=>ckC sc N a e&&qr sc N as es|_=>false)
noncomputable def ckI(sc:Scope)(N:List Str):Itb→Expr→Expr→Bool
 |.val a,e,_=>ck sc N a e
 |.range1 a,e,_=>(match e with|.Call (.Name x _) [y] [] _=>decide (x="range")&&uX sc x&&ck sc N a y&&plain y|_=>false)
 |.range2 a b,e,_=>(match e with|.Call (.Name x _) [y,z] [] _=>decide (x="range")&&uX sc x&&ck sc N a y&&ck sc N b z&&plain y&&plain z|_=>false)
 |.enum a,e,tg=>(match e,tg with|.Call (.Name x _) [y] [] _,.Tuple _ _ _=>decide (x="enumerate")&&uX sc x&&ck sc N a y&&plain y|_,_=>false)
 |.zip _ _,_,_=>false
end
structure Ok(T:Tbl)(n:Nat)(sc:Scope)(N:List Str)(X:L2.Cx):Prop where
 calm:X.calm=true
 room:L2.xG n X.A
 scp:Scp sc N X
 fns:∀f v F,T.fn f v=some F→Callee T n X f v F
 gls:∀x v,T.gl x=some v→∃u xv,X.mg x=some u∧L2.RelV xv u∧∀ρ H,RD X.K X.mg ρ H v xv
 blt:∀x∈wX,X.mg x=none
 xe:X.xe=fun _ _=>False
theorem lF{sc:Scope}{N N':List Str}{csc:Scope}{fr:List (Option Nat)}{X:L2.Cx}(S:Scp sc N X)(h:L2.qq sc N N' csc fr=true):L2.zq X N' csc fr:=by
 unfold L2.qq at h
 simp only[Bool.and_eq_true,List.all_eq_true,Bool.or_eq_true,decide_eq_true_eq,List.mem_range]at h
 obtain⟨⟨⟨⟨⟨⟨a1,a2⟩,a3⟩,a4⟩,a5⟩,a6⟩,a7⟩:=h
 refine⟨a1,a2,fun x hx hk=>?_,fun x hx hk=>?_,a5,fun i j x e1 e2=>?_,fun x e1 e2=>?_⟩
 . rcases a3 x hx with z|z
   . exact absurd hk z
   . exact z
 . rcases a4 x hx with z|z
   . exact absurd hk z
   . exact S.cf x.1 z
 . have hi:i<N'.length:=(List.getElem?_eq_some_iff.mp e1).1
   have q:=a6 i hi
   rw[e1,e2]at q
   simp only[Bool.and_eq_true,decide_eq_true_eq,List.any_eq_true]at q
   obtain⟨q1,y,q2,q3,q4⟩:=q
   refine⟨by rw[S.hN];exact q1,?_⟩
   have:y=(x,NameKind.free):=Prod.ext q3 q4
   rw[←this];exact q2
 . rcases a7 (x,.free) e2 with z|z
   . exact z rfl
   . exact z e1
theorem wQ{sc:Scope}{env:PySem.Env}{x:Str}(h:sc.names.lookup x=some .local):(relabel sc env).names.lookup x=some .local:=lookup_relabel_local h
theorem mJ{sc:Scope}{env:PySem.Env}{x:Str}(h:sc.names.lookup x=some .globalImplicit):(relabel sc env).names.lookup x=some .globalImplicit:=by
 have key:∀(names:List (Str × NameKind)),names.lookup x=some .globalImplicit→(names.map fun(n,k)=>if (k == NameKind.free&&env.scope.kind == .function&&env.kindOf n == some .cell) then (n,NameKind.cell) else (n,k)).lookup x=some .globalImplicit:=by
  intro names
  induction names with
  |nil=>intro h;simp at h
  |cons p r ih=>
   obtain⟨n,k⟩:=p
   intro h
   rw[List.map_cons]
   dsimp only
   cases hx:(x == n) with
   |true=>
    rw[List.lookup_cons,hx]at h
    cases h
    have e:(NameKind.globalImplicit == NameKind.free)=false:=rfl
    rw[e]
    simp only[Bool.false_and,Bool.false_eq_true,if_false,List.lookup_cons,hx]
   |false=>
    rw[List.lookup_cons,hx]at h
    have:=ih h
    split<;>simpa only[List.lookup_cons,hx] using this
 exact key sc.names h
theorem Scp.comp{sc:Scope}{N N':List Str}{csc:Scope}{fr:List (Option Nat)}{X:L2.Cx}(S:Scp sc N X)(hc:L2.zq X N' csc fr)(nd:N'.Nodup)(C:Addr)(s0:Shared)(H0:L2.Hp)(ex:List Addr):Scp csc N' (X.comp N' csc C s0 H0 ex):=by
 have nocell:∀x,csc.names.lookup x≠some .cell:=fun x h=>hc.nocell _ (PySem.mem_of_lookup h) rfl
 refine⟨rfl,nd,fun x h=>?_,fun x h=>?_,fun x h=>?_,fun x h=>?_⟩
 . rcases h with h|h|h
   . exact .inl (wQ h)
   . exact absurd h (nocell x)
   . exact(L2.uf hc.locals h).elim (fun z=>.inr (.inl z)) fun z=>.inr (.inr z)
 . rcases h with h|h
   . exact⟨.inl (wQ h),.inr (wQ h)⟩
   . exact absurd h (nocell x)
 . exact mJ h
 . rcases h with h|h
   . exact absurd h (nocell x)
   . exact L2.uf hc.locals h
theorem Callee.comp{T:Tbl}{n:Nat}{X:L2.Cx}{f:Str}{v:Nat}{F:Fn}(c:Callee T n X f v F)(N':List Str)(csc:Scope)(C:Addr)(s0:Shared)(H0:L2.Hp)(ex:List Addr):Callee T n (X.comp N' csc C s0 H0 ex) f v F:=⟨c.ex⟩
theorem Ok.comp{T:Tbl}{n:Nat}{sc:Scope}{N N':List Str}{csc:Scope}{fr:List (Option Nat)}{X:L2.Cx}(o:Ok T n sc N X)(hc:L2.zq X N' csc fr)(nd:N'.Nodup)(C:Addr)(s0:Shared)(H0:L2.Hp)(ex:List Addr):Ok T n csc N' (X.comp N' csc C s0 H0 ex):=
 ⟨o.calm,o.room,o.scp.comp hc nd C s0 H0 ex,fun f v F h=>(o.fns f v F h).comp N' csc C s0 H0 ex,o.gls,o.blt,rfl⟩
end M
end
section
namespace M
open PySem
section
variable {T:Tbl}{n:Nat}
def JE(T:Tbl)(n:Nat)(a:Ex):Prop:=∀(sc:Scope) (N:List Str) (X:L2.Cx) (e:Expr),Ok T n sc N X→ck sc N a e=true→∀env s,L2.PE X e (tV X.K X.mg env s (evE (zH T n) T.gl env a s))
def JL(T:Tbl)(n:Nat)(a:Exs):Prop:=∀(sc:Scope) (N:List Str) (X:L2.Cx) (es:List Expr),Ok T n sc N X→ckL sc N a es=true →
 (yb es=true→∀env s,L2.PA X es (tVs X.K X.mg env s (yr (zH T n) T.gl env a s))) ∧
 (∀e es' pos,es=e::es'→∀env s,L2.PE X (.BoolOp .And es pos) (tV X.K X.mg env s (tS (zH T n) T.gl env a s))) ∧
 (∀e es' pos,es=e::es'→∀env s,L2.PE X (.BoolOp .Or es pos) (tV X.K X.mg env s (oD (zH T n) T.gl env a s))) ∧
 (∀y,es=[y]→plain y=true→∃b,a=.cons b .nil∧∀env s,L2.PE X y (tV X.K X.mg env s (evE (zH T n) T.gl env b s)))
def JO(T:Tbl)(n:Nat)(a:OEx):Prop:=∀(sc:Scope) (N:List Str) (X:L2.Cx) (e:Option Expr),Ok T n sc N X→ckO sc N a e=true→(∀env s,L2.PO X e (tO X.K X.mg env s (evO (zH T n) T.gl env a s))) ∧
 ((e=none∧∀env s1,evO (zH T n) T.gl env a s1=.ok none s1)∨∃e',e=some e'∧∀env s1 s2,evO (zH T n) T.gl env a s1≠.ok none s2)
def JC(T:Tbl)(n:Nat)(a:Cn):Prop:=∀(sc:Scope) (N:List Str) (X:L2.Cx) (e:Expr),Ok T n sc N X→ckC sc N a e=true→∀env s,L2.PT X e (tT X.K X.mg env s (evT (zH T n) T.gl env a s))
def JCs(T:Tbl)(n:Nat)(a:Cns):Prop:=∀(sc:Scope) (N:List Str) (X:L2.Cx) (es:List Expr),Ok T n sc N X→qr sc N a es=true →
 (∀pos env s,L2.PW X (.BoolOp .And es pos) (tT X.K X.mg env s (yu (zH T n) T.gl env a s)))∧(∀pos env s,L2.PW X (.BoolOp .Or es pos) (tT X.K X.mg env s (tZ (zH T n) T.gl env a s)))∧L2.PTs X es (uTs X.K X.mg (zH T n) T.gl a)
def JI(T:Tbl)(n:Nat)(a:Itb):Prop:=∀(sc:Scope) (N:List Str) (X:L2.Cx) (e tg:Expr),Ok T n sc N X→ckI sc N a e tg=true→∀env s,L2.PI X tg e (tI (K:=X.K) (mg:=X.mg) env s (yT (zH T n) T.gl env a s))
theorem aw{v:Val}:JE T n (.lit v):=by
 intro sc N X e o h env s
 simp only[ck]at h
 show L2.PE X e (tV X.K X.mg env s (.ok v s))
 unfold qF at h
 split at h
 . exact zk L2.Zo fun σ H Q ⟨ρ,hr,er,w⟩=>zM hr .none w
 . have h':=(beq_iff_eq.mp h);subst h'
   exact zk L2.XS fun σ H Q ⟨ρ,hr,er,w⟩=>zM hr (.bool _) w
 . have h':=of_decide_eq_true h;subst h'
   exact zk L2.Zm fun σ H Q ⟨ρ,hr,er,w⟩=>zM hr (.int _) w
 . have h':=of_decide_eq_true h;subst h'
   exact zk L2.Zr fun σ H Q ⟨ρ,hr,er,w⟩=>zM hr (.str _) w
 . cases h
theorem a0{i:Nat}:JE T n (.var i):=by
 intro sc N X e o h env s
 simp only[ck]at h
 split at h
 . rename_i x p
   simp only[Bool.and_eq_true,decide_eq_true_eq,bM,Bool.or_eq_true,Bool.not_eq_true']at h
   obtain⟨⟨⟨h1,h2⟩,h3⟩,h4⟩:=h
   have hv:L2.Vis X.env.scope x:=o.scp.vis x (by rcases h2 with (z|z)|z;exact .inl z;exact .inr (.inl z);exact .inr (.inr z))
   show L2.PE X _ (tV X.K X.mg env s (match env[i]? with|some (some v)=>.ok v s|_=>.stuck))
   refine zk (L2.Zt (i:=i) (by rw[o.scp.hN];exact h1) hv h3 h4) fun σ H Q ⟨ρ,hr,er,w⟩=>?_
   split at w
   . rename_i v e
     obtain⟨x',h5,h6⟩:=er.at_ i v e
     exact⟨x',h5,zM hr h6 w⟩
   . exact w.elim
 . cases h
theorem Yp{y:Str}:JE T n (.gl y):=by
 intro sc N X e o h env s
 simp only[ck]at h
 split at h
 . rename_i x p
   simp only[Bool.and_eq_true,decide_eq_true_eq,uX,Bool.not_eq_true']at h
   obtain⟨⟨h1,h2⟩,h3⟩:=h
   subst h1
   show L2.PE X _ (tV X.K X.mg env s (match T.gl x with|some v=>.ok v s|Option.none=>.stuck))
   cases hv:T.gl x with
   |none=>exact zL nofun
   |some v=>
    obtain⟨u,xv,e1,e2,e3⟩:=o.gls x v hv
    exact zk (L2.dg (o.scp.gl x h2) e1 e2 h3) fun σ H Q ⟨ρ,hr,er,w⟩=>zM hr (e3 ρ H) w
 . cases h
theorem Yr{y:Str}{m:String}:JE T n (.ty y m):=by
 intro sc N X e o h env s
 simp only[ck]at h
 split at h
 . rename_i x p
   simp only[Bool.and_eq_true,decide_eq_true_eq,uX]at h
   obtain⟨⟨h1,h2⟩,h3⟩:=h
   subst h1
   show L2.PE X _ (tV X.K X.mg env s (.ok (.ty m) s))
   have key:x∈wX∧bootBuiltins x=some (.type m)∧x≠"__name__"∧(x == ("__debug__":Str))=false:=by
    unfold X6 at h3
    simp only[Bool.or_eq_true,Bool.and_eq_true,decide_eq_true_eq]at h3
    rcases h3 with ((((⟨rfl,rfl⟩|⟨rfl,rfl⟩)|⟨rfl,rfl⟩)|⟨rfl,rfl⟩)|⟨rfl,rfl⟩)|⟨rfl,rfl⟩
    . exact⟨by decide,PyProof.Rows.boot_int,by decide,by decide⟩
    . exact⟨by decide,PyProof.Rows.boot_bool,by decide,by decide⟩
    . exact⟨by decide,PyProof.Rows.boot_str,by decide,by decide⟩
    . exact⟨by decide,PyProof.Rows.boot_list,by decide,by decide⟩
    . exact⟨by decide,PyProof.Rows.boot_tuple,by decide,by decide⟩
    . exact⟨by decide,PyProof.Rows.boot_dict,by decide,by decide⟩
   exact zk (L2.XX (o.scp.gl x h2) (o.blt x key.1) key.2.1 key.2.2.1 key.2.2.2) fun σ H Q ⟨ρ,hr,er,w⟩=>zM hr (.ty _) w
 . cases h
theorem ee:JE T n .dct0:=by
 intro sc N X e o h env s
 simp only[ck]at h
 split at h
 . show L2.PE X _ (tV X.K X.mg env s (.ok .dct0 s))
   exact zk (L2.de fun pins σ H s I=>I.big) fun σ H Q ⟨ρ,hr,er,w⟩ p hp=>w _ _ _ (Ext.new hr hp _) (hr.more hp _) (.dct0 (hr.new hp) L2.zt)
 . cases h
theorem oA{op:Cop}{x y v:Val}{s s':Sto}(h:zT op x y s=.ok v s'):∃b,v=.bool b:=by
 unfold zT at h
 split at h<;>(split at h<;>first|(cases h;exact⟨_,rfl⟩)|cases h|(split at h<;>first|(cases h;exact⟨_,rfl⟩)|cases h|(split at h<;>first|(cases h;exact⟨_,rfl⟩)|cases h)))
theorem rM{K:KF}{mg:Str→Option Value}{ρ:Own}{H:L2.Hp}{o:Out Val}{Q:Bool→L2.Hp→Prop}(hb:∀v s',o=.ok v s'→∃b,v=.bool b)(w:yh K mg (fun _ _ a b=>a=b) ρ H o.truth Q):yh K mg (RD K mg) ρ H o fun x H'=>∃k,x=.bl k∧Q k H':=by
 cases o with
 |ok v s1=>
  obtain⟨b,rfl⟩:=hb v s1 rfl
  intro ρ1 x H1 x1 hr1 r1
  cases r1
  exact⟨b,rfl,w _ _ _ x1 hr1 rfl⟩
 |exc _ _ _=>exact w
 |stuck=>exact w
theorem ZD{X:L2.Cx}{env:Env}{s:Sto}{a b:Expr}{op:Cop}{o:Out Val}{f2:Sto→Out Val}{k:Nat}{pos:Pos}(k1:okC op=true)(hr0:L2.xG k X.A)(h1:L2.PE X a (tV X.K X.mg env s o))(h2:∀s1,L2.PE X b (tV X.K X.mg env s1 (f2 s1)))(hm:plain b=true) :
 L2.PT X (.Compare a [op.op] [b] pos) (tT X.K X.mg env s (o.bind fun x s1=>(f2 s1).bind fun y s2=>zT op x y s2).truth):=by
 cases o with
 |ok v s1=>
  have h2':=h2 s1
  show L2.PT X _ (tT X.K X.mg env s ((f2 s1).bind fun y s2=>zT op v y s2).truth)
  cases hb:f2 s1 with
  |ok w s2=>
   rw[hb]at h2'
   exact pM (L2.d7 (tH hr0 op k1) h1 h2' (vA hm)) fun σ H Q ⟨ρ,hr,er,wt⟩=>⟨ρ,hr,er,fun ρ1 x H1 x1 hr1 r1=>⟨ρ1,hr1,er.mono x1,fun ρ2 y H2 x2 hr2 r2=>⟨ρ2,s2,v,w,hr2,r1.mono x2,r2,rM (fun _ _ h=>oA h) (wt.mono (x1.trans hr1 x2) hr2)⟩⟩⟩
  |exc _ _ _=>exact z5 nofun
  |stuck=>exact z5 nofun
 |exc _ _ _=>exact z5 nofun
 |stuck=>exact z5 nofun
theorem gD{X:L2.Cx}{env:Env}{s:Sto}{a b c:Expr}{op op':Cop}{o:Out Val}{f2 f3:Sto→Out Val}{k:Nat}{pos:Pos}(k1:okC op=true)(k2:okC op'=true)(hr0:L2.xG k X.A)(h1:L2.PE X a (tV X.K X.mg env s o))(h2:∀s1,L2.PE X b (tV X.K X.mg env s1 (f2 s1)))(h3:∀s1,L2.PE X c (tV X.K X.mg env s1 (f3 s1)))(hm:plain c=true) :
 L2.PT X (.Compare a [op.op,op'.op] [b,c] pos) (tT X.K X.mg env s (o.bind fun x s1=>(f2 s1).bind fun y s2=>(zT op x y s2).bind fun r s3=>match r with
  |.bool true=>(f3 s3).bind fun z s4=>zT op' y z s4
  |.bool false=>.ok (.bool false) s3
  |_=>.stuck).truth):=by
 cases o with
 |ok v s1=>
  have h2':=h2 s1
  show L2.PT X _ (tT X.K X.mg env s ((f2 s1).bind _).truth)
  cases hb:f2 s1 with
  |ok w s2=>
   rw[hb]at h2'
   show L2.PT X _ (tT X.K X.mg env s ((zT op v w s2).bind _).truth)
   cases hc:zT op v w s2 with
   |ok r s3=>
    cases r with
    |bool t=>
     have h3':=h3 s3
     have rule:=L2.fA (pos:=pos) (tH hr0 op k1) (tH hr0 op' k2) h1 h2' h3' (show lastMarks [op.op,op'.op] [b,c]=false from vA hm)
     refine pM rule fun σ H Q ⟨ρ,hr,er,wt⟩=>⟨ρ,hr,er,fun ρ1 x H1 x1 hr1 r1=>⟨ρ1,hr1,er.mono x1,fun ρ2 y H2 x2 hr2 r2=>⟨ρ2,s2,v,w,hr2,r1.mono x2,r2,?_⟩⟩⟩
     rw[hc]
     intro ρ3 z H3 x3 hr3 r3
     cases r3
     refine⟨t,rfl,?_⟩
     have xx:=(x1.trans hr1 x2).trans hr2 x3
     have wt':=wt.mono xx hr3
     cases t with
     |true=>
      rw[if_pos rfl]
      refine⟨ρ3,hr3,er.mono xx,?_⟩
      have wt2:yh X.K X.mg (fun _ _ a b=>a=b) ρ3 H3 ((f3 s3).bind fun z s4=>zT op' w z s4).truth Q:=wt'
      cases hz:f3 s3 with
      |ok u s4=>
       rw[hz]at wt2
       exact fun ρ4 q H4 x4 hr4 r4=>⟨ρ4,s4,w,u,hr4,(r2.mono x3).mono x4,r4,rM (fun _ _ h=>oA h) (wt2.mono x4 hr4)⟩
      |exc _ _ _=>rw[hz]at wt2;exact wt2
      |stuck=>rw[hz]at wt2;exact wt2
     |false=>
      rw[if_neg Bool.false_ne_true]
      exact⟨false,rfl,wt' _ _ _ Ext.refl hr3 rfl⟩
    |_=>exact z5 nofun
   |exc _ _ _=>exact z5 nofun
   |stuck=>exact z5 nofun
  |exc _ _ _=>exact z5 nofun
  |stuck=>exact z5 nofun
 |exc _ _ _=>exact z5 nofun
 |stuck=>exact z5 nofun
theorem aq{op:Cop}{a b:Ex}(ja:JE T n a)(jb:JE T n b):JC T n (.val (.cmp op a b)):=by
 intro sc N X e o h env s
 simp only[ckC,Bool.and_eq_true,ck]at h
 obtain⟨h1,_⟩:=h
 split at h1
 . simp only[Bool.and_eq_true,decide_eq_true_eq]at h1
   obtain⟨⟨⟨⟨k1,rfl⟩,h3⟩,h4⟩,h5⟩:=h1
   exact ZD k1 o.room (ja _ _ _ _ o h3 env s) (fun s1=>jb _ _ _ _ o h4 env s1) h5
 . cases h1
theorem i9{op op':Cop}{a b c:Ex}(ja:JE T n a)(jb:JE T n b)(jc:JE T n c):JC T n (.val (.chain op op' a b c)):=by
 intro sc N X e o h env s
 simp only[ckC,Bool.and_eq_true,ck]at h
 obtain⟨h1,_⟩:=h
 split at h1
 . simp only[Bool.and_eq_true,decide_eq_true_eq]at h1
   obtain⟨⟨⟨⟨⟨⟨k1,rfl⟩,k2,rfl⟩,h3⟩,h4⟩,h5⟩,h6⟩:=h1
   exact gD k1 k2 o.room (ja _ _ _ _ o h3 env s) (fun s1=>jb _ _ _ _ o h4 env s1) (fun s1=>jc _ _ _ _ o h5 env s1) h6
 . cases h1
noncomputable def Yg:Ex→Bool
 |.cmp ..|.chain ..=>true
 |_=>false
theorem z8{a:Ex}(ja:JE T n a)(hn:Yg a=false):JC T n (.val a):=by
 intro sc N X e o h env s
 simp only[ckC,Bool.and_eq_true,Bool.or_eq_true]at h
 obtain⟨h1,h2⟩:=h
 have je:=ja sc N X e o h1 env s
 rcases h2 with h2|h2
 . exact ZF h2 je
 . split at h2
   . cases a<;>first|(cases hn;done)|(simp only[ck,qF]at h1;cases h1;done)|(simp only[ck,qF]at h1;split at h1<;>first|(rename_i heq;cases heq;done)|(cases h1;done))
   . cases h2
end
end M
end
section
namespace M
open PySem
section
variable {T:Tbl}{n:Nat}
theorem aV{m:Bool}{op:Bop}{a b:Ex}(ja:JE T n a)(jb:JE T n b):JE T n (.bin m op a b):=by
 intro sc N X e o h env s
 simp only[ck]at h
 split at h
 . simp only[Bool.and_eq_true,decide_eq_true_eq]at h
   obtain⟨⟨⟨k1,rfl⟩,h1⟩,h2⟩:=h
   exact b8 (ja _ _ _ _ o h1 env s) (fun s1=>jb _ _ _ _ o h2 env s1) fun ta tb pa pb=>L2.XW (ZQ m op k1) pa pb
 . cases h
theorem aa{a:Ex}(ja:JE T n a):JE T n (.neg a):=by
 intro sc N X e o h env s
 simp only[ck]at h
 split at h
 . exact ay (ja _ _ _ _ o h env s)
 . cases h
theorem ab{a:Ex}(ja:JE T n a):JE T n (.not a):=by
 intro sc N X e o h env s
 simp only[ck]at h
 split at h
 . exact az (ja _ _ _ _ o h env s)
 . cases h
theorem aX{op:Cop}{a b:Ex}(ja:JE T n a)(jb:JE T n b):JE T n (.cmp op a b):=by
 intro sc N X e o h env s
 simp only[ck]at h
 split at h
 . simp only[Bool.and_eq_true,decide_eq_true_eq]at h
   obtain⟨⟨⟨⟨k1,rfl⟩,h1⟩,h2⟩,h3⟩:=h
   exact b8 (ja _ _ _ _ o h1 env s) (fun s1=>jb _ _ _ _ o h2 env s1) fun ta tb pa pb=>L2.dZ (tH o.room op k1) pa pb (vA h3)
 . cases h
theorem iw{op op':Cop}{a b c:Ex}(ja:JE T n a)(jb:JE T n b)(jc:JE T n c):JE T n (.chain op op' a b c):=by
 intro sc N X e o h env s
 simp only[ck]at h
 split at h
 . simp only[Bool.and_eq_true,decide_eq_true_eq]at h
   obtain⟨⟨⟨⟨⟨⟨k1,rfl⟩,k2,rfl⟩,h3⟩,h4⟩,h5⟩,h6⟩:=h
   exact hU k1 k2 o.room (ja _ _ _ _ o h3 env s) (fun s1=>jb _ _ _ _ o h4 env s1) (fun s1=>jc _ _ _ _ o h5 env s1) h6
 . cases h
theorem aU{a:Ex}{es:Exs}(ja:JE T n a)(jl:JL T n es):JE T n (.andE a es):=by
 intro sc N X e o h env s
 simp only[ck]at h
 split at h
 . rename_i x xs pos
   simp only[Bool.and_eq_true]at h
   obtain⟨h1,h2⟩:=h
   cases es with
   |nil=>
    simp only[ckL]at h2
    split at h2
    . exact L2.pL (ja _ _ _ _ o h1 env s)
    . cases h2
   |cons b es'=>
    cases xs with
    |nil=>cases h2
    |cons y ys=>exact hG (ja _ _ _ _ o h1 env s) fun s1=>(jl _ _ _ _ o h2).2.1 y ys pos rfl env s1
 . cases h
theorem Yk{a:Ex}{es:Exs}(ja:JE T n a)(jl:JL T n es):JE T n (.orE a es):=by
 intro sc N X e o h env s
 simp only[ck]at h
 split at h
 . rename_i x xs pos
   simp only[Bool.and_eq_true]at h
   obtain⟨h1,h2⟩:=h
   cases es with
   |nil=>
    simp only[ckL]at h2
    split at h2
    . exact L2.pL (ja _ _ _ _ o h1 env s)
    . cases h2
   |cons b es'=>
    cases xs with
    |nil=>cases h2
    |cons y ys=>exact bN (ja _ _ _ _ o h1 env s) fun s1=>(jl _ _ _ _ o h2).2.2.1 y ys pos rfl env s1
 . cases h
theorem aY{c:Cn}{a b:Ex}(jc:JC T n c)(ja:JE T n a)(jb:JE T n b):JE T n (.ife c a b):=by
 intro sc N X e o h env s
 simp only[ck]at h
 split at h
 . simp only[Bool.and_eq_true]at h
   exact av (jc _ _ _ _ o h.1.1 env s) (fun s1=>ja _ _ _ _ o h.1.2 env s1) (fun s1=>jb _ _ _ _ o h.2 env s1)
 . cases h
theorem ae{es:Exs}(jl:JL T n es):JE T n (.tup es):=by
 intro sc N X e o h env s
 simp only[ck]at h
 split at h
 . simp only[Bool.and_eq_true]at h
   exact hX ((jl _ _ _ _ o h.1).1 h.2 env s)
 . cases h
theorem aZ{m:Bool}{es:Exs}(jl:JL T n es):JE T n (.lst m es):=by
 intro sc N X e o h env s
 simp only[ck]at h
 split at h
 . simp only[Bool.and_eq_true]at h
   exact ax ((jl _ _ _ _ o h.1).1 h.2 env s)
 . cases h
theorem nP{f:Str}{ver:Nat}(h:T.fn f ver=none)(vs:List Val)(s:Sto):zH T n f ver vs s=.stuck:=by
 cases n with
 |zero=>rfl
 |succ n=>simp only[zH,h]
theorem eQ{f:Str}{ver:Nat}{es:Exs}(jl:JL T n es):JE T n (.call f ver es):=by
 intro sc N X e o h env s
 simp only[ck]at h
 split at h
 . rename_i x p xs pos
   simp only[Bool.and_eq_true,decide_eq_true_eq,uX,Bool.not_eq_true']at h
   obtain⟨⟨⟨⟨rfl,h2⟩,h3⟩,h4⟩,h5⟩:=h
   show L2.PE X _ (tV X.K X.mg env s ((yr (zH T n) T.gl env es s).bind fun vs s1=>zH T n x ver vs s1))
   cases hf:T.fn x ver with
   |none=>
    refine zL fun v s' e=>?_
    cases hv:yr (zH T n) T.gl env es s with
    |ok vs s1=>rw[hv]at e;simp only[zR,nP hf]at e;cases e
    |exc _ _ _=>rw[hv]at e;cases e
    |stuck=>rw[hv]at e;cases e
   |some F=>
    have C:=o.fns x ver F hf
    cases xs with
    |nil=>
     cases es with
     |nil=>exact hJ C o.room (o.scp.gl x h2) h3
     |cons _ _=>cases h4
    |cons y ys=>exact ed C o.room (o.scp.gl x h2) h3 h5 (by simp) ((jl _ _ _ _ o h4).1 h5 env s)
 . cases h
theorem b0(f:Bf):f.nm∈wX:=by cases f<;>decide
theorem aW{f:Bf}{m:Bool}{es:Exs}(jl:JL T n es):JE T n (.blt f m es):=by
 intro sc N X e o h env s
 simp only[ck]at h
 split at h
 . rename_i x p y ys pos
   simp only[Bool.and_eq_true,decide_eq_true_eq,uX]at h
   obtain⟨⟨⟨⟨k1,rfl⟩,h2⟩,h3⟩,h4⟩:=h
   exact au k1 o.calm o.room (o.scp.gl _ h2) (o.blt _ (b0 f)) h4 ((jl _ _ _ _ o h3).1 h4 env s)
 . cases h
theorem eU{f:Mf}{m:Bool}{a:Ex}{es:Exs}(ja:JE T n a)(jl:JL T n es):JE T n (.yi f m a es):=by
 intro sc N X e o h env s
 simp only[ck]at h
 split at h
 . rename_i ob x ap y cp
   simp only[Bool.and_eq_true,decide_eq_true_eq]at h
   obtain⟨⟨⟨⟨⟨rfl,h1⟩,h2⟩,h3⟩,h4⟩,h5⟩:=h
   obtain⟨b,rfl,jb⟩:=(jl _ _ _ _ o h2).2.2.2 y rfl h3
   exact hV h4 h3 h5 (ja _ _ _ _ o h1 env s) fun s1=>jb env s1
 . cases h
theorem Yj{a b:Ex}(ja:JE T n a)(jb:JE T n b):JE T n (.ix a b):=by
 intro sc N X e o h env s
 simp only[ck]at h
 split at h
 . simp only[Bool.and_eq_true]at h
   exact b8 (ja _ _ _ _ o h.1.1 env s) (fun s1=>jb _ _ _ _ o h.1.2 env s1) fun ta tb pa pb=>L2.XT Yh pa pb (gw h.2)
 . cases h
theorem Yl{m:Bool}{a:Ex}{lo hi st:OEx}(ja:JE T n a)(j1:JO T n lo)(j2:JO T n hi)(j3:JO T n st):JE T n (.sl m a lo hi st):=by
 intro sc N X e o h env s
 simp only[ck]at h
 split at h
 . simp only[Bool.and_eq_true]at h
   obtain⟨⟨⟨h1,h2⟩,h3⟩,h4⟩:=h
   obtain⟨p3,q3⟩:=j3 _ _ _ _ o h4
   refine Yq (ja _ _ _ _ o h1 env s) (fun s1=>(j1 _ _ _ _ o h2).1 env s1) (fun s1=>(j2 _ _ _ _ o h3).1 env s1) (fun s1=>p3 env s1) ?_
   rcases q3 with⟨e1,e2⟩|⟨e',e1,e2⟩
   . exact .inl ⟨e1,fun s1=>e2 env s1⟩
   . exact .inr ⟨e',e1,fun s1 s2=>e2 env s1 s2⟩
 . cases h
theorem eS{m:Bool}{N':List Str}{fr:List (Option Nat)}{elt:Ex}{t:Tgt}{it:Itb}{ifs:Cns}(je:JE T n elt)(ji:JI T n it)(jc:JCs T n ifs):JE T n (.comp m N' fr elt t it ifs):=by
 intro sc N X e o h env s
 simp only[ck]at h
 split at h
 . rename_i x tg iter fs csc cpos
   simp only[Bool.and_eq_true,decide_eq_true_eq]at h
   obtain⟨⟨⟨⟨⟨⟨h1,h2⟩,h3⟩,h4⟩,h5⟩,h6⟩,h7⟩:=h
   have S:=lF o.scp h1
   have oc:=o.comp S h2
   obtain⟨g,pg,tg'⟩:∃g,(∀C s0 H0 ex,L2.PG (X.comp N' csc C s0 H0 ex) tg g)∧uv X.K X.mg t g:=by
    cases t with
    |nm i=>
     cases tg with
     |Name y p=>
      simp only[ckT,Bool.and_eq_true,Bool.or_eq_true,decide_eq_true_eq]at h3
      exact⟨_,fun C s0 H0 ex=>qU (oc C s0 H0 ex).scp h3.1 h3.2,uk⟩
     |_=>cases h3
    |nms is=>
     cases tg with
     |Tuple es k p=>
      simp only[ckT,Bool.and_eq_true,decide_eq_true_eq]at h3
      refine⟨_,fun C s0 H0 ex=>?_,wG (is:=is)⟩
      obtain⟨a,b,c⟩:=xE (oc C s0 H0 ex).scp h3.1
      exact L2.uA (X:=X.comp N' csc C s0 H0 ex) o.calm a b c
     |_=>cases h3
   have rule:L2.PE X (.ListComp x [⟨tg,iter,fs,0⟩] csc cpos) (L2.vS fr (uI X.K X.mg (zH T n) T.gl it) g (uTs X.K X.mg (zH T n) T.gl ifs) fun acc=>L2.vt acc (uE X.K X.mg (zH T n) T.gl elt)):=
    L2.lz o.calm S (mE fun env s=>ji _ _ _ _ _ o h4 env s) pg (fun C s0 H0 ex=>(jc _ _ _ _ (oc C s0 H0 ex) h5).2.2) (fun C s0 H0 ex=>di (X:=X.comp N' csc C s0 H0 ex) fun env s=>je _ _ _ _ (oc C s0 H0 ex) h6 env s) (yG h7)
   refine zk rule fun σ H Q hq=>vZ (env:=env) (s:=s) (chk:=false) (m:=m) (body:=vv (zH T n) T.gl elt ifs) tg' wN (fun acc ρ0 H0 hn=>rN hn) ?_ fun _ r s1 p s2 hl=>?_
   . simp only[Bool.false_eq_true,false_implies,if_true];exact hq
   . have:=tM hl
     simpa using this
 . cases h
theorem iy{m:Bool}{N':List Str}{fr:List (Option Nat)}{elt:Ex}{t t2:Tgt}{it it2:Itb}{ifs ifs2:Cns}(je:JE T n elt)(ji:JI T n it)(jc:JCs T n ifs)(ji2:JI T n it2)(jc2:JCs T n ifs2):JE T n (.comp2 m N' fr elt t it ifs t2 it2 ifs2):=by
 intro sc N X e o h env s
 simp only[ck]at h
 split at h
 . rename_i x tg iter fs tg2 iter2 fs2 csc cpos
   simp only[Bool.and_eq_true,decide_eq_true_eq]at h
   obtain⟨⟨⟨⟨⟨⟨⟨⟨⟨⟨h1,h2⟩,h3⟩,h4⟩,h5⟩,h6⟩,h7⟩,h8⟩,h9⟩,h10⟩,h11⟩:=h
   have S:=lF o.scp h1
   have oc:=o.comp S h2
   have tgt:∀(t:Tgt) (tg:Expr),ckT csc N' t tg=true→∃g,(∀C s0 H0 ex,L2.PG (X.comp N' csc C s0 H0 ex) tg g)∧uv X.K X.mg t g:=by
    intro t tg h3
    cases t with
    |nm i=>
     cases tg with
     |Name y p=>
      simp only[ckT,Bool.and_eq_true,Bool.or_eq_true,decide_eq_true_eq]at h3
      exact⟨_,fun C s0 H0 ex=>qU (oc C s0 H0 ex).scp h3.1 h3.2,uk⟩
     |_=>cases h3
    |nms is=>
     cases tg with
     |Tuple es k p=>
      simp only[ckT,Bool.and_eq_true,decide_eq_true_eq]at h3
      refine⟨_,fun C s0 H0 ex=>?_,wG (is:=is)⟩
      obtain⟨a,b,c⟩:=xE (oc C s0 H0 ex).scp h3.1
      exact L2.uA (X:=X.comp N' csc C s0 H0 ex) o.calm a b c
     |_=>cases h3
   obtain⟨g,pg,tg'⟩:=tgt t tg h3
   obtain⟨g2,pg2,tg2'⟩:=tgt t2 tg2 h6
   have rule:=L2.oZ (cpos:=cpos) (elt:=x) (ifs:=fs) (ifs2:=fs2) (ts:=uTs X.K X.mg (zH T n) T.gl ifs) (ts2:=uTs X.K X.mg (zH T n) T.gl ifs2) (wi2:=uI X.K X.mg (zH T n) T.gl it2) (te:=uE X.K X.mg (zH T n) T.gl elt) o.calm S (mE (tg:=tg) fun env s=>ji _ _ _ _ _ o h4 env s) pg (fun C s0 H0 ex=>(jc _ _ _ _ (oc C s0 H0 ex) h5).2.2)
    (fun C s0 H0 ex=>mE (X:=X.comp N' csc C s0 H0 ex) (tg:=tg2) fun env s=>ji2 _ _ _ _ _ (oc C s0 H0 ex) h7 env s) pg2 (fun C s0 H0 ex=>(jc2 _ _ _ _ (oc C s0 H0 ex) h8).2.2)
    (fun C s0 H0 ex=>di (X:=X.comp N' csc C s0 H0 ex) fun env s=>je _ _ _ _ (oc C s0 H0 ex) h9 env s) (yG h10) (fun env=>yG h11)
   refine zk rule fun σ H Q hq=>vZ (env:=env) (s:=s) (chk:=true) (m:=m) (body:=tL (zH T n) T.gl elt ifs t2 it2 ifs2) tg' uo (fun acc ρ0 H0 hn=>qZ hn tg2') ?_ fun z=>by cases z
   simp only[true_implies];exact hq
 . cases h
theorem ag:JL T n .nil:=by
 intro sc N X es o h
 simp only[ckL]at h
 split at h
 . exact⟨fun _ env s=>ef,⟨fun e es' pos z=>(nomatch z),⟨fun e es' pos z=>(nomatch z),fun y z=>(nomatch z)⟩⟩⟩
 . cases h
theorem eW{a:Ex}{as:Exs}(ja:JE T n a)(jl:JL T n as):JL T n (.cons a as):=by
 intro sc N X es o h
 simp only[ckL]at h
 split at h
 . rename_i e es
   simp only[Bool.and_eq_true]at h
   obtain⟨h1,h2⟩:=h
   obtain⟨l1,l2,l3,l4⟩:=jl _ _ _ _ o h2
   refine⟨fun hp env s=>?_,fun e' es' pos z env s=>?_,fun e' es' pos z env s=>?_,fun y z hp=>?_⟩
   . rw[yb,Bool.and_eq_true]at hp
     exact hZ hp.1 (ja _ _ _ _ o h1 env s) fun s1=>l1 hp.2 env s1
   . cases as with
     |nil=>
      simp only[ckL]at h2
      split at h2
      . exact L2.pL (ja _ _ _ _ o h1 env s)
      . cases h2
     |cons b as'=>
      cases es with
      |nil=>cases h2
      |cons y ys=>exact hG (ja _ _ _ _ o h1 env s) fun s1=>l2 y ys pos rfl env s1
   . cases as with
     |nil=>
      simp only[ckL]at h2
      split at h2
      . exact L2.pL (ja _ _ _ _ o h1 env s)
      . cases h2
     |cons b as'=>
      cases es with
      |nil=>cases h2
      |cons y ys=>exact bN (ja _ _ _ _ o h1 env s) fun s1=>l3 y ys pos rfl env s1
   . cases z
     cases as with
     |nil=>exact⟨a,rfl,fun env s=>ja _ _ _ _ o h1 env s⟩
     |cons _ _=>cases h2
 . cases h
theorem Ym:JO T n .no:=by
 intro sc N X e o h
 simp only[ckO]at h
 split at h
 . exact⟨fun env s=>Ys,.inl ⟨rfl,fun env s1=>rfl⟩⟩
 . cases h
theorem ah{a:Ex}(ja:JE T n a):JO T n (.yes a):=by
 intro sc N X e o h
 simp only[ckO]at h
 split at h
 . refine⟨fun env s=>a9 (ja _ _ _ _ o h env s),.inr ⟨_,rfl,fun env s1 s2 z=>?_⟩⟩
   have z':((evE (zH T n) T.gl env a s1).bind fun v s1=>match v with|.int i=>.ok (some i) s1|_=>.stuck)=.ok none s2:=z
   cases hv:evE (zH T n) T.gl env a s1 with
   |ok v s3=>rw[hv]at z';cases v<;>cases z'
   |exc _ _ _=>rw[hv]at z';cases z'
   |stuck=>rw[hv]at z';cases z'
 . cases h
theorem aT{c:Cn}(jc:JC T n c):JC T n (.not c):=by
 intro sc N X e o h env s
 simp only[ckC]at h
 split at h
 . exact ZE (jc _ _ _ _ o h env s)
 . cases h
theorem aS{c:Cn}{cs:Cns}(jc:JC T n c)(jcs:JCs T n cs):JC T n (.and c cs):=by
 intro sc N X e o h env s
 simp only[ckC]at h
 split at h
 . simp only[Bool.and_eq_true]at h
   exact(gE (jc _ _ _ _ o h.1 env s) fun s1=>(jcs _ _ _ _ o h.2).1 _ env s1).pt
 . cases h
theorem Yi{c:Cn}{cs:Cns}(jc:JC T n c)(jcs:JCs T n cs):JC T n (.or c cs):=by
 intro sc N X e o h env s
 simp only[ckC]at h
 split at h
 . simp only[Bool.and_eq_true]at h
   exact(bO (jc _ _ _ _ o h.1 env s) fun s1=>(jcs _ _ _ _ o h.2).2.1 _ env s1).pt
 . cases h
theorem eP:JCs T n .nil:=by
 intro sc N X es o h
 simp only[qr]at h
 split at h
 . exact⟨fun pos env s=>ni,fun pos env s=>kn,.nil⟩
 . cases h
theorem iu{c:Cn}{cs:Cns}(jc:JC T n c)(jcs:JCs T n cs):JCs T n (.cons c cs):=by
 intro sc N X es o h
 simp only[qr]at h
 split at h
 . simp only[Bool.and_eq_true]at h
   obtain⟨a,b,d⟩:=jcs _ _ _ _ o h.2
   exact⟨fun pos env s=>gE (jc _ _ _ _ o h.1 env s) fun s1=>a pos env s1,fun pos env s=>bO (jc _ _ _ _ o h.1 env s) fun s1=>b pos env s1,.cons (Xg fun env s=>jc _ _ _ _ o h.1 env s) d⟩
 . cases h
theorem af{a:Ex}(ja:JE T n a):JI T n (.val a):=fun sc N X e tg o h env s=>a8 (ja _ _ _ _ o (by simpa only[ckI] using h) env s)
theorem kg{a:Ex}(ja:JE T n a):JI T n (.range1 a):=by
 intro sc N X e tg o h env s
 simp only[ckI]at h
 split at h
 . simp only[Bool.and_eq_true,decide_eq_true_eq,uX]at h
   obtain⟨⟨⟨rfl,h1⟩,h2⟩,h3⟩:=h
   exact kj h3 (o.scp.gl _ h1) (o.blt _ (by decide)) (ja _ _ _ _ o h2 env s)
 . cases h
theorem kh{a b:Ex}(ja:JE T n a)(jb:JE T n b):JI T n (.range2 a b):=by
 intro sc N X e tg o h env s
 simp only[ckI]at h
 split at h
 . simp only[Bool.and_eq_true,decide_eq_true_eq,uX]at h
   obtain⟨⟨⟨⟨⟨rfl,h1⟩,h2⟩,h3⟩,h4⟩,h5⟩:=h
   exact km h4 h5 (o.scp.gl _ h1) (o.blt _ (by decide)) (ja _ _ _ _ o h2 env s) fun s1=>jb _ _ _ _ o h3 env s1
 . cases h
theorem eV{a:Ex}(ja:JE T n a):JI T n (.enum a):=by
 intro sc N X e tg o h env s
 simp only[ckI]at h
 split at h
 . simp only[Bool.and_eq_true,decide_eq_true_eq,uX]at h
   obtain⟨⟨⟨rfl,h1⟩,h2⟩,h3⟩:=h
   exact eg h3 (o.scp.gl _ h1) (o.blt _ (by decide)) (ja _ _ _ _ o h2 env s)
 . cases h
end
section
variable (T:Tbl)(n:Nat)
mutual
theorem jE:∀a:Ex,JE T n a
 |.lit _=>aw
 |.var _=>a0
 |.gl _=>Yp
 |.ty _ _=>Yr
 |.bin _ _ a b=>aV (jE a) (jE b)
 |.neg a=>aa (jE a)
 |.not a=>ab (jE a)
 |.cmp _ a b=>aX (jE a) (jE b)
 |.chain _ _ a b c=>iw (jE a) (jE b) (jE c)
 |.andE a es=>aU (jE a) (jL es)
 |.orE a es=>Yk (jE a) (jL es)
 |.ife c a b=>aY (jC c) (jE a) (jE b)
 |.tup es=>ae (jL es)
 |.lst _ es=>aZ (jL es)
 |.dct0=>ee
 |.call _ _ es=>eQ (jL es)
 |.blt _ _ es=>aW (jL es)
 |.maxD _ _=>fun sc N X e o h=>by cases h
 |.yi _ _ a es=>eU (jE a) (jL es)
 |.ix a b=>Yj (jE a) (jE b)
 |.sl _ a lo hi st=>Yl (jE a) (jO lo) (jO hi) (jO st)
 |.comp _ _ _ elt _ it ifs=>eS (jE elt) (jI it) (jCs ifs)
 |.comp2 _ _ _ elt _ it ifs _ it2 ifs2=>iy (jE elt) (jI it) (jCs ifs) (jI it2) (jCs ifs2)
 |.listRange _ _ _ _=>fun sc N X e o h=>by cases h
theorem jL:∀a:Exs,JL T n a
 |.nil=>ag
 |.cons a as=>eW (jE a) (jL as)
theorem jO:∀a:OEx,JO T n a
 |.no=>Ym
 |.yes a=>ah (jE a)
theorem jC:∀a:Cn,JC T n a
 |.val (.cmp _ a b)=>aq (jE a) (jE b)
 |.val (.chain _ _ a b c)=>i9 (jE a) (jE b) (jE c)
 |.val (.lit v)=>z8 (jE (.lit v)) rfl
 |.val (.var v)=>z8 (jE (.var v)) rfl
 |.val (.gl v)=>z8 (jE (.gl v)) rfl
 |.val (.ty v w)=>z8 (jE (.ty v w)) rfl
 |.val (.bin m o a b)=>z8 (jE (.bin m o a b)) rfl
 |.val (.neg a)=>z8 (jE (.neg a)) rfl
 |.val (.not a)=>z8 (jE (.not a)) rfl
 |.val (.andE a b)=>z8 (jE (.andE a b)) rfl
 |.val (.orE a b)=>z8 (jE (.orE a b)) rfl
 |.val (.ife a b c)=>z8 (jE (.ife a b c)) rfl
 |.val (.tup a)=>z8 (jE (.tup a)) rfl
 |.val (.lst m a)=>z8 (jE (.lst m a)) rfl
 |.val .dct0=>z8 (jE .dct0) rfl
 |.val (.call a b c)=>z8 (jE (.call a b c)) rfl
 |.val (.blt a b c)=>z8 (jE (.blt a b c)) rfl
 |.val (.maxD a b)=>z8 (jE (.maxD a b)) rfl
 |.val (.yi a b c d)=>z8 (jE (.yi a b c d)) rfl
 |.val (.ix a b)=>z8 (jE (.ix a b)) rfl
 |.val (.sl a b c d e)=>z8 (jE (.sl a b c d e)) rfl
 |.val (.comp a b c d e f g)=>z8 (jE (.comp a b c d e f g)) rfl
 |.val (.comp2 a b c d e f g h i j)=>z8 (jE (.comp2 a b c d e f g h i j)) rfl
 |.val (.listRange a b c d)=>z8 (jE (.listRange a b c d)) rfl
 |.not c=>aT (jC c)
 |.and c cs=>aS (jC c) (jCs cs)
 |.or c cs=>Yi (jC c) (jCs cs)
theorem jCs:∀a:Cns,JCs T n a
 |.nil=>eP
 |.cons c cs=>iu (jC c) (jCs cs)
theorem jI:∀a:Itb,JI T n a
 |.val a=>af (jE a)
 |.range1 a=>kg (jE a)
 |.range2 a b=>kh (jE a) (jE b)
 |.enum a=>eV (jE a)
 |.zip _ _=>fun sc N X e tg o h=>by cases h
end
end
end M
end
section
namespace M
open PySem
section
variable (K:KF)(mg:Str→Option Value)
def sG(ρ:Own)(H:L2.Hp)(o:Out Fl)(D:L2.Ends):Prop:=
 match o with
 |.ok (.nx e) s'=>∀ρ' H' σ',Ext ρ H ρ' H'→HR K mg ρ' s' H'→ER K mg ρ' H' e σ'→D.nx σ' H'
 |.ok (.bk e) s'=>∀ρ' H' σ',Ext ρ H ρ' H'→HR K mg ρ' s' H'→ER K mg ρ' H' e σ'→D.bk σ' H'
 |.ok (.ct e) s'=>∀ρ' H' σ',Ext ρ H ρ' H'→HR K mg ρ' s' H'→ER K mg ρ' H' e σ'→D.ct σ' H'
 |.ok (.rt v) s'=>∀ρ' H' x,Ext ρ H ρ' H'→HR K mg ρ' s' H'→RD K mg ρ' H' v x→D.rt x H'
 |_=>False
noncomputable def tSt(env:Env)(s:Sto)(o:Out Fl):L2.TS:=fun D σ H=>∃ρ,HR K mg ρ s H∧ER K mg ρ H env σ∧sG K mg ρ H o D
end
section
variable {K:KF}{mg:Str→Option Value}{ρ ρ':Own}{H H':L2.Hp}
theorem sG.mono{s1:Sto}{o:Out Fl}{D:L2.Ends}(w:sG K mg ρ H o D)(x:Ext ρ H ρ' H')(h:HR K mg ρ' s1 H'):sG K mg ρ' H' o D:=by
 cases o with
 |ok fl s'=>
  cases fl with
  |nx e=>exact fun ρ2 H2 σ2 x2 h2 r2=>w ρ2 H2 σ2 (x.trans h x2) h2 r2
  |bk e=>exact fun ρ2 H2 σ2 x2 h2 r2=>w ρ2 H2 σ2 (x.trans h x2) h2 r2
  |ct e=>exact fun ρ2 H2 σ2 x2 h2 r2=>w ρ2 H2 σ2 (x.trans h x2) h2 r2
  |rt v=>exact fun ρ2 H2 y x2 h2 r2=>w ρ2 H2 y (x.trans h x2) h2 r2
 |exc _ _ _=>exact w
 |stuck=>exact w
end
noncomputable def t9:Expr→Bool
 |.ListComp ..|.SetComp ..|.DictComp ..=>false
 |_=>true
theorem nI{e:Expr}{t:Option Expr}{l:Nat}{env:PySem.Env}(h:t9 e=true):swapsWith e t l env=pure false:=by cases e<;>first|rfl|cases h
theorem vk{e:Expr}{ts:List Expr}{k:Nat}{p:Pos}{l:Nat}{env:PySem.Env}:swapsWithSole [.Tuple ts k p] e l env=pure false:=by cases e<;>rfl
theorem jy{e o i:Expr}{p:Pos}{l:Nat}{env:PySem.Env}:swapsWithSole [.Subscript o i p] e l env=pure false:=by cases e<;>rfl
noncomputable def notTuple:Expr→Bool
 |.Tuple ..=>false
 |_=>true
theorem ma{e:Expr}{ts:List Expr}{k:Nat}{p:Pos}{env:PySem.Env}(h:notTuple e=true):swappedStores [.Tuple ts k p] e env=pure none:=by
 cases e<;>first|(cases h;done)|rfl
theorem nG{o i e:Expr}{p:Pos}{env:PySem.Env}:swappedStores [.Subscript o i p] e env=pure none:=by cases e<;>rfl
noncomputable def bW(sc:Scope)(ts vs:List Expr):Bool:=
 match ts with
 |[.Name x px,.Name y py]=>decide (sc.names.lookup x=some .local)&&decide (sc.names.lookup y=some .local)&&(px.line == py.line)&&decide (x≠y)&&!(vs.all (foldedForSure 8))&&!(vs.all (constantsAlone 8))
 |[.Name x px,.Name y py,.Name z pz]=>decide (sc.names.lookup x=some .local)&&decide (sc.names.lookup y=some .local)&&decide (sc.names.lookup z=some .local)&&(px.line == py.line)&&(px.line == pz.line)&&decide (x≠y)&&decide (x≠z)&&decide (y≠z)&&!(vs.all (foldedForSure 8))&&!(vs.all (constantsAlone 8))
 |_=>false
noncomputable def bf(sc:Scope)(ts:List Expr):Bool:=ts.any (fun|.Name x _=>decide (sc.names.lookup x≠some .local)|_=>false)||decide (3<ts.length)
theorem sv{vs:List Expr}(h:yb vs=true):(vs.any fun|.Starred ..=>true|_=>false)=false:=by
 induction vs with
 |nil=>rfl
 |cons v vs ih=>
  rw[yb,Bool.and_eq_true]at h
  rw[List.any_cons,ih h.2]
  cases v<;>first|rfl|(have z:=h.1;cases z)
theorem nH{x y:Str}{px py pt pt2:Pos}{kt k2:Nat}{a b:Expr}{env:PySem.Env}(hb:env.blockKind=.function)(hx:env.kindOf x=some .local)(hy:env.kindOf y=some .local)(hl:(px.line == py.line)=true)(hne:x≠y)(hp:yb [a,b]=true)
 (hf:[a,b].all (foldedForSure 8)=false) (hc:[a,b].all (constantsAlone 8)=false):swappedStores [.Tuple [.Name x px,.Name y py] kt pt] (.Tuple [a,b] k2 pt2) env=pure (some [x,y]):=by
 have hs:=sv hp
 have hl':(py.line == px.line)=true:=by rw[beq_iff_eq]at hl ⊢;exact hl.symm
 unfold swappedStores
 have e1:([x,y].eraseDups.length != [x,y].length)=false:=by
  have:(y == x)=false:=by simpa using Ne.symm hne
  simp[List.eraseDups_cons,this]
 simp only[List.length_cons,List.length_nil,hb,hf,hs,hc,hx,hy,hl',List.head?_cons,Option.map_some,Option.getD_some,List.filterMap_cons,List.filterMap_nil,beq_self_eq_true,Bool.and_self,if_true]
 have hpos:(Expr.Name x px).pos.line=px.line:=rfl
 refine(if_neg (by decide)).trans ((if_neg (fun z=>Bool.false_ne_true (hs.symm.trans z))).trans ?_)
 simp only[hpos,beq_self_eq_true,hl',Bool.and_self,if_true,e1,List.length_cons,List.length_nil,bne_self_eq_false,Bool.or_self,Bool.false_eq_true,if_false]
 exact if_neg (fun z=>Bool.false_ne_true (e1.symm.trans (by rw[Bool.false_or]at z;exact z)))
theorem rg{x y z:Str}{px py pz pt pt2:Pos}{kt k2:Nat}{a b c:Expr}{env:PySem.Env}(hb:env.blockKind=.function)(hx:env.kindOf x=some .local)(hy:env.kindOf y=some .local)(hz:env.kindOf z=some .local)(hl:(px.line == py.line)=true)(hl2:(px.line == pz.line)=true)
 (hne:x≠y) (hne2:x≠z) (hne3:y≠z) (hp:yb [a,b,c]=true) (hf:[a,b,c].all (foldedForSure 8)=false) (hc:[a,b,c].all (constantsAlone 8)=false):swappedStores [.Tuple [.Name x px,.Name y py,.Name z pz] kt pt] (.Tuple [a,b,c] k2 pt2) env=pure (some [x,y,z]):=by
 have hs:=sv hp
 have hl':(py.line == px.line)=true:=by rw[beq_iff_eq]at hl ⊢;exact hl.symm
 have hl2':(pz.line == px.line)=true:=by rw[beq_iff_eq]at hl2 ⊢;exact hl2.symm
 unfold swappedStores
 have e1:([x,y,z].eraseDups.length != [x,y,z].length)=false:=by
  have h1:(y == x)=false:=by simpa using Ne.symm hne
  have h2:(z == x)=false:=by simpa using Ne.symm hne2
  have h3:(z == y)=false:=by simpa using Ne.symm hne3
  simp[List.eraseDups_cons,h1,h2,h3]
 simp only[List.length_cons,List.length_nil,hb,hf,hs,hc,hx,hy,hz,hl',hl2',List.head?_cons,Option.map_some,Option.getD_some,List.filterMap_cons,List.filterMap_nil,beq_self_eq_true,Bool.and_self,if_true]
 have hpos:(Expr.Name x px).pos.line=px.line:=rfl
 refine(if_neg (by decide)).trans ((if_neg (fun z=>Bool.false_ne_true (hs.symm.trans z))).trans ?_)
 simp only[hpos,beq_self_eq_true,hl',hl2',Bool.and_self,if_true,e1,List.length_cons,List.length_nil,bne_self_eq_false,Bool.or_self,Bool.false_eq_true,if_false]
 exact if_neg (fun z=>Bool.false_ne_true (e1.symm.trans (by rw[Bool.false_or]at z;exact z)))
theorem uR{α β:Type}{f:α→Option β}:∀{l:List α},(∃a∈l,f a=none)→(l.filterMap f).length<l.length
 |[],⟨a,h,_⟩=>by cases h
 |b::l,⟨a,h,e⟩=>by
  rw[List.filterMap_cons]
  have hle:=List.length_filterMap_le f l
  rcases List.mem_cons.mp h with z|z
  . subst z;rw[e];simp only[List.length_cons];omega
  . have:=uR ⟨a,z,e⟩
    cases f b with
    |none=>simp only[List.length_cons];omega
    |some _=>simp only[List.length_cons];omega
theorem j5{ts vs:List Expr}{kt k2:Nat}{pt pt2:Pos}{env:PySem.Env}(h:(∃x p,Expr.Name x p∈ts∧env.kindOf x≠some .local)∨3<ts.length):swappedStores [.Tuple ts kt pt] (.Tuple vs k2 pt2) env=pure none:=by
 unfold swappedStores
 simp only[]
 split
 . rfl
 . rename_i h1
   split
   . rfl
   . rw[if_pos]
     rcases h with⟨x,p,hm,hk⟩|h
     . rw[Bool.or_eq_true]
       left
       rw[bne_iff_ne]
       refine Nat.ne_of_lt (uR ⟨_,hm,?_⟩)
       have:(env.kindOf x == some .local)=false:=by simpa using hk
       simp only[this,Bool.false_and,Bool.false_eq_true,if_false]
     . exfalso
       apply h1
       have:(ts.length == 2||ts.length == 3)=false:=by
        rw[Bool.or_eq_false_iff]
        constructor<;>(rw[beq_eq_false_iff_ne];omega)
       rw[this];rfl
theorem mZ{o i:Expr}{p:Pos}{env:PySem.Env}(h:plain i=true)(v:Value):assign (.Subscript o i p) env v=(do
 let ov ←holding [v] (eval o env)
 let iv ←holding [v,ov] (eval i env)
 standAt p
 holding [v,ov,iv] (setItem ov iv v)
 release [v,ov,iv] []):=by
 cases i<;>first|rfl|cases h
section
variable {X:L2.Cx}{env:Env}{s:Sto}
theorem Xe{st:Stmt}{t:L2.TS}(h:∀D σ H,¬t D σ H):L2.PS X st t:=fun pins s σ H D I q=>(h D σ H q).elim
theorem Z7{o:Out Fl}(h:∀v s',o≠.ok v s'){D:L2.Ends}{σ:L2.St}{H:L2.Hp}:¬tSt X.K X.mg env s o D σ H:=by
 rintro ⟨ρ,_,_,w⟩
 cases o with
 |ok v s'=>exact h v s' rfl
 |exc _ _ _=>exact w
 |stuck=>exact w
theorem zN{st:Stmt}{o:Out Fl}(h:∀v s',o≠.ok v s'):L2.PS X st (tSt X.K X.mg env s o):=Xe fun _ _ _=>Z7 h
theorem eh{e:Expr}{o:Out Val}{pos:Pos}(hn:t9 e=true)(h:L2.PE X e (tV X.K X.mg env s o)):L2.PS X (.Expr e pos) (tSt X.K X.mg env s (o.bind fun _ s1=>.ok (.nx env) s1)):=by
 cases o with
 |ok v s1=>exact wD (L2.d4 h (nI hn)) fun D σ H ⟨ρ,hr,er,w⟩=>⟨ρ,hr,er,fun ρ1 x H1 x1 hr1 r1=>w ρ1 H1 σ x1 hr1 (er.mono x1)⟩
 |exc _ _ _=>exact zN nofun
 |stuck=>exact zN nofun
theorem ZC{e:Expr}{o:Out Val}{pos:Pos}(h:L2.PE X e (tV X.K X.mg env s o)):L2.PS X (.Return (some e) pos) (tSt X.K X.mg env s (o.bind fun v s1=>.ok (.rt v) s1)):=by
 cases o with
 |ok v s1=>exact wD (L2.Zy h) fun D σ H ⟨ρ,hr,er,w⟩=>⟨ρ,hr,er,fun ρ1 x H1 x1 hr1 r1=>w ρ1 H1 x x1 hr1 r1⟩
 |exc _ _ _=>exact zN nofun
 |stuck=>exact zN nofun
theorem nh{i:Nat}{o:Out Val}{st:Stmt}{te:L2.TE}(rule:L2.PS X st (L2.rh te (L2.vM i)))(h:∀σ H Q,tV X.K X.mg env s o σ H Q→te σ H Q):L2.PS X st (tSt X.K X.mg env s (o.bind fun v s1=>.ok (.nx (env.set i (some v))) s1)):=by
 cases o with
 |ok v s1=>exact wD rule fun D σ H ⟨ρ,hr,er,w⟩=>h _ _ _ ⟨ρ,hr,er,fun ρ1 x H1 x1 hr1 r1=>w ρ1 H1 _ x1 hr1 ((er.mono x1).set i r1)⟩
 |exc _ _ _=>exact zN nofun
 |stuck=>exact zN nofun
theorem lj{t:Tgt}{g:L2.TG}{o:Out Val}{st:Stmt}{te:L2.TE}(TG:uv X.K X.mg t g)(rule:L2.PS X st (L2.rh te g))(h:∀σ H Q,tV X.K X.mg env s o σ H Q→te σ H Q) :
 L2.PS X st (tSt X.K X.mg env s (o.bind fun v s1=>match yS t v env with|some env'=>.ok (.nx env') s1|Option.none=>.stuck)):=by
 cases o with
 |ok v s1=>
  show L2.PS X st (tSt X.K X.mg env s (match yS t v env with|some env'=>.ok (.nx env') s1|Option.none=>.stuck))
  cases hb:yS t v env with
  |none=>exact zN nofun
  |some env'=>exact wD rule fun D σ H ⟨ρ,hr,er,w⟩=>h _ _ _ ⟨ρ,hr,er,fun ρ1 x H1 x1 hr1 r1=>TG ρ1 s1 H1 v x env env' σ _ hr1 r1 (er.mono x1) hb fun σ' er'=>w ρ1 H1 σ' x1 hr1 er'⟩
 |exc _ _ _=>exact zN nofun
 |stuck=>exact zN nofun
theorem aO(op:Bop)(m:Bool):(∃r,L2.PIp X op.op r∧∀(i j:Int) (H:L2.Hp) (Q:L2.VK) (v:Val) (s s':Sto),binOp m op (.int i) (.int j) s=.ok v s'→(∃k:Int,v=.int k∧s'=s∧(Q (.int k) H→r (.int i) (.int j) H Q)))∨(op=.pow∨op=.shl∨op=.shr∨op=.band):=by
 cases op with
 |add=>exact .inl ⟨_,L2.eK,fun i j H Q v s s' h=>by cases h;exact⟨_,rfl,rfl,fun q=>⟨i,j,rfl,rfl,q⟩⟩⟩
 |sub=>exact .inl ⟨_,L2.eN,fun i j H Q v s s' h=>by cases h;exact⟨_,rfl,rfl,fun q=>⟨i,j,rfl,rfl,q⟩⟩⟩
 |mul=>exact .inl ⟨_,L2.eM,fun i j H Q v s s' h=>by
  simp only[binOp]at h
  split at h
  . rename_i hz;cases h;exact⟨_,rfl,rfl,fun q=>⟨i,j,rfl,rfl,hz,q⟩⟩
  . cases h⟩
 |fdiv=>exact .inl ⟨_,L2.iq,fun i j H Q v s s' h=>by
  simp only[binOp]at h
  split at h
  . rename_i hz;cases h;exact⟨_,rfl,rfl,fun q=>⟨i,j,rfl,rfl,hz,q⟩⟩
  . cases h⟩
 |mod=>exact .inl ⟨_,L2.eL,fun i j H Q v s s' h=>by
  simp only[binOp]at h
  split at h
  . rename_i hz;cases h;exact⟨_,rfl,rfl,fun q=>⟨i,j,rfl,rfl,hz,q⟩⟩
  . cases h⟩
 |pow=>exact .inr (.inl rfl)
 |shl=>exact .inr (.inr (.inl rfl))
 |shr=>exact .inr (.inr (.inr (.inl rfl)))
 |band=>exact .inr (.inr (.inr (.inr rfl)))
theorem WJ{i:Nat}{x:Str}{e:Expr}{op:Bop}{f:Sto→Out Val}{pos pos':Pos}(hop:¬(op=.pow∨op=.shl∨op=.shr∨op=.band))(hN:X.N.Nodup)(hi:X.N[i]?=some x)(hx:L2.Loc X.env.scope x)(hf:X.fn x=true∨X.env.scope.names.lookup x=some .local)(h:∀s,L2.PE X e (tV X.K X.mg env s (f s))) :
 L2.PS X (.AugAssign (.Name x pos') op.op e pos) (tSt X.K X.mg env s (match env[i]? with
 |some (some (.int x))=>(f s).bind fun v s1=>match v with
  |.int y=>(binOp false op (.int x) (.int y) s1).bind fun z s2=>.ok (.nx (env.set i (some z))) s2
  |_=>.stuck
 |_=>.stuck)):=by
 rcases aO (X:=X) op false with⟨r,hr0,hq⟩|z
 . cases he:env[i]? with
   |none=>exact zN nofun
   |some ov=>
    cases ov with
    |none=>exact zN nofun
    |some v0=>
     cases v0 with
     |int a=>
      have h':=h s
      simp only[]
      cases hv:f s with
      |ok v s1=>
       rw[hv]at h'
       cases v with
       |int b=>
        simp only[zR]
        cases hb:binOp false op (.int a) (.int b) s1 with
        |ok z s2=>
         obtain⟨k,rfl,rfl,q⟩:=hq a b (fun _=>none) (fun _ _=>True) z s1 s2 hb
         refine wD (L2.Zv hN hi hx h' hr0 hf) fun D σ H ⟨ρ,hr,er,w⟩=>?_
         obtain⟨xv,e1,e2⟩:=er.at_ i _ he
         cases e2
         refine⟨_,e1,ρ,hr,er,fun ρ1 y H1 x1 hr1 r1=>?_⟩
         cases r1
         obtain⟨k',e3,_,q'⟩:=hq a b H1 (fun z H2=>D.nx (σ.set i (some z)) H2) _ _ _ hb
         cases e3
         exact q' (w ρ1 H1 _ x1 hr1 ((er.mono x1).set i (.int _)))
        |exc _ _ _=>exact zN nofun
        |stuck=>exact zN nofun
       |_=>exact zN nofun
      |exc _ _ _=>exact zN nofun
      |stuck=>exact zN nofun
     |_=>exact zN nofun
 . exact absurd z hop
theorem gA{a i e:Expr}{o:Out Val}{f2 f3:Sto→Out Val}{p pos:Pos}(hi0:plain i=true)(h1:L2.PE X e (tV X.K X.mg env s o))(h2:∀s1,L2.PE X a (tV X.K X.mg env s1 (f2 s1)))(h3:∀s1,L2.PE X i (tV X.K X.mg env s1 (f3 s1))) :
 L2.PS X (.Assign [.Subscript a i p] e pos) (tSt X.K X.mg env s (o.bind fun v s1=>(f2 s1).bind fun x s2=>(f3 s2).bind fun y s3=>match x,y with
  |.ref r,.int k=>(match s3[r]? with
   |some (.lst vs)=>(match L2.ixN vs.length k with|some j=>.ok (.nx env) (upd s3 r (vs.set j v))|Option.none=>.stuck)
   |Option.none=>.stuck)
  |_,_=>.stuck)):=by
 cases o with
 |ok v s1=>
  have h2':=h2 s1
  simp only[zR]
  cases hb:f2 s1 with
  |ok x s2=>
   rw[hb]at h2'
   have h3':=h3 s2
   simp only[zR]
   cases hc:f3 s2 with
   |ok y s3=>
    rw[hc]at h3'
    simp only[zR]
    have rule:L2.PS X (.Assign [.Subscript a i p] e pos) (L2.rh _ (L2.YY _ _ L2.bV)):=L2.mH h1 (L2.Zu h2' h3' L2.set_list (mZ hi0)) jy nG
    cases x with
    |ref r=>
     cases y with
     |int k=>
      simp only[]
      cases hs:s3[r]? with
      |none=>exact zN nofun
      |some cl=>
       cases cl with
       |lst vs=>
        simp only[]
        cases hj:L2.ixN vs.length k with
        |none=>exact zN nofun
        |some j=>
         refine wD rule fun D σ H ⟨ρ,hr,er,w⟩=>⟨ρ,hr,er,fun ρ1 xv H1 x1 hr1 r1=>⟨ρ1,hr1,er.mono x1,fun ρ2 xo H2 x2 hr2 r2=>⟨ρ2,hr2,(er.mono x1).mono x2,fun ρ3 xi H3 x3 hr3 r3=>?_⟩⟩⟩
         cases r3
         have r2':=r2.mono x3
         cases r2' with
         |ref e0=>
          obtain⟨b',xs,e1,e2,q⟩:=hr3.obj r _ hs
          rw[e0]at e1;cases e1
          have xx:=(x1.trans hr1 x2).trans hr2 x3
          refine⟨_,xs,k,j,rfl,rfl,e2,by rw[←q.length];exact hj,?_⟩
          exact w ρ3 _ σ (xx.trans hr3 (Ext.write hr3 e0 _)) (hr3.write e0 (RDs.set ((r1.mono x2).mono x3) j q)) ((er.mono xx).mono (Ext.write hr3 e0 _))
     |_=>exact zN nofun
    |_=>exact zN nofun
   |exc _ _ _=>exact zN nofun
   |stuck=>exact zN nofun
  |exc _ _ _=>exact zN nofun
  |stuck=>exact zN nofun
 |exc _ _ _=>exact zN nofun
 |stuck=>exact zN nofun
end
end M
end
section
namespace M
open PySem
section
variable {X:L2.Cx}{env:Env}{s:Sto}
theorem ek{i j:Nat}{o:Out (List Val)}{st:Stmt}{ta:L2.TA}(rule:L2.PS X st (L2.X2 i j ta))(h:∀σ H Q,tVs X.K X.mg env s o σ H Q→ta σ H Q) :
 L2.PS X st (tSt X.K X.mg env s (o.bind fun vs s1=>if vs.length=[i,j].length then .ok (.nx (([i,j].zip vs).foldl (fun e p=>e.set p.1 (some p.2)) env)) s1 else .stuck)):=by
 cases o with
 |ok vs s1=>
  show L2.PS X st (tSt X.K X.mg env s (if vs.length=[i,j].length then .ok (.nx (([i,j].zip vs).foldl (fun e p=>e.set p.1 (some p.2)) env)) s1 else .stuck))
  match vs with
  |[v,w]=>
   refine wD rule fun D σ H ⟨ρ,hr,er,wt⟩=>h _ _ _ ⟨ρ,hr,er,fun ρ1 xs H1 x1 hr1 r1=>?_⟩
   obtain⟨x,y,rfl,rx,ry⟩:=jj r1
   exact⟨x,y,rfl,wt ρ1 H1 _ x1 hr1 (((er.mono x1).set i rx).set j ry)⟩
  |[]=>exact zN nofun
  |[_]=>exact zN nofun
  |_::_::_::r=>exact zN (fun _ _ e=>by simp at e)
 |exc _ _ _=>exact zN nofun
 |stuck=>exact zN nofun
theorem WY{K:KF}{mg:Str→Option Value}{ρ:Own}{H:L2.Hp}{v w z:Val}{xs:List L2.V}(r:RDs K mg ρ H [v,w,z] xs):∃x y t,xs=[x,y,t]∧RD K mg ρ H v x∧RD K mg ρ H w y∧RD K mg ρ H z t:=by
 cases r with
 |cons r1 r2=>
  obtain⟨y,t,rfl,r3,r4⟩:=jj r2
  exact⟨_,_,_,rfl,r1,r3,r4⟩
theorem el{i j k:Nat}{o:Out (List Val)}{st:Stmt}{ta:L2.TA}(rule:L2.PS X st (L2.bY i j k ta))(h:∀σ H Q,tVs X.K X.mg env s o σ H Q→ta σ H Q) :
 L2.PS X st (tSt X.K X.mg env s (o.bind fun vs s1=>if vs.length=[i,j,k].length then .ok (.nx (([i,j,k].zip vs).foldl (fun e p=>e.set p.1 (some p.2)) env)) s1 else .stuck)):=by
 cases o with
 |ok vs s1=>
  show L2.PS X st (tSt X.K X.mg env s (if vs.length=[i,j,k].length then .ok (.nx (([i,j,k].zip vs).foldl (fun e p=>e.set p.1 (some p.2)) env)) s1 else .stuck))
  match vs with
  |[v,w,z]=>
   refine wD rule fun D σ H ⟨ρ,hr,er,wt⟩=>h _ _ _ ⟨ρ,hr,er,fun ρ1 xs H1 x1 hr1 r1=>?_⟩
   obtain⟨x,y,t,rfl,rx,ry,rt⟩:=WY r1
   exact⟨x,y,t,rfl,wt ρ1 H1 _ x1 hr1 ((((er.mono x1).set i rx).set j ry).set k rt)⟩
  |[]=>exact zN nofun
  |[_]=>exact zN nofun
  |[_,_]=>exact zN nofun
  |_::_::_::_::r=>exact zN (fun _ _ e=>by simp at e)
 |exc _ _ _=>exact zN nofun
 |stuck=>exact zN nofun
noncomputable def uSs(K:KF)(mg:Str→Option Value)(Φ:Calls)(G:Str→Option Val)(b:Sms):L2.TS:=fun D σ H=>∃env s,tSt K mg env s (zZ Φ G env b s) D σ H
theorem Yt{c:Expr}{a b:List Stmt}{o:Out Bool}{f2 f3:Sto→Out Fl}{ta tb:L2.TS}{pos:Pos}(hc:L2.PT X c (tT X.K X.mg env s o))(ha:L2.PSs X a ta)(hb:L2.PSs X b tb)(ia:∀s1 D σ H,tSt X.K X.mg env s1 (f2 s1) D σ H→ta D σ H)(ib:∀s1 D σ H,tSt X.K X.mg env s1 (f3 s1) D σ H→tb D σ H) :
 L2.PS X (.If c a b pos) (tSt X.K X.mg env s (o.bind fun t s1=>if t then f2 s1 else f3 s1)):=by
 cases o with
 |ok v s1=>
  refine wD (L2.Xd hc ha hb) fun D σ H ⟨ρ,hr,er,wt⟩=>⟨ρ,hr,er,fun ρ1 x H1 x1 hr1 r1=>?_⟩
  have wt':=wt.mono x1 hr1
  cases r1
  cases v with
  |true=>exact L2.rV (ia s1 D σ H1 ⟨ρ1,hr1,er.mono x1,wt'⟩)
  |false=>exact L2.rT (ib s1 D σ H1 ⟨ρ1,hr1,er.mono x1,wt'⟩)
 |exc _ _ _=>exact zN nofun
 |stuck=>exact zN nofun
theorem ie{K:KF}{mg:Str→Option Value}{r:Src}{J:L2.It}{t:Tgt}{g:L2.TG}{body:Env→Sto→Out Fl}{tb:L2.TS}{D:L2.Ends}{ρ:Own}{H:L2.Hp}{σ:L2.St}(W:Walk K mg ρ H r J)(TG:uv K mg t g)(hb:∀env s D σ H,tSt K mg env s (body env s) D σ H→tb D σ H)
 (hr:HR K mg ρ s H) (er:ER K mg ρ H env σ) (w:sG K mg ρ H (vF r t body r.xs env s) D):L2.qV J g tb D σ H:=by
 refine oF (n:=r.xs.length) (fun i σ2 H2=>∃ρ2 s2 env2,HR K mg ρ2 s2 H2∧ER K mg ρ2 H2 env2 σ2∧Ext ρ H ρ2 H2∧vF r t body (r.xs.drop i) env2 s2=vF r t body r.xs env s) ⟨ρ,s,env,hr,er,Ext.refl,by rw[List.drop_zero]⟩ ?_ ?_
 . rintro σ2 H2 ⟨ρ2,s2,env2,hr2,er2,x2,h2⟩
   rw[List.drop_length,vF]at h2
   split at h2
   . rename_i ho
     rw[←h2]at w
     exact⟨W.stop ρ2 H2 s2 _ x2.mv hr2 ho rfl,w ρ2 H2 σ2 x2 hr2 er2⟩
   . rw[←h2]at w;exact w.elim
 . rintro i σ2 H2 hi ⟨ρ2,s2,env2,hr2,er2,x2,h2⟩
   rw[List.drop_eq_getElem_cons hi,vF]at h2
   split at h2
   . rename_i ho
     obtain⟨hgo,hy⟩:=W.go ρ2 H2 s2 i (r.xs[i]) x2.mv hr2 ho (List.getElem?_eq_getElem hi)
     refine⟨hgo,fun x H3 y=>?_⟩
     obtain⟨hH,rx⟩:=hy x H3 y
     split at h2
     . rw[←h2]at w;exact w.elim
     . rename_i env' he
       have C3:HR K mg ρ2 s2 H3∧Ext ρ2 H2 ρ2 H3:=by
        rcases hH with e|⟨q,o,hq,e⟩
        . subst e;exact⟨hr2,Ext.refl⟩
        . subst e;exact⟨hr2.more hq o,Ext.new hr2 hq o⟩
       have x3:=x2.trans hr2 C3.2
       refine TG ρ2 s2 H3 _ x env2 env' σ2 _ C3.1 rx (er2.mono C3.2) he fun σ4 er4=>hb env' s2 _ σ4 H3 ⟨ρ2,C3.1,er4,?_⟩
       cases hc:body env' s2 with
       |ok fl s5=>
        rw[hc]at h2
        simp only[zR]at h2
        cases fl with
        |nx e=>exact fun ρ5 H5 σ5 x5 hr5 er5=>⟨ρ5,s5,e,hr5,er5,x3.trans C3.1 x5,h2⟩
        |ct e=>exact fun ρ5 H5 σ5 x5 hr5 er5=>⟨ρ5,s5,e,hr5,er5,x3.trans C3.1 x5,h2⟩
        |bk e=>
         simp only[]at h2
         rw[←h2]at w
         exact fun ρ5 H5 σ5 x5 hr5 er5=>w ρ5 H5 σ5 (x3.trans C3.1 x5) hr5 er5
        |rt v=>
         simp only[]at h2
         rw[←h2]at w
         exact fun ρ5 H5 y5 x5 hr5 r5=>w ρ5 H5 y5 (x3.trans C3.1 x5) hr5 r5
       |exc _ _ _=>rw[hc]at h2;simp only[sI]at h2;rw[←h2]at w;exact w.elim
       |stuck=>rw[hc]at h2;simp only[wx]at h2;rw[←h2]at w;exact w.elim
   . rw[←h2]at w;exact w.elim
theorem ZA{Φ:Calls}{G:Str→Option Val}{it:Itb}{t:Tgt}{b:Sms}{tg iter:Expr}{body:List Stmt}{g:L2.TG}{pos:Pos}(hx:X.xe=fun _ _=>False)(hc:X.calm=true)(hp:plain iter=true)(hi:∀env s,L2.PI X tg iter (tI (K:=X.K) (mg:=X.mg) env s (yT Φ G env it s)))(hg:L2.PG X tg g)(TG:uv X.K X.mg t g)
 (hb:L2.PSs X body (uSs X.K X.mg Φ G b)):L2.PS X (.For tg iter body [] pos) (tSt X.K X.mg env s ((yT Φ G env it s).bind fun r s1=>vF r t (fun e s'=>zZ Φ G e b s') r.xs env s1)):=by
 have hpass:PassesOwn (model X.prog X.w) X.A X.env X.xe:=by rw[hx];exact PassesOwn.never
 refine wD (L2.Zw hpass hc (mE hi) hg hb (yG hp)) fun D σ H ⟨ρ,hr,er,w⟩=>⟨env,s,ρ,hr,er,?_⟩
 cases hv:yT Φ G env it s with
 |ok r s1=>
  rw[hv]at w
  exact fun ρ1 H1 J x1 hr1 W=>ie W TG (fun env s D σ H h=>⟨env,s,h⟩) hr1 (er.mono x1) (w.mono x1 hr1)
 |exc _ _ _=>rw[hv]at w;exact w.elim
 |stuck=>rw[hv]at w;exact w.elim
theorem mn{K:KF}{mg:Str→Option Value}{c:Env→Sto→Out Bool}{body:Env→Sto→Out Fl}{tc:L2.TT}{tb:L2.TS}{D:L2.Ends}{ρ:Own}{H:L2.Hp}{σ:L2.St}{n:Nat}(hc:∀env s σ H Q,tT K mg env s (c env s) σ H Q→tc σ H Q)(hb:∀env s D σ H,tSt K mg env s (body env s) D σ H→tb D σ H)
 (hr:HR K mg ρ s H) (er:ER K mg ρ H env σ) (w:sG K mg ρ H (vO c body n env s) D):L2.fS tc tb D σ H:=by
 refine⟨fun m σ2 H2=>∃ρ2 s2 env2,HR K mg ρ2 s2 H2∧ER K mg ρ2 H2 env2 σ2∧Ext ρ H ρ2 H2∧vO c body m env2 s2=vO c body n env s,⟨n,ρ,s,env,hr,er,Ext.refl,rfl⟩,?_⟩
 rintro m σ2 H2 ⟨ρ2,s2,env2,hr2,er2,x2,h2⟩
 cases m with
 |zero=>rw[vO]at h2;rw[←h2]at w;exact w.elim
 |succ m=>
  rw[vO]at h2
  refine hc env2 s2 σ2 H2 _ ⟨ρ2,hr2,er2,?_⟩
  cases hv:c env2 s2 with
  |ok t s3=>
   rw[hv]at h2
   simp only[zR]at h2
   intro ρ3 t' H3 x3 hr3 e3
   cases e3
   have x3':=x2.trans hr2 x3
   cases t with
   |true=>
    refine L2.rV ⟨_,fun σ' H' p=>⟨m,Nat.lt_succ_self m,p⟩,hb env2 s3 _ σ2 H3 ⟨ρ3,hr3,er2.mono x3,?_⟩⟩
    simp only[if_true]at h2
    cases hbd:body env2 s3 with
    |ok fl s5=>
     rw[hbd]at h2
     simp only[zR]at h2
     cases fl with
     |nx e=>exact fun ρ5 H5 σ5 x5 hr5 er5=>⟨ρ5,s5,e,hr5,er5,x3'.trans hr3 x5,h2⟩
     |ct e=>exact fun ρ5 H5 σ5 x5 hr5 er5=>⟨ρ5,s5,e,hr5,er5,x3'.trans hr3 x5,h2⟩
     |bk e=>
      simp only[]at h2
      rw[←h2]at w
      exact fun ρ5 H5 σ5 x5 hr5 er5=>w ρ5 H5 σ5 (x3'.trans hr3 x5) hr5 er5
     |rt v=>
      simp only[]at h2
      rw[←h2]at w
      exact fun ρ5 H5 y5 x5 hr5 r5=>w ρ5 H5 y5 (x3'.trans hr3 x5) hr5 r5
    |exc _ _ _=>rw[hbd]at h2;simp only[sI]at h2;rw[←h2]at w;exact w.elim
    |stuck=>rw[hbd]at h2;simp only[wx]at h2;rw[←h2]at w;exact w.elim
   |false=>
    simp only[Bool.false_eq_true,if_false]at h2
    rw[←h2]at w
    exact L2.rT (w ρ3 H3 σ2 x3' hr3 (er2.mono x3))
  |exc _ _ _=>rw[hv]at h2;simp only[sI]at h2;rw[←h2]at w;exact w.elim
  |stuck=>rw[hv]at h2;simp only[wx]at h2;rw[←h2]at w;exact w.elim
theorem gB{Φ:Calls}{G:Str→Option Val}{c:Cn}{b:Sms}{ce:Expr}{body:List Stmt}{pos:Pos}(hx:X.xe=fun _ _=>False)(hc:∀env s,L2.PT X ce (tT X.K X.mg env s (evT Φ G env c s)))(hb:L2.PSs X body (uSs X.K X.mg Φ G b)) :
 L2.PS X (.While ce body [] pos) (tSt X.K X.mg env s (vO (fun e s'=>evT Φ G e c s') (fun e s'=>zZ Φ G e b s') pq env s)):=by
 have hpass:PassesOwn (model X.prog X.w) X.A X.env X.xe:=by rw[hx];exact PassesOwn.never
 exact wD (L2.g8 hpass (Xg hc) hb) fun D σ H ⟨ρ,hr,er,w⟩=>mn (fun env s σ H Q h=>⟨env,s,h⟩) (fun env s D σ H h=>⟨env,s,h⟩) hr er w
theorem eo:L2.PSs X [] (tSt X.K X.mg env s (.ok (.nx env) s)):=l6 L2.d6 fun D σ H ⟨ρ,hr,er,w⟩=>w ρ H σ Ext.refl hr er
theorem gC{st:Stmt}{rest:List Stmt}{o:Out Fl}{f:Env→Sto→Out Fl}{tr:L2.TS}(h1:L2.PS X st (tSt X.K X.mg env s o))(h2:L2.PSs X rest tr)(i2:∀env s D σ H,tSt X.K X.mg env s (f env s) D σ H→tr D σ H) :
 L2.PSs X (st::rest) (tSt X.K X.mg env s (o.bind fun fl s1=>match fl with|.nx e=>f e s1|fl=>.ok fl s1)):=by
 refine l6 (L2.g9 h1 h2) fun D σ H ⟨ρ,hr,er,w⟩=>⟨ρ,hr,er,?_⟩
 cases o with
 |ok fl s1=>
  simp only[zR]at w
  cases fl with
  |nx e=>exact fun ρ1 H1 σ1 x1 hr1 er1=>i2 e s1 D σ1 H1 ⟨ρ1,hr1,er1,w.mono x1 hr1⟩
  |bk e=>exact w
  |ct e=>exact w
  |rt v=>exact w
 |exc _ _ _=>exact w.elim
 |stuck=>exact w.elim
end
end M
end
section
namespace M
open PySem
mutual
noncomputable def ckS(sc:Scope)(N:List Str):Sm→Stmt→Bool
 |.expr e,st=>(match st with|.Expr x _=>ck sc N e x&&t9 x|_=>false)
 |.ret e,st=>(match st with|.Return (some x) _=>ck sc N e x|_=>false)
 |.retN,_=>false
 |.asg i e,st=>(match st with|.Assign [.Name x _] v _=>decide (N[i]?=some x)&&(decide (sc.names.lookup x=some .local)||decide (sc.names.lookup x=some .cell))&&ck sc N e v|_=>false)
 |.asgT is e,st=>(match st with|.Assign [.Tuple ts _ _] v _=>z0 sc N is ts&&ck sc N e v&&notTuple v|_=>false)
 |.par is es,st=>(match st with|.Assign [.Tuple ts _ _] (.Tuple vs _ _) _=>z0 sc N is ts&&ckL sc N es vs&&yb vs&&decide (is.length≤8)&&decide is.Nodup&&decide (ts.length=vs.length)&&(bW sc ts vs||bf sc ts)|_=>false)
 |.aug _ _ _,_=>false
 |.setIx o i e,st=>(match st with|.Assign [.Subscript a b _] v _=>ck sc N o a&&ck sc N i b&&ck sc N e v&&plain b|_=>false)
 |.ifS c a b,st=>(match st with|.If t x y _=>ckC sc N c t&&rR sc N a x&&rR sc N b y|_=>false)
 |.forS t it b,st=>(match st with|.For tg iter body [] _=>ckT sc N t tg&&ckI sc N it iter tg&&rR sc N b body&&plain iter|_=>false)
 |.whileS c b,st=>(match st with|.While t body [] _=>ckC sc N c t&&rR sc N b body|_=>false)
 |.pass,_=>false
 |.brk,_=>false
 |.cont,_=>false
 |.raise _,_=>true
noncomputable def rR(sc:Scope)(N:List Str):Sms→List Stmt→Bool
 |.nil,ss=>(match ss with|[]=>true|_=>false)
 |.cons c cs,ss=>(match ss with|t::ts=>ckS sc N c t&&rR sc N cs ts|_=>false)
end
structure OkF(T:Tbl)(n:Nat)(sc:Scope)(N:List Str)(X:L2.Cx):Prop where
 ok:Ok T n sc N X
 esc:X.env.scope=sc
 bk:X.env.blockKind=.function
section
variable {T:Tbl}{n:Nat}
def JS(T:Tbl)(n:Nat)(a:Sm):Prop:=∀(sc:Scope) (N:List Str) (X:L2.Cx) (st:Stmt),OkF T n sc N X→ckS sc N a st=true→∀env s,L2.PS X st (tSt X.K X.mg env s (exS (zH T n) T.gl env a s))
def JSs(T:Tbl)(n:Nat)(a:Sms):Prop:=∀(sc:Scope) (N:List Str) (X:L2.Cx) (st:List Stmt),OkF T n sc N X→rR sc N a st=true→∀env s,L2.PSs X st (tSt X.K X.mg env s (zZ (zH T n) T.gl env a s))
theorem oo{X:L2.Cx}{b:Sms}{st:List Stmt}{Φ:Calls}{G:Str→Option Val}(h:∀env s,L2.PSs X st (tSt X.K X.mg env s (zZ Φ G env b s))):L2.PSs X st (uSs X.K X.mg Φ G b):=fun pins s σ H D I ⟨env,t,q⟩=>h env t pins s σ H D I q
theorem eY{e:Ex}:JS T n (.expr e):=by
 intro sc N X st o h env s
 simp only[ckS]at h
 split at h
 . simp only[Bool.and_eq_true]at h
   exact eh h.2 (jE T n e _ _ _ _ o.ok h.1 env s)
 . cases h
theorem ao{e:Ex}:JS T n (.ret e):=by
 intro sc N X st o h env s
 simp only[ckS]at h
 split at h
 . exact ZC (jE T n e _ _ _ _ o.ok h env s)
 . cases h
theorem rG{elt:Expr}{gens:List Comprehension}{csc:Scope}{cpos py:Pos}{y:Str}{l:Nat}{env:PySem.Env}:∃b,swapsWith (.ListComp elt gens csc cpos) (some (.Name y py)) l env=pure b:=⟨_,rfl⟩
theorem ai{i:Nat}{e:Ex}:JS T n (.asg i e):=by
 intro sc N X st o h env s
 simp only[ckS]at h
 split at h
 . rename_i x px v pos
   simp only[Bool.and_eq_true,decide_eq_true_eq,Bool.or_eq_true]at h
   obtain⟨⟨h1,h2⟩,h3⟩:=h
   obtain⟨l1,l2⟩:=o.ok.scp.loc x h2
   have hN:X.N.Nodup:=by rw[o.ok.scp.hN];exact o.ok.scp.nd
   have hi:X.N[i]?=some x:=by rw[o.ok.scp.hN];exact h1
   by_cases hn:t9 v=true
   . exact nh (L2.mI hN hi l1 (jE T n e _ _ _ _ o.ok h3 env s) (nI hn) l2) fun σ H Q q=>q
   . -- a comprehension
     cases e with
     |comp m N' fr elt t it ifs=>
      simp only[ck]at h3
      split at h3
      . rename_i x' tg iter fs csc cpos
        simp only[Bool.and_eq_true,decide_eq_true_eq]at h3
        obtain⟨⟨⟨⟨⟨⟨c1,c2⟩,c3⟩,c4⟩,c5⟩,c6⟩,c7⟩:=h3
        have S:=lF o.ok.scp c1
        have oc:=o.ok.comp S c2
        obtain⟨g,pg,tg'⟩:∃g,(∀C s0 H0 ex,L2.PG (X.comp N' csc C s0 H0 ex) tg g)∧uv X.K X.mg t g:=by
         cases t with
         |nm i=>
          cases tg with
          |Name y p=>
           simp only[ckT,Bool.and_eq_true,Bool.or_eq_true,decide_eq_true_eq]at c3
           exact⟨_,fun C s0 H0 ex=>qU (oc C s0 H0 ex).scp c3.1 c3.2,uk⟩
          |_=>cases c3
         |nms is=>
          cases tg with
          |Tuple es k p=>
           simp only[ckT,Bool.and_eq_true,decide_eq_true_eq]at c3
           refine⟨_,fun C s0 H0 ex=>?_,wG (is:=is)⟩
           obtain⟨a,b,c⟩:=xE (oc C s0 H0 ex).scp c3.1
           exact L2.uA (X:=X.comp N' csc C s0 H0 ex) o.ok.calm a b c
          |_=>cases c3
        have hpi:L2.PI X tg iter (uI X.K X.mg (zH T n) T.gl it):=mE fun env s=>jI T n it _ _ _ _ _ o.ok c4 env s
        have hts:∀C s0 H0 ex,L2.PTs (X.comp N' csc C s0 H0 ex) fs (uTs X.K X.mg (zH T n) T.gl ifs):=fun C s0 H0 ex=>(jCs T n ifs _ _ _ _ (oc C s0 H0 ex) c5).2.2
        have hel:∀C s0 H0 ex,L2.PE (X.comp N' csc C s0 H0 ex) x' (uE X.K X.mg (zH T n) T.gl elt):=fun C s0 H0 ex=>di (X:=X.comp N' csc C s0 H0 ex) fun env s=>jE T n elt _ _ _ _ (oc C s0 H0 ex) c6 env s
        have rule:L2.PS X (.Assign [.Name x px] (.ListComp x' [⟨tg,iter,fs,0⟩] csc cpos) pos) (L2.rh (L2.vS fr (uI X.K X.mg (zH T n) T.gl it) g (uTs X.K X.mg (zH T n) T.gl ifs) fun acc=>L2.vt acc (uE X.K X.mg (zH T n) T.gl elt)) (L2.vM i)):=by
         obtain⟨b,hb⟩:=rG (elt:=x') (gens:=[⟨tg,iter,fs,0⟩]) (csc:=csc) (cpos:=cpos) (y:=x) (py:=px) (l:=pos.line) (env:=X.env)
         cases b with
         |true=>exact L2.dw o.ok.calm S hpi pg hts hel hN hi l1 hb l2 (yG c7)
         |false=>exact L2.mI hN hi l1 (L2.lz o.ok.calm S hpi pg hts hel (yG c7)) hb l2
        refine nh (o:=evE (zH T n) T.gl env (.comp m N' fr elt t it ifs) s) rule fun σ H Q hq=>vZ (env:=env) (s:=s) (chk:=false) (m:=m) (body:=vv (zH T n) T.gl elt ifs) tg' wN (fun acc ρ0 H0 hn=>rN hn) ?_ fun _ r s1 p s2 hl=>?_
        . simp only[Bool.false_eq_true,false_implies,if_true];exact hq
        . have:=tM hl
          simpa using this
      . cases h3
     |comp2 m N' fr elt t it ifs t2 it2 ifs2=>
      simp only[ck]at h3
      split at h3
      . rename_i x' tg iter fs tg2 iter2 fs2 csc cpos
        simp only[Bool.and_eq_true,decide_eq_true_eq]at h3
        obtain⟨⟨⟨⟨⟨⟨⟨⟨⟨⟨c1,c2⟩,c3⟩,c4⟩,c5⟩,c6⟩,c7⟩,c8⟩,c9⟩,c10⟩,c11⟩:=h3
        have S:=lF o.ok.scp c1
        have oc:=o.ok.comp S c2
        have tgt:∀(t:Tgt) (tg:Expr),ckT csc N' t tg=true→∃g,(∀C s0 H0 ex,L2.PG (X.comp N' csc C s0 H0 ex) tg g)∧uv X.K X.mg t g:=by
         intro t tg c3
         cases t with
         |nm i=>
          cases tg with
          |Name y p=>
           simp only[ckT,Bool.and_eq_true,Bool.or_eq_true,decide_eq_true_eq]at c3
           exact⟨_,fun C s0 H0 ex=>qU (oc C s0 H0 ex).scp c3.1 c3.2,uk⟩
          |_=>cases c3
         |nms is=>
          cases tg with
          |Tuple es k p=>
           simp only[ckT,Bool.and_eq_true,decide_eq_true_eq]at c3
           refine⟨_,fun C s0 H0 ex=>?_,wG (is:=is)⟩
           obtain⟨a,b,c⟩:=xE (oc C s0 H0 ex).scp c3.1
           exact L2.uA (X:=X.comp N' csc C s0 H0 ex) o.ok.calm a b c
          |_=>cases c3
        obtain⟨g,pg,tg'⟩:=tgt t tg c3
        obtain⟨g2,pg2,tg2'⟩:=tgt t2 tg2 c6
        have hpi:L2.PI X tg iter (uI X.K X.mg (zH T n) T.gl it):=mE fun env s=>jI T n it _ _ _ _ _ o.ok c4 env s
        have hts:∀C s0 H0 ex,L2.PTs (X.comp N' csc C s0 H0 ex) fs (uTs X.K X.mg (zH T n) T.gl ifs):=fun C s0 H0 ex=>(jCs T n ifs _ _ _ _ (oc C s0 H0 ex) c5).2.2
        have hpi2:∀C s0 H0 ex,L2.PI (X.comp N' csc C s0 H0 ex) tg2 iter2 (uI X.K X.mg (zH T n) T.gl it2):=fun C s0 H0 ex=>mE (X:=X.comp N' csc C s0 H0 ex) fun env s=>jI T n it2 _ _ _ _ _ (oc C s0 H0 ex) c7 env s
        have hts2:∀C s0 H0 ex,L2.PTs (X.comp N' csc C s0 H0 ex) fs2 (uTs X.K X.mg (zH T n) T.gl ifs2):=fun C s0 H0 ex=>(jCs T n ifs2 _ _ _ _ (oc C s0 H0 ex) c8).2.2
        have hel:∀C s0 H0 ex,L2.PE (X.comp N' csc C s0 H0 ex) x' (uE X.K X.mg (zH T n) T.gl elt):=fun C s0 H0 ex=>di (X:=X.comp N' csc C s0 H0 ex) fun env s=>jE T n elt _ _ _ _ (oc C s0 H0 ex) c9 env s
        have rule:L2.PS X (.Assign [.Name x px] (.ListComp x' [⟨tg,iter,fs,0⟩,⟨tg2,iter2,fs2,0⟩] csc cpos) pos) (L2.rh (L2.vS fr (uI X.K X.mg (zH T n) T.gl it) g (uTs X.K X.mg (zH T n) T.gl ifs) fun acc=>L2.rH (uI X.K X.mg (zH T n) T.gl it2) g2 (uTs X.K X.mg (zH T n) T.gl ifs2) (L2.vt acc (uE X.K X.mg (zH T n) T.gl elt))) (L2.vM i)):=by
         obtain⟨b,hb⟩:=rG (elt:=x') (gens:=[⟨tg,iter,fs,0⟩,⟨tg2,iter2,fs2,0⟩]) (csc:=csc) (cpos:=cpos) (y:=x) (py:=px) (l:=pos.line) (env:=X.env)
         cases b with
         |true=>exact L2.g7 o.ok.calm S hpi pg hts hpi2 pg2 hts2 hel hN hi l1 hb l2 (yG c10) (fun env=>yG c11)
         |false=>exact L2.mI hN hi l1 (L2.oZ o.ok.calm S hpi pg hts hpi2 pg2 hts2 hel (yG c10) (fun env=>yG c11)) hb l2
        refine nh (o:=evE (zH T n) T.gl env (.comp2 m N' fr elt t it ifs t2 it2 ifs2) s) rule fun σ H Q hq=>vZ (env:=env) (s:=s) (chk:=true) (m:=m) (body:=tL (zH T n) T.gl elt ifs t2 it2 ifs2) tg' uo (fun acc ρ0 H0 hn=>qZ hn tg2') ?_ fun z=>by cases z
        simp only[true_implies];exact hq
      . cases h3
     |_=>exfalso;apply hn;first|(simp only[ck,qF]at h3;cases h3;done)|(simp only[ck,qF]at h3;split at h3<;>first|rfl|(cases h3;done))
 . cases h
theorem eX{is:List Nat}{e:Ex}:JS T n (.asgT is e):=by
 intro sc N X st o h env s
 simp only[ckS]at h
 split at h
 . rename_i ts k p v pos
   simp only[Bool.and_eq_true]at h
   obtain⟨⟨h1,h2⟩,h3⟩:=h
   obtain⟨a,b,c⟩:=xE o.ok.scp h1
   exact lj (t:=.nms is) wG (L2.mH (jE T n e _ _ _ _ o.ok h2 env s) (L2.uA o.ok.calm a b c) vk (ma h3)) fun σ H Q q=>q
 . cases h
theorem ak{is:List Nat}{es:Exs}:JS T n (.par is es):=by
 intro sc N X st o h env s
 simp only[ckS]at h
 split at h
 . rename_i ts k p vs k2 p2 pos
   simp only[Bool.and_eq_true,decide_eq_true_eq,Bool.or_eq_true]at h
   obtain⟨⟨⟨⟨⟨⟨h1,h2⟩,h3⟩,h4⟩,h5⟩,h6⟩,h7⟩:=h
   have hes:=(jL T n es _ _ _ _ o.ok h2).1 h3 env s
   have hN:X.N.Nodup:=by rw[o.ok.scp.hN];exact o.ok.scp.nd
   have kind:∀x,X.env.kindOf x=sc.names.lookup x:=fun x=>by show X.env.scope.names.lookup x=_;rw[o.esc]
   rcases h7 with h7|h7
   . unfold bW at h7
     split at h7
     . rename_i x px y py
       simp only[Bool.and_eq_true,decide_eq_true_eq,Bool.not_eq_true']at h7
       obtain⟨⟨⟨⟨⟨q1,q2⟩,q3⟩,q4⟩,q5⟩,q6⟩:=h7
       match is,h1,h5 with
       |[i,j],h1,h5=>
        simp only[z0,Bool.and_eq_true,decide_eq_true_eq,Bool.or_eq_true]at h1
        obtain⟨⟨i1,i2⟩,⟨j1,j2⟩,_⟩:=h1
        match vs,h6 with
        |[a,b],_=>
         have hij:i≠j:=by rw[List.nodup_cons]at h5;exact fun z=>h5.1 (by rw[z];exact List.mem_singleton.mpr rfl)
         exact ek (L2.Zx o.ok.calm hN (by rw[o.ok.scp.hN];exact i1) (by rw[o.ok.scp.hN];exact j1) hij (by rw[o.esc];exact q1) (by rw[o.esc];exact q2) hes
          (nH o.bk (by rw[kind];exact q1) (by rw[kind];exact q2) q3 q4 h3 q5 q6) vk) fun σ H Q q=>q
       |[],h1,_=>exact absurd h1 (by simp[z0])
       |[_],h1,_=>exact absurd h1 (by simp[z0])
       |_::_::_::_,h1,_=>exact absurd h1 (by simp[z0])
     . rename_i x px y py z pz
       simp only[Bool.and_eq_true,decide_eq_true_eq,Bool.not_eq_true']at h7
       obtain⟨⟨⟨⟨⟨⟨⟨⟨⟨q1,q2⟩,q3⟩,q4⟩,q5⟩,q6⟩,q7⟩,q8⟩,q9⟩,q10⟩:=h7
       match is,h1,h5 with
       |[i,j,l],h1,h5=>
        simp only[z0,Bool.and_eq_true,decide_eq_true_eq,Bool.or_eq_true]at h1
        obtain⟨⟨i1,i2⟩,⟨j1,j2⟩,⟨l1,l2⟩,_⟩:=h1
        match vs,h6 with
        |[a,b,c],_=>
         simp only[List.nodup_cons,List.mem_cons,List.not_mem_nil,or_false,not_or]at h5
         exact el (L2.d5 o.ok.calm hN (by rw[o.ok.scp.hN];exact i1) (by rw[o.ok.scp.hN];exact j1) (by rw[o.ok.scp.hN];exact l1) h5.1.1 h5.1.2 h5.2.1 (by rw[o.esc];exact q1) (by rw[o.esc];exact q2) (by rw[o.esc];exact q3) hes
          (rg o.bk (by rw[kind];exact q1) (by rw[kind];exact q2) (by rw[kind];exact q3) q4 q5 q6 q7 q8 h3 q9 q10) vk) fun σ H Q q=>q
       |[],h1,_=>exact absurd h1 (by simp[z0])
       |[_],h1,_=>exact absurd h1 (by simp[z0])
       |[_,_],h1,_=>exact absurd h1 (by simp[z0])
       |_::_::_::_::_,h1,_=>exact absurd h1 (by simp[z0])
     . cases h7
   . have hun:(∃x p,Expr.Name x p∈ts∧X.env.kindOf x≠some .local)∨3<ts.length:=by
      unfold bf at h7
      simp only[Bool.or_eq_true,decide_eq_true_eq,List.any_eq_true]at h7
      rcases h7 with⟨e,hm,he⟩|h7
      . cases e with
        |Name x px=>
         simp only[decide_eq_true_eq]at he
         exact .inl ⟨x,px,hm,by rw[kind];exact he⟩
        |_=>cases he
      . exact .inr h7
     obtain⟨a,b,c⟩:=xE o.ok.scp h1
     have rule:=lj (t:=.nms is) (env:=env) (s:=s) wG (L2.mH (pos:=pos) (hX (k:=k2) (pos:=p2) hes) (L2.uA (k:=k) (pos:=p) o.ok.calm a b c) vk (j5 hun)) fun σ H Q q=>q
     have e:((yr (zH T n) T.gl env es s).bind fun vs s1=>if vs.length=is.length then (.ok:Fl→Sto→Out Fl) (.nx ((is.zip vs).foldl (fun e p=>e.set p.1 (some p.2)) env)) s1 else .stuck)=(((yr (zH T n) T.gl env es s).bind fun vs s1=>if vs.length≤zP then (.ok:Val→Sto→Out Val) (.tup vs) s1 else .stuck).bind fun v s1=>match yS (.nms is) v env with|some env'=>(.ok:Fl→Sto→Out Fl) (.nx env') s1|Option.none=>.stuck):=by
      cases yr (zH T n) T.gl env es s with
      |ok ws s1=>
       simp only[zR]
       by_cases hl:ws.length=is.length
       . have hz:ws.length≤zP:=by rw[hl];exact Nat.le_trans h4 (by decide)
         simp only[if_pos hl,if_pos hz,zR,yS]
       . rw[if_neg hl]
         by_cases hz:ws.length≤zP
         . simp only[if_neg hl,if_pos hz,zR,yS]
         . simp only[if_neg hz,wx]
      |exc _ _ _=>rfl
      |stuck=>rfl
     show L2.PS X _ (tSt X.K X.mg env s ((yr (zH T n) T.gl env es s).bind fun vs s1=>if vs.length=is.length then .ok (.nx ((is.zip vs).foldl (fun e p=>e.set p.1 (some p.2)) env)) s1 else .stuck))
     rw[e]
     exact rule
 . cases h
theorem i6{a i e:Ex}:JS T n (.setIx a i e):=by
 intro sc N X st o h env s
 simp only[ckS]at h
 split at h
 . simp only[Bool.and_eq_true]at h
   exact gA h.2 (jE T n e _ _ _ _ o.ok h.1.2 env s) (fun s1=>jE T n a _ _ _ _ o.ok h.1.1.1 env s1) fun s1=>jE T n i _ _ _ _ o.ok h.1.1.2 env s1
 . cases h
theorem Yn{c:Cn}{a b:Sms}(ja:JSs T n a)(jb:JSs T n b):JS T n (.ifS c a b):=by
 intro sc N X st o h env s
 simp only[ckS]at h
 split at h
 . simp only[Bool.and_eq_true]at h
   exact Yt (jC T n c _ _ _ _ o.ok h.1.1 env s) (oo fun env s=>ja _ _ _ _ o h.1.2 env s) (oo fun env s=>jb _ _ _ _ o h.2 env s) (fun s1 D σ H q=>⟨env,s1,q⟩) fun s1 D σ H q=>⟨env,s1,q⟩
 . cases h
theorem aj{t:Tgt}{it:Itb}{b:Sms}(jb:JSs T n b):JS T n (.forS t it b):=by
 intro sc N X st o h env s
 simp only[ckS]at h
 split at h
 . simp only[Bool.and_eq_true]at h
   obtain⟨g,pg,tg⟩:=XZ o.ok.scp o.ok.calm h.1.1.1
   exact ZA o.ok.xe o.ok.calm h.2 (fun env s=>jI T n it _ _ _ _ _ o.ok h.1.1.2 env s) pg tg (oo fun env s=>jb _ _ _ _ o h.1.2 env s)
 . cases h
theorem i7{c:Cn}{b:Sms}(jb:JSs T n b):JS T n (.whileS c b):=by
 intro sc N X st o h env s
 simp only[ckS]at h
 split at h
 . simp only[Bool.and_eq_true]at h
   exact gB o.ok.xe (fun env s=>jC T n c _ _ _ _ o.ok h.1 env s) (oo fun env s=>jb _ _ _ _ o h.2 env s)
 . cases h
theorem iz{e:Ex}:JS T n (.raise e):=fun sc N X st o h env s=>zN nofun
theorem eZ:JSs T n .nil:=by
 intro sc N X st o h env s
 simp only[rR]at h
 split at h
 . exact eo
 . cases h
theorem i8{c:Sm}{cs:Sms}(jc:JS T n c)(jcs:JSs T n cs):JSs T n (.cons c cs):=by
 intro sc N X st o h env s
 simp only[rR]at h
 split at h
 . simp only[Bool.and_eq_true]at h
   exact gC (f:=fun e s=>zZ (zH T n) T.gl e cs s) (jc _ _ _ _ o h.1 env s) (oo fun env s=>jcs _ _ _ _ o h.2 env s) fun env s D σ H q=>⟨env,s,q⟩
 . cases h
end
section
variable (T:Tbl)(n:Nat)
mutual
theorem jS:∀a:Sm,JS T n a
 |.expr _=>eY
 |.ret _=>ao
 |.retN=>fun sc N X e o h=>by cases h
 |.asg _ _=>ai
 |.asgT _ _=>eX
 |.par _ _=>ak
 |.aug _ _ _=>fun sc N X e o h=>by cases h
 |.setIx _ _ _=>i6
 |.ifS _ a b=>Yn (jSs a) (jSs b)
 |.forS _ _ b=>aj (jSs b)
 |.whileS _ b=>i7 (jSs b)
 |.pass=>fun sc N X e o h=>by cases h
 |.brk=>fun sc N X e o h=>by cases h
 |.cont=>fun sc N X e o h=>by cases h
 |.raise _=>iz
theorem jSs:∀a:Sms,JSs T n a
 |.nil=>eZ
 |.cons c cs=>i8 (jS c) (jSs cs)
end
end
end M
end
section
namespace M
open PySem
mutual
noncomputable def wg(n:Nat):Val→Bool
 |.ref i=>decide (i<n)
 |.tup vs=>vB n vs
 |.lst vs=>vB n vs
 |.none|.bool _|.int _|.str _|.dct0|.ctup _|.scr _|.fn _|.ty _=>true
noncomputable def vB(n:Nat):List Val→Bool
 |[]=>true
 |v::vs=>wg n v&&vB n vs
end
mutual
theorem vT:∀{n:Nat} {v:Val},v.noRef=true→wg n v=true
 |_,.ref _,h=>by cases h
 |n,.tup vs,h=>by rw[wg];exact wj (by simpa only[Val.noRef] using h)
 |n,.lst vs,h=>by rw[wg];exact wj (by simpa only[Val.noRef] using h)
 |_,.none,_=>rfl
 |_,.bool _,_=>rfl
 |_,.int _,_=>rfl
 |_,.str _,_=>rfl
 |_,.dct0,_=>rfl
 |_,.ctup _,_=>rfl
 |_,.scr _,_=>rfl
 |_,.fn _,_=>rfl
 |_,.ty _,_=>rfl
theorem wj:∀{n:Nat} {vs:List Val},zj vs=true→vB n vs=true
 |_,[],_=>rfl
 |n,v::vs,h=>by
  rw[zj,Bool.and_eq_true]at h
  rw[vB,vT h.1,wj h.2];rfl
end
section
variable {K:KF}{mg:Str→Option Value}
mutual
theorem RD.refs{ρ:Own}{H:L2.Hp}:∀{v:Val} {x:L2.V},RD K mg ρ H v x→wg ρ.o.length v=true
 |_,_,.none=>rfl
 |_,_,.bool _=>rfl
 |_,_,.int _=>rfl
 |_,_,.str _=>rfl
 |_,_,.tup _ _ r=>by rw[wg];exact RDs.refs r
 |_,_,.lst _ _ r=>by rw[wg];exact RDs.refs r
 |_,_,.dct0 _ _=>rfl
 |_,_,.ctup _=>rfl
 |_,_,.scr _=>rfl
 |_,_,.ref e=>by rw[wg];exact decide_eq_true (List.getElem?_eq_some_iff.mp e).1
 |_,_,.fn _=>rfl
 |_,_,.ty _=>rfl
theorem RDs.refs{ρ:Own}{H:L2.Hp}:∀{v:List Val} {x:List L2.V},RDs K mg ρ H v x→vB ρ.o.length v=true
 |_,_,.nil=>rfl
 |_,_,.cons r rs=>by rw[vB,RD.refs r,RDs.refs rs];rfl
end
structure Cut(ρ ρ':Own):Prop where
 pre:∃new,ρ'.o=ρ.o++new
 hid:ρ'.h=ρ.h
theorem Cut.no{ρ ρ':Own}(c:Cut ρ ρ'){a:Addr}(n:ρ'.no a):ρ.no a:=by
 obtain⟨new,e⟩:=c.pre
 exact⟨fun h=>n.1 (by rw[e];exact List.mem_append_left _ h),by rw[←c.hid];exact n.2⟩
mutual
theorem RD.wR{ρ ρ':Own}{H:L2.Hp}(c:Cut ρ ρ'):∀{v:Val} {x:L2.V},RD K mg ρ' H v x→wg ρ.o.length v=true→RD K mg ρ H v x
 |_,_,.none,_=>.none
 |_,_,.bool b,_=>.bool b
 |_,_,.int i,_=>.int i
 |_,_,.str t,_=>.str t
 |_,_,.tup n e r,h=>.tup (c.no n) e (RDs.wR c r (by simpa only[wg] using h))
 |_,_,.lst n e r,h=>.lst (c.no n) e (RDs.wR c r (by simpa only[wg] using h))
 |_,_,.dct0 n e,_=>.dct0 (c.no n) e
 |_,_,.ctup h,_=>.ctup h
 |_,_,.scr h,_=>.scr (by
    rcases h with⟨n,h⟩|h
    . exact .inl ⟨c.no n,h⟩
    . exact .inr h)
 |_,_,.ref (i:=i) e,h=>.ref (by
    obtain⟨new,e'⟩:=c.pre
    rw[wg]at h
    rw[e',List.getElem?_append_left (of_decide_eq_true h)]at e
    exact e)
 |_,_,.fn e,_=>.fn e
 |_,_,.ty n,_=>.ty n
theorem RDs.wR{ρ ρ':Own}{H:L2.Hp}(c:Cut ρ ρ'):∀{v:List Val} {x:List L2.V},RDs K mg ρ' H v x→vB ρ.o.length v=true→RDs K mg ρ H v x
 |_,_,.nil,_=>.nil
 |_,_,.cons r rs,h=>by
  rw[vB,Bool.and_eq_true]at h
  exact .cons (RD.wR c r h.1) (RDs.wR c rs h.2)
end
theorem oU:∀{s s':Sto} {i:Nat} {o':Cel},wC s s'=true→i<s.length→s'[i]?=some o'→o'.noRef=true∨s[i]?=some o'
 |[],_,_,_,_,h,_=>by cases h
 |o::r,[],_,_,h,_,_=>by cases h
 |o::r,o'::r',0,q,h,_,e=>by
  rw[wC,Bool.and_eq_true,Bool.or_eq_true]at h
  simp only[List.getElem?_cons_zero,Option.some.injEq]at e
  subst e
  rcases h.1 with z|z
  . exact .inl z
  . right
    cases o' with
    |lst a=>cases o with
     |lst b=>simp only[Cel.beq]at z;rw[vY z];rfl
 |o::r,o'::r',i+1,q,h,hi,e=>by
  rw[wC,Bool.and_eq_true]at h
  have:=oU (i:=i) h.2 (by simpa using hi) (by simpa using e)
  simpa using this
mutual
theorem sS{ρ ρ':Own}{H:L2.Hp}{s:Sto}(c:Cut ρ ρ')(hr:HR K mg ρ' s H):∀{k:Nat} {v v':Val} {x:L2.V},RD K mg ρ' H v x→uU ρ.o.length s k v=some v'→RD K mg ρ H v' x
 |k,.ref i,v',x,r,h=>by
  have h':(if i<ρ.o.length then some (Val.ref i) else match s[i]? with
   |some (.lst vs)=>if zj vs then some (.lst vs) else Option.none
   |Option.none=>Option.none)=some v':=by cases k<;>exact h
  cases r with
  |ref e=>
   by_cases hi:i<ρ.o.length
   . rw[if_pos hi]at h'
     cases h'
     exact RD.wR c (.ref e) (by rw[wg];exact decide_eq_true hi)
   . rw[if_neg hi]at h'
     split at h'
     . rename_i vs hs
       split at h'
       . rename_i hn
         cases h'
         obtain⟨a,xs,e1,e2,q⟩:=hr.obj i vs hs
         rw[e]at e1;cases e1
         obtain⟨new,e'⟩:=c.pre
         have hm:=List.mem_of_getElem? e
         refine .lst ⟨fun hm'=>?_,fun hh=>?_⟩ e2 (RDs.wR c q (wj hn))
         . obtain⟨j,hj,ej⟩:=List.getElem_of_mem hm'
           have ej':ρ'.o[j]?=ρ'.o[i]?:=by rw[e,e',List.getElem?_append_left hj,List.getElem?_eq_getElem hj,ej]
           have:=gP hr.nd e (ej'.trans e)
           omega
         . exact(hr.hid _ (by rw[c.hid];exact hh)).2 hm
       . cases h'
     . cases h'
 |k+1,.tup vs,v',x,r,h=>by
  rw[uU,Option.map_eq_some_iff]at h
  obtain⟨ws,h1,rfl⟩:=h
  cases r with
  |tup n e q=>exact .tup (c.no n) e (sR c hr q h1)
 |0,.tup vs,v',x,r,h=>by
  have h':(if (Val.tup vs).noRef then some (Val.tup vs) else Option.none)=some v':=h
  split at h'
  . rename_i hn;cases h';exact RD.wR c r (vT hn)
  . cases h'
 |k,.lst vs,v',x,r,h=>by
  have h':(if (Val.lst vs).noRef then some (Val.lst vs) else Option.none)=some v':=by cases k<;>exact h
  split at h'
  . rename_i hn;cases h';exact RD.wR c r (vT hn)
  . cases h'
 |k,.none,v',x,r,h=>by
  have h':some Val.none=some v':=by cases k<;>exact h
  cases h';exact RD.wR c r rfl
 |k,.bool b,v',x,r,h=>by
  have h':some (Val.bool b)=some v':=by cases k<;>exact h
  cases h';exact RD.wR c r rfl
 |k,.int b,v',x,r,h=>by
  have h':some (Val.int b)=some v':=by cases k<;>exact h
  cases h';exact RD.wR c r rfl
 |k,.str b,v',x,r,h=>by
  have h':some (Val.str b)=some v':=by cases k<;>exact h
  cases h';exact RD.wR c r rfl
 |k,.dct0,v',x,r,h=>by
  have h':some Val.dct0=some v':=by cases k<;>exact h
  cases h';exact RD.wR c r rfl
 |k,.ctup b,v',x,r,h=>by
  have h':some (Val.ctup b)=some v':=by cases k<;>exact h
  cases h';exact RD.wR c r rfl
 |k,.scr b,v',x,r,h=>by
  have h':some (Val.scr b)=some v':=by cases k<;>exact h
  cases h';exact RD.wR c r rfl
 |k,.fn b,v',x,r,h=>by
  have h':some (Val.fn b)=some v':=by cases k<;>exact h
  cases h';exact RD.wR c r rfl
 |k,.ty b,v',x,r,h=>by
  have h':some (Val.ty b)=some v':=by cases k<;>exact h
  cases h';exact RD.wR c r rfl
theorem sR{ρ ρ':Own}{H:L2.Hp}{s:Sto}(c:Cut ρ ρ')(hr:HR K mg ρ' s H):∀{k:Nat} {v v':List Val} {x:List L2.V},RDs K mg ρ' H v x→t6 ρ.o.length s k v=some v'→RDs K mg ρ H v' x
 |k,[],v',x,r,h=>by
  have h':some ([]:List Val)=some v':=by cases k<;>exact h
  cases h';cases r;exact .nil
 |0,_::_,v',x,r,h=>by cases h
 |k+1,v::vs,v',x,r,h=>by
  rw[t6]at h
  cases r with
  |cons r1 r2=>
   split at h
   . rename_i a b ha hb
     cases h
     refine .cons ?_ (sR c hr r2 hb)
     by_cases hn:v.noRef=true
     . rw[if_pos hn]at ha;cases ha;exact RD.wR c r1 (vT hn)
     . rw[if_neg hn]at ha;exact sS c hr r1 ha
   . cases h
end
theorem oK{F:Fn}{ρ ρ':Own}{H H':L2.Hp}{s s1:Sto}{v:Val}{x:L2.V}{Q:L2.VK}(h0:HR K mg ρ s H)(w:yh K mg (RD K mg) ρ H (leave F s v s1) Q)(X:Ext ρ H ρ' H')(hr:HR K mg ρ' s1 H')(r:RD K mg ρ' H' v x):Q x H':=by
 unfold leave at w
 by_cases hk:F.keep=true
 . rw[if_pos hk]at w;exact w ρ' x H' X hr r
 . rw[if_neg hk]at w
   by_cases ho:wC s s1=true
   . rw[if_pos ho]at w
     have c:Cut ρ ρ':=⟨by obtain⟨new,e,_⟩:=X.pre;exact⟨new,e⟩,X.hid⟩
     cases hf:freeze s.length s1 v with
     |none=>rw[hf]at w;exact w.elim
     |some v'=>
      rw[hf]at w
      have hlen:s.length≤s1.length:=by
       obtain⟨new,e,_⟩:=X.pre
       rw[←h0.len,←hr.len,e,List.length_append];omega
      refine w ρ x H' ⟨⟨[],by simp,fun a ha=>by cases ha⟩,rfl,X.keep⟩ ⟨?_,h0.nd,fun i vs e=>?_,fun a ha=>?_⟩ ?_
      . rw[List.length_take,h0.len];omega
      . have hi:i<s.length:=by
         have:=(List.getElem?_eq_some_iff.mp e).1
         rw[List.length_take]at this;omega
        rw[List.getElem?_take_of_lt hi]at e
        obtain⟨a,xs,e1,e2,q⟩:=hr.obj i vs e
        have e3:ρ.o[i]?=some a:=by
         obtain⟨new,e',_⟩:=X.pre
         rw[e',List.getElem?_append_left (by rw[h0.len];exact hi)]at e1
         exact e1
        refine⟨a,xs,e3,e2,RDs.wR c q ?_⟩
        rcases oU ho hi e with z|z
        . exact wj z
        . obtain⟨b,ys,_,_,q'⟩:=h0.obj i vs z
          exact RDs.refs q'
      . obtain⟨z,n⟩:=hr.hid a (by rw[X.hid];exact ha)
        exact⟨z,(h0.hid a ha).2⟩
      . unfold freeze at hf
        by_cases hn:v.noRef=true
        . rw[if_pos hn]at hf;cases hf;exact RD.wR c r (vT hn)
        . rw[if_neg hn,←h0.len]at hf
          exact sS c hr r hf
   . rw[if_neg ho]at w;exact w.elim
theorem fQ{ρ:Own}{H:L2.Hp}{args:List Val}{vs:List L2.V}{N:List Str}(r:RDs K mg ρ H args vs):ER K mg ρ H (zK N args) (L2.start N vs):=by
 refine⟨by unfold zK L2.start;rw[List.length_append,List.length_append,List.length_map,List.length_map,List.length_replicate,List.length_replicate,r.length],fun i v e=>?_⟩
 unfold zK at e
 unfold L2.start
 by_cases hi:i<args.length
 . rw[List.getElem?_append_left (by simpa using hi),List.getElem?_map]at e
   rw[List.getElem?_append_left (by rw[List.length_map,←r.length];exact hi),List.getElem?_map]
   cases ha:args[i]? with
   |none=>rw[ha]at e;cases e
   |some a=>
    rw[ha]at e
    have:a=v:=Option.some.inj (Option.some.inj e)
    subst this
    obtain⟨x,h1,h2⟩:=r.get ha
    exact⟨x,by rw[h1];rfl,h2⟩
 . rw[List.getElem?_append_right (by simpa using hi),List.getElem?_replicate]at e
   split at e<;>cases e
end
noncomputable def argNames(a:Arguments):Option (List Str):=
 if a.posonlyargs.isEmpty&&a.vararg.isNone&&a.kwonlyargs.isEmpty&&a.kw_defaults.isEmpty&&a.kwarg.isNone&&a.defaults.isEmpty then some (a.args.map (·.arg)) else none
noncomputable def iP(st:Stmt)(F:Fn):Bool:=
 match st with
 |.FunctionDef _ args body _ _ _ sc _ _ _=>decide (argNames args=some F.ps)&&decide (sc.kind=.function)&&!sc.isCoroutine&&!sc.isGenerator&&decide F.N.Nodup&&decide (F.N.take F.ps.length=F.ps) &&
  F.ps.all (fun x=>decide (sc.names.lookup x=some .local)||decide (sc.names.lookup x=some .cell))&&sc.names.all (fun y=>decide (y.2≠.free))&&rR sc F.N F.body body
 |_=>false
theorem nk:∀{ps:List Str} {us:List Value},ps.Nodup→us.length=ps.length→ps.filterMap (fun n=>((ps.zip us).lookup n).map (n,·))=ps.zip us:=by
 have key:∀(ps qs:List Str) (us ws:List Value),(qs++ps).Nodup→us.length=ps.length→ws.length=qs.length→ps.filterMap (fun n=>(((qs++ps).zip (ws++us)).lookup n).map (n,·))=ps.zip us:=by
  intro ps
  induction ps with
  |nil=>intro qs us ws _ _ _;rfl
  |cons p ps ih=>
   intro qs us ws nd h1 h2
   cases us with
   |nil=>cases h1
   |cons u us=>
    have hl:((qs++p::ps).zip (ws++u::us)).lookup p=some u:=by
     rw[List.zip_append h2.symm]
     have:∀(qs:List Str) (ws:List Value),p ∉ qs→((qs.zip ws)++(p::ps).zip (u::us)).lookup p=some u:=by
      intro qs
      induction qs with
      |nil=>intro ws _;simp
      |cons q qs ih2=>
       intro ws hn
       cases ws with
       |nil=>simp
       |cons w ws=>
        have hpq:(p == q)=false:=by
         have:p≠q:=fun z=>hn (by rw[z];exact List.mem_cons_self)
         simpa using this
        rw[List.zip_cons_cons,List.cons_append,List.lookup_cons,hpq]
        exact ih2 ws fun z=>hn (List.mem_cons_of_mem _ z)
     refine this qs ws fun z=>?_
     rw[List.nodup_append]at nd
     exact nd.2.2 p z p List.mem_cons_self rfl
    rw[List.filterMap_cons,hl]
    have:=ih (qs++[p]) us (ws++[u]) (by simpa using nd) (by simpa using h1) (by simp[h2])
    rw[List.append_assoc,List.append_assoc]at this
    exact congrArg ((p,u)::·) this
 intro ps us nd h
 simpa using key ps [] us [] (by simpa using nd) h rfl
theorem lookup_some:∀{ps:List Str} {us:List Value},us.length=ps.length→∀n∈ps,((ps.zip us).lookup n).isNone=false
 |[],_,_,n,h=>by cases h
 |p::ps,[],h,_,_=>by cases h
 |p::ps,u::us,h,n,hn=>by
  rw[List.zip_cons_cons,List.lookup_cons]
  cases hb:(n == p) with
  |true=>rfl
  |false=>
   have:n≠p:=by simpa using hb
   rcases List.mem_cons.mp hn with z|z
   . exact absurd z this
   . exact lookup_some (by simpa using h) n z
theorem p6{x qual:Str}{a:Arguments}{body:List Stmt}{sc:Scope}{kV doc pm cdv ct:Value}{an:Option Addr}{ps:List Str}(h:argNames a=some ps)(nd:ps.Nodup)(us:List Value)(hl:us.length=ps.length) :
 bindArgs (PySem.W.fnOf x qual a body sc .none kV doc pm an cdv ct) ⟨us,[]⟩=pure (ps.zip us):=by
 unfold argNames at h
 split at h
 . rename_i hc
   simp only[Bool.and_eq_true,List.isEmpty_iff,Option.isNone_iff_eq_none]at hc
   obtain⟨⟨⟨⟨⟨h1,h2⟩,h3⟩,h4⟩,h5⟩,h6⟩:=hc
   cases h
   obtain⟨po,ar,va,ko,kd,kw,df⟩:=a
   simp only at h1 h2 h3 h4 h5 h6 hl nd ⊢
   subst h1 h2 h3 h4 h5 h6
   have hm:((ar.map (·.arg)).take ((ar.map (·.arg)).length-0)).filter (fun n=>(((ar.map (·.arg)).zip us).lookup n).isNone)=[]:=by
    rw[List.filter_eq_nil_iff]
    intro n hn
    rw[lookup_some hl n (List.mem_of_mem_take hn)]
    decide
   unfold bindArgs
   have hd:seqItems? Value.none=pure none:=rfl
   have hg:¬(us.length > (ar.map (·.arg)).length∧True):=by rintro ⟨z,_⟩;omega
   simp only[PySem.W.fnOf,List.map_nil,List.nil_append,List.append_nil,List.forIn_nil,pure_bind,hd,Option.getD_none,List.toList_toArray,List.length_nil,List.drop_nil,Nat.sub_zero,Option.isNone_none,Bool.and_true]
   rw[if_neg (by rw[List.length_map]at hl;simp;omega)]
   have hm':(List.filter (fun n=>(List.lookup n ((List.map (fun x=>x.arg) ar).zip us)).isNone) (List.take (List.map (fun x=>x.arg) ar).length (List.map (fun x=>x.arg) ar)))=[]:=hm
   rw[hm',if_neg (by decide),List.zip_nil_right,List.forIn_nil,pure_bind,if_neg (by decide),nk nd hl]
 . cases h
def pj(K:KF)(x:Str)(st:Stmt):Prop:=∃f fd,PySem.W.nsIn K mainGlobals x=some (some (.ref f))∧L2.Fun K x x st f fd
theorem aF{K:KF}{x:Str}{st:Stmt}{f:Addr}{oc:Value}{od an:Option Addr}{osl:Array (Option Value)}{kV doc pm cdv ct:Value}(a:PySem.W.nsIn K mainGlobals x=some (some (.ref f)))
 (l:K.lookup f=some ⟨oc,od,.func (PySem.W.fnOf x x (L2.wy st) (L2.xa st) (L2.zp st) .none kV doc pm an cdv ct),osl⟩) (c:PySem.W.codeIn K cdv x=true) (k:PySem.W.keepIn K (.ref f)=true):pj K x st:=
 ⟨f,_,a,L2.aL l c k⟩
section
variable {P:Program}{w:World}{K:KF}{mg:Str→Option Value}{base:Heap}{T:Tbl}
structure Top(T:Tbl)(K:KF)(mg:Str→Option Value):Prop where
 defs:∀f v F,T.fn f v=some F→∃st fa fd,mg f=some (.ref fa)∧L2.Fun K f f st fa fd∧iP st F=true
 gls:∀x v,T.gl x=some v→∃u xv,mg x=some u∧L2.RelV xv u∧∀ρ H,RD K mg ρ H v xv
 blt:∀x∈wX,mg x=none
theorem vy{st:Stmt}{F:Fn}(h:iP st F=true):argNames (L2.wy st)=some F.ps∧L2.tx F.N F.ps (L2.zp st)∧rR (L2.zp st) F.N F.body (L2.xa st)=true:=by
 unfold iP at h
 split at h
 . simp only[Bool.and_eq_true,decide_eq_true_eq,Bool.not_eq_true',List.all_eq_true,Bool.or_eq_true]at h
   obtain⟨⟨⟨⟨⟨⟨⟨⟨h1,h2⟩,h3⟩,h4⟩,h5⟩,h6⟩,h7⟩,h8⟩,h9⟩:=h
   exact⟨h1,⟨h2,h3,h4,h5,h6,h7,h8⟩,h9⟩
 . cases h
theorem bJ(top:Top T K mg):∀(n:Nat) (f:Str) (v:Nat) (F:Fn) (st:Stmt) (fa:Addr) (fd:FuncData),T.fn f v=some F→L2.Fun K f f st fa fd→iP st F=true→L2.tY P w K mg base L2.CX0 n fa fd F.ps (spN T K mg n f v)
 |0,f,v,F,st,fa,fd,h,e2,e3=>by
  refine⟨fun vs H Q E q=>?_,fun A outer s H args us vs Q E _ _ _ _ q=>?_⟩
  . obtain⟨ρ,t,as,_,_,z⟩:=q;exact z.elim
  . obtain⟨ρ,t,as,_,_,z⟩:=q;exact z.elim
 |n+1,f,v,F,st,fa,fd,h,e2,e3=>by
  obtain⟨p1,p2,p3⟩:=vy e3
  have hcall:∀(vs:List Val) (s:Sto),zH T (n+1) f v vs s=run T (zH T n) F vs s:=fun vs s=>by simp only[zH,h]
  refine e2.ok p2 (fun vs H Q E q=>?_) fun cdv A outer s H vs Q E hr q=>?_
  . obtain⟨ρ,t,as,_,r,z⟩:=q
    rw[hcall]at z
    unfold run at z
    split at z
    . rename_i hl;rw[←r.length];exact hl
    . exact z.elim
  . obtain⟨ρ,t,as,h0,r,z⟩:=q
    rw[hcall]at z
    unfold run at z
    have hl:as.length=F.ps.length:=by
     by_cases hl:as.length=F.ps.length
     . exact hl
     . rw[if_neg hl]at z;exact z.elim
    rw[if_pos hl]at z
    have okf:OkF T n (L2.zp st) F.N (L2.nV L2.CX0 P w K mg base F.N f (L2.zp st) fa cdv A outer s H E).nox:=by
     refine⟨⟨rfl,hr,⟨rfl,p2.nd,fun x hx=>hx,fun x hx=>⟨hx,.inl rfl⟩,fun x hx=>hx,fun x hx=>hx⟩,fun g v' G hg=>?_,top.gls,top.blt,rfl⟩,rfl,?_⟩
     . obtain⟨st2,ga,gd,q1,q2,q3⟩:=top.defs g v' G hg
       obtain⟨r1,r2,r3⟩:=vy q3
       have nd:G.ps.Nodup:=by rw[←r2.pre];exact r2.nd.sublist (List.take_sublist _ _)
       exact⟨ga,gd,q1,q2.kp,q2.binds fun kV doc pm an cdv ct us hl=>p6 r1 nd us hl,bJ top n g v' G st2 ga gd hg q2 q3⟩
     . show (if (L2.zp st).kind.isAnnotationScope then ScopeKind.function else (L2.zp st).kind)=.function
       rw[p2.kind];rfl
    refine⟨_,jSs T n F.body (L2.zp st) F.N _ (L2.xa st) okf p3 (zK F.N as) t,ρ,h0,fQ r,?_⟩
    show sG K mg ρ H (zZ (zH T n) T.gl (zK F.N as) F.body t) _
    cases hx:zZ (zH T n) T.gl (zK F.N as) F.body t with
    |ok fl s1=>
     rw[hx]at z
     cases fl with
     |nx e=>exact fun ρ1 H1 σ1 x1 hr1 er1=>oK h0 z x1 hr1 .none
     |rt v'=>exact fun ρ1 H1 x x1 hr1 r1=>oK h0 z x1 hr1 r1
     |bk e=>exact z.elim
     |ct e=>exact z.elim
    |exc _ _ _=>rw[hx]at z;exact z.elim
    |stuck=>rw[hx]at z;exact z.elim
end
end M
end
section
namespace M
open PySem Hd
noncomputable def kK(K:KF)(x:Str):Val→Prop
 |.int i=>∃t,PySem.W.nsIn K mainGlobals x=some (some (.int i t))
 |.str y=>∃t,PySem.W.nsIn K mainGlobals x=some (some (.str y t))
 |.ctup ns=>∃a,PySem.W.nsIn K mainGlobals x=some (some (.ref a))∧KT K a (ns.map L2.V.int)
 |_=>False
noncomputable def tbl(fnL:List ((Str × Nat) × Fn))(glL:List (Str × Val)):Tbl:=⟨fun f v=>fnL.lookup (f,v),fun x=>glL.lookup x⟩
noncomputable def kD(fnL:List ((Str × Nat) × Fn))(D:List (Str × Stmt)):Bool:=fnL.all fun p=>match D.lookup p.1.1 with|some st=>iP st p.2|none=>false
theorem sj{α β:Type} [BEq α] [LawfulBEq α]:∀{l:List (α × β)} {a:α} {b:β},l.lookup a=some b→(a,b)∈l
 |[],_,_,h=>by cases h
 |(c,d)::l,a,b,h=>by
  rw[List.lookup_cons]at h
  cases hb:(a == c) with
  |true=>rw[hb]at h;cases h;rw[eq_of_beq hb];exact List.mem_cons_self
  |false=>rw[hb]at h;exact List.mem_cons_of_mem _ (sj h)
theorem YD{K:KF}{mg:Str→Option Value}{h:Heap}{fnL:List ((Str × Nat) × Fn)}{glL:List (Str × Val)}{D:List (Str × Stmt)}(X:K.In h)(G:h.Ns mainGlobals mg)(hd:∀p∈D,pj K p.1 p.2)(hg:∀p∈glL,kK K p.1 p.2)(hb:∀x∈wX,PySem.W.nsIn K mainGlobals x=some none)
 (hc:kD fnL D=true):Top (tbl fnL glL) K mg:=by
 refine⟨fun f v F e=>?_,fun x v e=>?_,fun x hx=>PySem.W.mg_none_of X G (hb x hx)⟩
 . have hm:((f,v),F)∈fnL:=sj e
   unfold kD at hc
   rw[List.all_eq_true]at hc
   have h1:=hc _ hm
   split at h1
   . rename_i st hs
     obtain⟨fa,fd,a,F'⟩:=hd _ (sj hs)
     exact⟨st,fa,fd,PySem.W.mg_of X G a,F',h1⟩
   . cases h1
 . have hm:(x,v)∈glL:=sj e
   have h1:=hg _ hm
   cases v with
   |int i=>
    obtain⟨t,a⟩:=h1
    exact⟨_,.int i,PySem.W.mg_of X G a,⟨t,rfl⟩,fun ρ H=>.int i⟩
   |str y=>
    obtain⟨t,a⟩:=h1
    exact⟨_,.str y,PySem.W.mg_of X G a,⟨t,rfl⟩,fun ρ H=>.str y⟩
   |ctup ns=>
    obtain⟨a,h2,h3⟩:=h1
    exact⟨_,.ref a,PySem.W.mg_of X G h2,rfl,fun ρ H=>.ctup h3⟩
   |_=>exact h1.elim
theorem int_mk{K:KF}{x:Str}{i:Int}{t:Tok}(a:PySem.W.nsIn K mainGlobals x=some (some (.int i t))):kK K x (.int i):=⟨t,a⟩
theorem str_mk{K:KF}{x y:Str}{t:Tok}(a:PySem.W.nsIn K mainGlobals x=some (some (.str y t))):kK K x (.str y):=⟨t,a⟩
theorem sU:∀{us:List Value} {ns:List Int},oI us=some ns→L2.Vals (ns.map L2.V.int) us
 |[],_,h=>by cases h;exact .nil
 |u::us,ns,h=>by
  cases u with
  |int i t=>
   simp only[oI,Option.map_eq_some_iff]at h
   obtain⟨ms,h1,rfl⟩:=h
   exact .cons ⟨t,rfl⟩ (sU h1)
  |_=>cases h
theorem eD{K:KF}{x:Str}{a:Addr}{od:Option Addr}{us:List Value}{n:Nat}{sl:Array (Option Value)}{ns:List Int}(h:PySem.W.nsIn K mainGlobals x=some (some (.ref a)))
 (l:K.lookup a=some ⟨.type "tuple",od,.seq us.toArray n,sl⟩) (hz:us.length≤1000) (hi:oI us=some ns):kK K x (.ctup ns):=
 ⟨a,h,_,us.toArray,n,l,rfl,rfl,by rw[List.size_toArray,sizeLine_eq];omega,by simpa using sU hi⟩
noncomputable def Xw(K:KF):L2.Sp:=fun vs H Q _=>∃(a:Addr) (ns:List Int),vs=[.ref a]∧L2.SqL K H a (ns.map L2.V.int)∧ns.length≤63∧∀H',Q (.bl true) H'
theorem walk{l:PySem.W.OpenLaw}{q:Program}{loose:List Str}{XP:(Str→Option Value)→Heap→Prop}{YP:World→Heap→Prop}{d:DefRec}{K:Params→KF}{T:Tbl}{F:Fn}{n:Nat}{x:Str}(hn:l.most=some 63)(hdf:d.params.defaults=[])(hr:L2.xG n callerA)
 (hY:∀(w:World) (h:Heap),YP w h→(K w.params).In h) (hF:T.fn d.name 0=some F) (hx:F.ps=[x])
 (TOP:∀(w:World) (mg:Str→Option Value) (h:Heap),(K w.params).In h→h.Ns mainGlobals mg→Top T (K w.params) mg)
 (HL:∀ns:List Int,ns.length≤63→∃s',zH T n d.name 0 [.scr ns] []=.ok (.bool true) s') :
 PySem.W.WalkO q loose XP YP l.row.toRowW d [] (fun f vs=>PySem.call f vs):=by
 refine L2.bF (n:=63) (k:=n) (x:=x) (CX:=fun _=>L2.CX0) (sp:=fun w=>Xw (K w.params)) hn (by decide) hdf hr hY (fun w mg fa h KX G hmg=>?_) (fun _ _ a ns hl _ hS=>⟨a,ns,rfl,hS,hl,fun _=>rfl⟩) fun _ _ _ _ _ z=>z
 have top:=TOP w mg h KX G
 obtain⟨st,fa',fd',e1,e2,e3⟩:=top.defs _ _ _ hF
 obtain⟨p1,p2,p3⟩:=vy e3
 have nd:F.ps.Nodup:=by rw[←p2.pre];exact p2.nd.sublist (List.take_sublist _ _)
 rw[e1]at hmg
 cases hmg
 refine⟨fd',fun s u=>?_,fun base kb nb=>?_⟩
 . obtain⟨oc,od,kV,doc,pm,an,cdv,ct,osl,e,_⟩:=e2.ex
   subst e
   refine .of_eq ?_
   have:=p6 (x:=d.name) (qual:=d.name) (body:=L2.xa st) (sc:=L2.zp st) (kV:=kV) (doc:=doc) (pm:=pm) (cdv:=cdv) (ct:=ct) (an:=an) p1 nd [u] (by rw[hx];rfl)
   rw[hx]at this
   exact this
 . have f4:=bJ (P:=l.prog) (w:=w) (base:=base) top n d.name 0 F st _ fd' hF e2 e3
   rw[hx]at f4
   refine f4.imp fun vs H Q E ⟨a,ns,e,hS,hl,hq⟩=>?_
   subst e
   obtain⟨s',hs⟩:=HL ns hl
   refine⟨⟨[],[]⟩,[],[.scr ns],⟨rfl,List.nodup_nil,fun i vs z=>by simp at z,fun a z=>by cases z⟩,.cons (.scr ?_) .nil,?_⟩
   . rcases hS with hS|hS
     . exact .inl ⟨⟨by simp,by simp⟩,hS⟩
     . exact .inr hS
   . rw[hs]
     intro ρ' x' H' _ _ r
     cases r
     exact hq H'
end M
end
section
namespace F
open PySem M
noncomputable def y6:Fn:=⟨["_law_sizes_here","_law_draft_here","_law_place","_law_hue","_law_size","_law_found","_law_row","_law_some","_law_rest"],["_law_sizes_here","_law_draft_here","_law_place","_law_hue"],false,(.cons (.asg 4 (.ix (.var 0) (.var 3))) (.cons (.asg 5 (.lst true .nil)) (.cons (.forS (.nm 6) (.val (.call "_law_rows" 0 (.cons (.blt .len false (.cons (.var 1) .nil)) (.cons (.var 4) .nil)))) (.cons (.asg 7 (.call "_law_places" 0 (.cons (.var 6) (.cons (.var 4) .nil)))) (.cons (.asg 8 (.comp false ["_law_one","_law_place","_law_hue","_law_draft_here"] [none,some 2,some 3,some 1] (.var 0) (.nm 0) (.val (.var 7)) (.cons (.and (.val (.cmp .ne (.var 0) (.var 1))) (.cons (.val (.cmp .ne (.ix (.var 3) (.var 0)) (.var 2))) .nil)) .nil))) (.cons (.ifS (.and (.val (.cmp .in_ (.var 2) (.var 7))) (.cons (.val (.cmp .eq (.var 8) (.lst false .nil))) .nil)) (.cons (.expr (.yi .append false (.var 5) (.cons (.var 6) .nil))) .nil) .nil) .nil)))) (.cons (.ret (.var 5)) .nil))))⟩
noncomputable def zx:Fn:=⟨["_law_script","_law_k"],["_law_script","_law_k"],false,(.cons (.ifS (.val (.cmp .lt (.var 1) (.blt .len false (.cons (.var 0) .nil)))) (.cons (.ret (.ix (.var 0) (.var 1))) .nil) .nil) (.cons (.ret (.lit (.int 0))) .nil))⟩
noncomputable def yj:Fn:=⟨["_law_pen_here","_law_sizes_here","_law_limit","_law_spare","_law_way","_law_length","_law_many","_law_spots","_law_found","_law_place","_law_hue","_law_turn"],["_law_pen_here","_law_sizes_here","_law_limit","_law_spare"],false,(.cons (.par [4,5,6] (.cons (.call "_law_draw" 0 (.cons (.var 0) (.cons (.lit (.int 3)) .nil))) (.cons (.call "_law_draw" 0 (.cons (.var 0) (.cons (.bin false .add (.var 2) (.lit (.int 1))) .nil))) (.cons (.call "_law_draw" 0 (.cons (.var 0) (.cons (.bin false .add (.var 3) (.lit (.int 1))) .nil))) .nil)))) (.cons (.asg 7 (.comp false ["_law_k","_law_pen_here","_law_length"] [none,some 0,some 5] (.call "_law_draw" 0 (.cons (.var 1) (.cons (.blt .max false (.cons (.lit (.int 1)) (.cons (.var 2) .nil))) .nil))) (.nm 0) (.range1 (.var 6)) .nil)) (.cons (.asg 8 (.lst true .nil)) (.cons (.forS (.nm 9) (.range1 (.var 5)) (.cons (.asg 10 (.call "_law_draw" 0 (.cons (.var 0) (.cons (.blt .len false (.cons (.var 1) .nil)) .nil)))) (.cons (.forS (.nm 11) (.range1 (.bin false .mul (.blt .len false (.cons (.var 1) .nil)) (.blt .int false (.cons (.cmp .gt (.var 4) (.lit (.int 0))) .nil)))) (.cons (.ifS (.val (.call "_law_ended" 0 (.cons (.var 1) (.cons (.var 8) (.cons (.var 10) .nil))))) (.cons (.asg 10 (.bin false .mod (.bin false .add (.var 10) (.lit (.int 1))) (.blt .len false (.cons (.var 1) .nil)))) .nil) .nil) .nil)) (.cons (.expr (.yi .append false (.var 8) (.cons (.var 10) .nil))) .nil)))) (.cons (.ret (.blt .tuple false (.cons (.comp false ["_law_place","_law_spots","_law_found"] [none,some 7,some 8] (.ife (.val (.cmp .in_ (.var 0) (.var 1))) (.neg (.lit (.int 1))) (.ix (.var 2) (.var 0))) (.nm 0) (.range1 (.var 5)) .nil) .nil))) .nil)))))⟩
noncomputable def y7:Fn:=⟨["_law_pen_here","_law_many","_law_left","_law_found","_law_mixed"],["_law_pen_here","_law_many"],false,(.cons (.ifS (.val (.cmp .gt (.ix (.var 0) (.lit (.int 0))) (.lit (.int 0)))) (.cons (.asgT [2,3] (.blt .divmod false (.cons (.ix (.var 0) (.lit (.int 0))) (.cons (.var 1) .nil)))) (.cons (.setIx (.var 0) (.lit (.int 0)) (.var 2)) (.cons (.ret (.var 3)) .nil))) .nil) (.cons (.setIx (.var 0) (.lit (.int 1)) (.bin false .mod (.bin false .add (.bin false .mul (.ix (.var 0) (.lit (.int 1))) (.lit (.int 48271))) (.lit (.int 30269))) (.lit (.int 2147483629)))) (.cons (.asg 4 (.bin false .mod (.bin false .add (.bin false .add (.bin false .mul (.ix (.var 0) (.lit (.int 1))) (.ix (.var 0) (.lit (.int 1)))) (.bin false .mul (.lit (.int 40692)) (.ix (.var 0) (.lit (.int 1))))) (.lit (.int 7))) (.lit (.int 2147483587)))) (.cons (.ret (.bin false .mod (.bin false .fdiv (.var 4) (.lit (.int 64))) (.var 1))) .nil))))⟩
noncomputable def yO:Fn:=⟨["_law_sizes_here","_law_found","_law_hue","_law_here","_law_size","_law_step"],["_law_sizes_here","_law_found","_law_hue"],false,(.cons (.par [3,4] (.cons (.blt .len false (.cons (.var 1) .nil)) (.cons (.ix (.var 0) (.var 2)) .nil))) (.cons (.forS (.nm 5) (.range2 (.lit (.int 1)) (.bin false .add (.bin false .fdiv (.var 3) (.bin false .sub (.var 4) (.lit (.int 1)))) (.lit (.int 1)))) (.cons (.ifS (.val (.cmp .eq (.comp false ["_law_k","_law_hue","_law_found","_law_here","_law_step"] [none,some 2,some 1,some 3,some 5] (.var 0) (.nm 0) (.range2 (.lit (.int 1)) (.var 4)) (.cons (.val (.cmp .ne (.ix (.var 2) (.bin false .sub (.var 3) (.bin false .mul (.var 0) (.var 4)))) (.var 1))) .nil)) (.lst false .nil))) (.cons (.ret (.lit (.bool true))) .nil) .nil) .nil)) (.cons (.ret (.lit (.bool false))) .nil)))⟩
noncomputable def y8:Fn:=⟨["_law_sizes_here","_law_draft_here","_law_place"],["_law_sizes_here","_law_draft_here","_law_place"],false,(.cons (.ret (.blt .tuple false (.cons (.comp false ["_law_hue","_law_sizes_here","_law_draft_here","_law_place"] [none,some 0,some 1,some 2] (.var 0) (.nm 0) (.range1 (.blt .len false (.cons (.var 0) .nil))) (.cons (.val (.cmp .eq (.call "_law_bars" 0 (.cons (.var 1) (.cons (.var 2) (.cons (.var 3) (.cons (.var 0) .nil))))) (.lst false .nil))) .nil)) .nil))) .nil)⟩
noncomputable def yP:Fn:=⟨["_law_cell","_law_left"],["_law_cell"],true,(.cons (.asg 1 (.blt .max false (.cons (.var 0) (.cons (.bin false .sub (.lit (.int 0)) (.var 0)) .nil)))) (.cons (.ret (.lst true (.cons (.bin false .mul (.var 1) (.blt .int false (.cons (.cmp .ge (.var 1) (.bin false .pow (.lit (.int 10)) (.lit (.int 18)))) .nil))) (.cons (.bin false .mod (.var 1) (.lit (.int 2147483629))) .nil)))) .nil))⟩
noncomputable def yY:Fn:=⟨["_law_row","_law_size"],["_law_row","_law_size"],false,(.cons (.ret (.comp false ["_law_k","_law_row"] [none,some 0] (.bin false .add (.ix (.var 1) (.lit (.int 0))) (.bin false .mul (.var 0) (.ix (.var 1) (.lit (.int 1))))) (.nm 0) (.range1 (.var 1)) .nil)) .nil)⟩
noncomputable def x8:Fn:=⟨["_law_draft_here","_law_place","_law_hue"],["_law_draft_here","_law_place","_law_hue"],false,(.cons (.ret (.bin false .add (.bin false .add (.sl false (.var 0) .no (.yes (.var 1)) .no) (.tup (.cons (.var 2) .nil))) (.sl false (.var 0) (.yes (.bin false .add (.var 1) (.lit (.int 1)))) .no .no))) .nil)⟩
noncomputable def y9:Fn:=⟨["_law_length","_law_size","_law_found","_law_first","_law_step"],["_law_length","_law_size"],false,(.cons (.asg 2 (.lst true .nil)) (.cons (.forS (.nm 3) (.range1 (.var 0)) (.cons (.forS (.nm 4) (.range2 (.lit (.int 1)) (.var 0)) (.cons (.ifS (.val (.cmp .lt (.bin false .add (.var 3) (.bin false .mul (.bin false .sub (.var 1) (.lit (.int 1))) (.var 4))) (.var 0))) (.cons (.expr (.yi .append false (.var 2) (.cons (.tup (.cons (.var 3) (.cons (.var 4) .nil))) .nil))) .nil) .nil) .nil)) .nil)) (.cons (.ret (.var 2)) .nil)))⟩
noncomputable def yk:Fn:=⟨["_law_pen_here","_law_many"],["_law_pen_here"],false,(.cons (.asg 1 (.ix (.lst false (.cons (.lit (.int 2)) (.cons (.lit (.int 2)) (.cons (.lit (.int 3)) (.cons (.lit (.int 1)) (.cons (.lit (.int 4)) (.cons (.lit (.int 2)) .nil))))))) (.call "_law_draw" 0 (.cons (.var 0) (.cons (.lit (.int 6)) .nil))))) (.cons (.ret (.blt .tuple false (.cons (.comp false ["_law_hue","_law_pen_here"] [none,some 0] (.ix (.lst false (.cons (.lit (.int 3)) (.cons (.lit (.int 3)) (.cons (.lit (.int 4)) (.cons (.lit (.int 2)) (.cons (.lit (.int 5)) (.cons (.lit (.int 3)) (.cons (.lit (.int 2)) (.cons (.lit (.int 8)) .nil))))))))) (.call "_law_draw" 0 (.cons (.var 1) (.cons (.lit (.int 8)) .nil)))) (.nm 0) (.range1 (.var 1)) .nil) .nil))) .nil))⟩
noncomputable def yZ:Fn:=⟨["sizes","draft","thing","now","reason"],["sizes","draft","thing"],false,(.cons (.expr (.call "need_draft" 0 (.cons (.var 0) (.cons (.var 1) .nil)))) (.cons (.ifS (.not (.val (.blt .isi false (.cons (.var 2) (.cons (.ty "list" "list") .nil))))) (.cons (.ret (.lit (.bool false))) .nil) .nil) (.cons (.asg 3 (.var 1)) (.cons (.forS (.nm 4) (.val (.var 2)) (.cons (.ifS (.not (.val (.call "is_reason" 0 (.cons (.var 0) (.cons (.var 3) (.cons (.var 4) .nil)))))) (.cons (.ret (.lit (.bool false))) .nil) .nil) (.cons (.asg 3 (.call "with_hue" 0 (.cons (.var 3) (.cons (.ix (.var 4) (.lit (.int 0))) (.cons (.ix (.var 4) (.lit (.int 1))) .nil))))) .nil))) (.cons (.ret (.lit (.bool true))) .nil)))))⟩
noncomputable def yK:Fn:=⟨["sizes","draft","place","hue","thing","other","row"],["sizes","draft","place","hue","thing"],false,(.cons (.ifS (.or (.not (.val (.blt .isi false (.cons (.var 4) (.cons (.ty "tuple" "tuple") .nil))))) (.cons (.val (.cmp .ne (.blt .len false (.cons (.var 4) .nil)) (.blt .len false (.cons (.var 0) .nil)))) .nil)) (.cons (.ret (.lit (.bool false))) .nil) .nil) (.cons (.forS (.nms [5,6]) (.enum (.var 4)) (.cons (.ifS (.and (.val (.cmp .eq (.var 5) (.var 3))) (.cons (.val (.cmp .isNot (.var 6) (.lit .none))) .nil)) (.cons (.ret (.lit (.bool false))) .nil) .nil) (.cons (.ifS (.and (.val (.cmp .ne (.var 5) (.var 3))) (.cons (.not (.val (.call "is_bar" 0 (.cons (.var 0) (.cons (.var 1) (.cons (.var 2) (.cons (.var 5) (.cons (.var 6) .nil)))))))) .nil)) (.cons (.ret (.lit (.bool false))) .nil) .nil) .nil))) (.cons (.ret (.lit (.bool true))) .nil)))⟩
noncomputable def xA:Fn:=⟨["thing"],["thing"],false,(.cons (.ret (.andE (.blt .isi false (.cons (.var 0) (.cons (.ty "tuple" "tuple") .nil))) (.cons (.chain .le .le (.lit (.int 1)) (.blt .len false (.cons (.var 0) .nil)) (.blt .len false (.cons (.gl "HUES") .nil))) (.cons (.call "are_wholes" 0 (.cons (.var 0) (.cons (.gl "LEAST_SIZE") (.cons (.gl "MOST_SIZE") .nil)))) .nil)))) .nil)⟩
noncomputable def ym:Fn:=⟨["things","least","most"],["things","least","most"],false,(.cons (.ret (.blt .all false (.cons (.comp false ["thing","least","most"] [none,some 1,some 2] (.call "is_whole" 0 (.cons (.var 0) (.cons (.var 1) (.cons (.var 2) .nil)))) (.nm 0) (.val (.var 0)) .nil) .nil))) .nil)⟩
noncomputable def yL:Fn:=⟨["sizes","draft","place","hue","put","size"],["sizes","draft","place","hue"],false,(.cons (.asg 4 (.call "with_hue" 0 (.cons (.var 1) (.cons (.var 2) (.cons (.var 3) .nil))))) (.cons (.asg 5 (.ix (.var 0) (.var 3))) (.cons (.ret (.comp false ["first","step","put","size"] [none,none,some 4,some 5] (.tup (.cons (.var 0) (.cons (.var 1) .nil))) (.nms [0,1]) (.val (.call "rows_at" 0 (.cons (.blt .len false (.cons (.var 1) .nil)) (.cons (.var 5) (.cons (.var 2) .nil))))) (.cons (.val (.call "is_one_hue" 0 (.cons (.var 2) (.cons (.var 0) (.cons (.var 1) (.cons (.var 3) .nil)))))) .nil))) .nil)))⟩
noncomputable def wV:Fn:=⟨["sizes","draft","place","hue","thing","is_row"],["sizes","draft","place","hue","thing"],false,(.cons (.asg 5 (.andE (.blt .isi false (.cons (.var 4) (.cons (.ty "tuple" "tuple") .nil))) (.cons (.call "are_wholes" 0 (.cons (.var 4) (.cons (.lit (.int 0)) (.cons (.gl "MOST_PLACES") .nil)))) .nil))) (.cons (.ret (.andE (.var 5) (.cons (.cmp .in_ (.var 4) (.call "barring_rows" 0 (.cons (.var 0) (.cons (.var 1) (.cons (.var 2) (.cons (.var 3) .nil)))))) .nil))) .nil))⟩
noncomputable def xS:Fn:=⟨["draft","thing"],["draft","thing"],false,(.cons (.ret (.andE (.call "is_whole" 0 (.cons (.var 1) (.cons (.lit (.int 0)) (.cons (.bin false .sub (.blt .len false (.cons (.var 0) .nil)) (.lit (.int 1))) .nil)))) (.cons (.cmp .eq (.ix (.var 0) (.var 1)) (.gl "BLANK")) .nil))) .nil)⟩
noncomputable def xT:Fn:=⟨["sizes","thing"],["sizes","thing"],false,(.cons (.expr (.call "need_sizes" 0 (.cons (.var 0) .nil))) (.cons (.ret (.andE (.blt .isi false (.cons (.var 1) (.cons (.ty "tuple" "tuple") .nil))) (.cons (.cmp .le (.blt .len false (.cons (.var 1) .nil)) (.gl "MOST_PLACES")) (.cons (.call "are_wholes" 0 (.cons (.var 1) (.cons (.gl "BLANK") (.cons (.bin false .sub (.blt .len false (.cons (.var 0) .nil)) (.lit (.int 1))) .nil)))) .nil)))) .nil))⟩
noncomputable def wW:Fn:=⟨["sizes","thing"],["sizes","thing"],false,(.cons (.ret (.call "is_whole" 0 (.cons (.var 1) (.cons (.lit (.int 0)) (.cons (.bin false .sub (.blt .len false (.cons (.var 0) .nil)) (.lit (.int 1))) .nil))))) .nil)⟩
noncomputable def yn:Fn:=⟨["hues","first","step","size"],["hues","first","step","size"],false,(.cons (.ret (.cmp .eq (.yi .count false (.sl false (.var 0) (.yes (.var 1)) (.yes (.bin false .add (.var 1) (.bin false .mul (.var 2) (.var 3)))) (.yes (.var 2))) (.cons (.ix (.var 0) (.var 1)) .nil)) (.var 3))) .nil)⟩
noncomputable def xB:Fn:=⟨["sizes","draft","thing","place","hue","rows"],["sizes","draft","thing"],false,(.cons (.ifS (.or (.not (.val (.blt .isi false (.cons (.var 2) (.cons (.ty "tuple" "tuple") .nil))))) (.cons (.val (.cmp .ne (.blt .len false (.cons (.var 2) .nil)) (.lit (.int 3)))) .nil)) (.cons (.ret (.lit (.bool false))) .nil) .nil) (.cons (.asgT [3,4,5] (.var 2)) (.cons (.ret (.andE (.call "is_blank" 0 (.cons (.var 1) (.cons (.var 3) .nil))) (.cons (.call "is_hue" 0 (.cons (.var 0) (.cons (.var 4) .nil))) (.cons (.call "are_rows_for" 0 (.cons (.var 0) (.cons (.var 1) (.cons (.var 3) (.cons (.var 4) (.cons (.var 5) .nil)))))) .nil)))) .nil)))⟩
noncomputable def xU:Fn:=⟨["thing","least","most"],["thing","least","most"],false,(.cons (.ret (.andE (.blt .isi false (.cons (.var 0) (.cons (.ty "int" "int") .nil))) (.cons (.not (.blt .isi false (.cons (.var 0) (.cons (.ty "bool" "bool") .nil)))) (.cons (.chain .le .le (.var 1) (.var 0) (.var 2)) .nil)))) .nil)⟩
noncomputable def xC:Fn:=⟨["length","first","size"],["length","first","size"],false,(.cons (.ret (.bin false .fdiv (.bin false .sub (.bin false .sub (.var 0) (.lit (.int 1))) (.var 1)) (.bin false .sub (.var 2) (.lit (.int 1))))) .nil)⟩
noncomputable def yo:Fn:=⟨["sizes","thing"],["sizes","thing"],false,(.cons (.ifS (.not (.val (.call "is_draft" 0 (.cons (.var 0) (.cons (.var 1) .nil))))) (.cons (.raise (.lit .none)) .nil) .nil) .nil)⟩
noncomputable def ya:Fn:=⟨["thing"],["thing"],false,(.cons (.expr (.call "need_whole" 0 (.cons (.var 0) (.cons (.lit (.int 0)) (.cons (.gl "MOST_PLACES") .nil))))) .nil)⟩
noncomputable def xD:Fn:=⟨["thing"],["thing"],false,(.cons (.expr (.call "need_whole" 0 (.cons (.var 0) (.cons (.gl "LEAST_SIZE") (.cons (.gl "MOST_SIZE") .nil))))) .nil)⟩
noncomputable def yp:Fn:=⟨["thing"],["thing"],false,(.cons (.ifS (.not (.val (.call "are_sizes" 0 (.cons (.var 0) .nil)))) (.cons (.raise (.lit .none)) .nil) .nil) .nil)⟩
noncomputable def yq:Fn:=⟨["thing","least","most"],["thing","least","most"],false,(.cons (.ifS (.not (.val (.call "is_whole" 0 (.cons (.var 0) (.cons (.var 1) (.cons (.var 2) .nil)))))) (.cons (.raise (.lit .none)) .nil) .nil) .nil)⟩
noncomputable def xy:Fn:=⟨["length","size","place","rows"],["length","size","place"],false,(.cons (.expr (.call "need_length" 0 (.cons (.var 0) .nil))) (.cons (.expr (.call "need_size" 0 (.cons (.var 1) .nil))) (.cons (.ifS (.not (.val (.call "is_whole" 0 (.cons (.var 2) (.cons (.lit (.int 0)) (.cons (.bin false .sub (.var 0) (.lit (.int 1))) .nil)))))) (.cons (.raise (.lit .none)) .nil) .nil) (.cons (.asg 3 (.comp2 false ["at","step","length","size","place"] [none,none,some 0,some 1,some 2] (.tup (.cons (.bin false .sub (.var 4) (.bin false .mul (.var 1) (.var 0))) (.cons (.var 1) .nil))) (.nm 0) (.range1 (.var 1)) .nil (.nm 1) (.range2 (.lit (.int 1)) (.bin false .add (.call "most_step" 0 (.cons (.var 2) (.cons (.lit (.int 0)) (.cons (.var 3) .nil)))) (.lit (.int 1)))) .nil)) (.cons (.ret (.blt .sorted false (.cons (.comp false ["first","step","length","size"] [none,none,some 0,some 1] (.tup (.cons (.var 0) (.cons (.var 1) .nil))) (.nms [0,1]) (.val (.var 3)) (.cons (.and (.val (.cmp .ge (.var 0) (.lit (.int 0)))) (.cons (.val (.cmp .lt (.bin false .add (.var 0) (.bin false .mul (.var 1) (.bin false .sub (.var 3) (.lit (.int 1))))) (.var 2))) .nil)) .nil)) .nil))) .nil)))))⟩
noncomputable def xV:Fn:=⟨["draft","place","hue"],["draft","place","hue"],false,(.cons (.ret (.bin false .add (.bin false .add (.sl false (.var 0) .no (.yes (.var 1)) .no) (.tup (.cons (.var 2) .nil))) (.sl false (.var 0) (.yes (.bin false .add (.var 1) (.lit (.int 1)))) .no .no))) .nil)⟩
end F
end
section
namespace M
open PySem L2
noncomputable def wI(n s f:Nat):List (Nat × Nat):=(List.range ((n-1-f)/(s-1))).map fun j=>(f,j+1)
noncomputable def xk(n s:Nat):List (Nat × Nat):=(List.range n).flatMap (wI n s)
theorem oz(n s f:Nat):(wI n s f).length=(n-1-f)/(s-1):=by unfold wI;rw[List.length_map,List.length_range]
theorem cG(n s f:Nat):(wI n s f).length≤n:=by
 rw[oz];have:=Nat.div_le_self (n-1-f) (s-1);omega
theorem lS(n s:Nat):∀i,((List.range i).flatMap (wI n s)).length≤i*n
 |0=>by simp
 |i+1=>by
  rw[List.range_succ,List.flatMap_append,List.length_append]
  have h1:=lS n s i
  have h2:=cG n s i
  have e:List.flatMap (wI n s) [i]=wI n s i:=by simp
  rw[e,Nat.succ_mul];omega
theorem vf{n s:Nat}{r:Nat × Nat}(hs:2≤s)(h:r∈xk n s):0<r.2∧r.1+r.2*(s-1)<n:=by
 unfold xk wI at h
 obtain⟨f,hf,h⟩:=List.mem_flatMap.mp h
 obtain⟨j,hj,rfl⟩:=List.mem_map.mp h
 rw[List.mem_range]at hf hj
 have:(j+1)*(s-1)≤n-1-f:=(Nat.le_div_iff_mul_le (by omega)).mp hj
 refine⟨Nat.succ_pos _,?_⟩
 show f+(j+1)*(s-1)<n
 omega
noncomputable def y0(ns:List Int)(f d s:Nat):Bool:=(List.range s).all fun k=>decide (ns[f+k*d]?=ns[f]?)
theorem eE{n f d s:Nat}(hd:0<d)(hs:1≤s)(h:f+d*(s-1)<n):yB n (some (f:Int)) (some ((f:Int)+(d:Int)*(s:Int))) (d:Int)=((f:Int),s):=by
 have hmul:d*s=d*(s-1)+d:=by rw[←Nat.mul_succ];congr 1;omega
 have e0:(d:Int)*(s:Int)=((d*s:Nat):Int):=(Int.natCast_mul d s).symm
 have e1:Builtin.Slice.sliceAdjust (some (f:Int)) (some ((f:Int)+(d:Int)*(s:Int))) (d:Int) (n:Int)=((f:Int),((min (f+d*s) n:Nat):Int)):=by
  rw[e0]
  unfold Builtin.Slice.sliceAdjust
  simp only[if_neg (show ¬(d:Int)<0 by omega),if_neg (show ¬(f:Int)<0 by omega),if_neg (show ¬((f:Int)+((d*s:Nat):Int))<0 by omega)]
  refine Prod.ext ?_ ?_
  . show min (f:Int) (n:Int)=f;omega
  . show min ((f:Int)+((d*s:Nat):Int)) (n:Int)=_;omega
 unfold yB
 rw[e1]
 refine Prod.ext rfl ?_
 show Builtin.Slice.slicePlaces (f:Int) ((min (f+d*s) n:Nat):Int) (d:Int)=s
 unfold Builtin.Slice.slicePlaces
 rw[if_pos (by omega),if_pos (by omega)]
 have e2:(((min (f+d*s) n:Nat):Int)-(f:Int)-1)=((min (f+d*s) n-f-1:Nat):Int):=by omega
 rw[e2,←Int.natCast_ediv]
 have e3:(min (f+d*s) n-f-1)/d=s-1:=by
  refine Nat.div_eq_of_lt_le ?_ ?_
  . rw[Nat.mul_comm];omega
  . have:(s-1+1)*d=d*s:=by rw[show s-1+1=s by omega,Nat.mul_comm]
    omega
 rw[e3];omega
theorem ic{α β:Type}{f:α→Option β}{g:α→β}:∀{l:List α},(∀x∈l,f x=some (g x))→l.filterMap f=l.map g
 |[],_=>rfl
 |x::l,h=>by rw[List.filterMap_cons,h x (List.mem_cons_self ..),List.map_cons,ic fun y hy=>h y (List.mem_cons_of_mem _ hy)]
theorem gu{ns:List Int}{f d s:Nat}(h:f+d*(s-1)<ns.length):zb ns (f:Int) (d:Int) s=(List.range s).map fun k=>ns.getD (f+k*d) 0:=by
 unfold zb
 refine ic fun k hk=>?_
 rw[List.mem_range]at hk
 have h1:k*d≤d*(s-1):=by rw[Nat.mul_comm];exact Nat.mul_le_mul_left d (by omega)
 have e:((f:Int)+(k:Int)*(d:Int)).toNat=f+k*d:=by
  rw[show (k:Int)*(d:Int)=((k*d:Nat):Int) from (Int.natCast_mul k d).symm];omega
 have hlt:f+k*d<ns.length:=by omega
 rw[e,List.getElem?_eq_getElem hlt]
 rw[List.getD_eq_getElem?_getD,List.getElem?_eq_getElem hlt];rfl
theorem dC{ns:List Int}{f d s:Nat}(h:f+d*(s-1)<ns.length):y0 ns f d s=true↔∀x∈(List.range s).map (fun k=>ns.getD (f+k*d) 0),x=ns.getD f 0:=by
 unfold y0
 rw[List.all_eq_true]
 constructor
 . intro h1 x hx
   obtain⟨k,hk,rfl⟩:=List.mem_map.mp hx
   have:=of_decide_eq_true (h1 k hk)
   rw[List.getD_eq_getElem?_getD,this,←List.getD_eq_getElem?_getD]
 . intro h1 k hk
   have:=h1 _ (List.mem_map.mpr ⟨k,hk,rfl⟩)
   rw[List.mem_range]at hk
   have h2:k*d≤d*(s-1):=by rw[Nat.mul_comm];exact Nat.mul_le_mul_left d (by omega)
   have hlt:f+k*d<ns.length:=by omega
   have hf:f<ns.length:=by omega
   rw[List.getD_eq_getElem?_getD,List.getD_eq_getElem?_getD,List.getElem?_eq_getElem hlt,List.getElem?_eq_getElem hf]at this
   refine decide_eq_true ?_
   rw[List.getElem?_eq_getElem hlt,List.getElem?_eq_getElem hf]
   exact congrArg some this
theorem lT(n s:Nat):∀i,i≤n→2*((List.range i).flatMap (wI n s)).length+i*i+i≤2*(i*n)
 |0,_=>by simp
 |i+1,hi=>by
  have h1:=lT n s i (by omega)
  rw[List.range_succ,List.flatMap_append,List.length_append]
  have e:List.flatMap (wI n s) [i]=wI n s i:=by simp
  have h2:(wI n s i).length≤n-1-i:=by rw[oz];exact Nat.div_le_self _ _
  rw[e]
  have e2:(i+1)*(i+1)=i*i+2*i+1:=by rw[Nat.add_mul,Nat.mul_add];omega
  have e3:(i+1)*n=i*n+n:=Nat.succ_mul i n
  rw[e2,e3];omega
theorem fH{n z:Nat}(h:n≤40):(xk n z).length≤800:=by
 have h1:=lT n z n (Nat.le_refl n)
 have h2:n*n≤40*n:=Nat.mul_le_mul_right n h
 unfold xk;omega
theorem aN{n z i j:Nat}(hi:i<n)(hz:2≤z):((0+(i:Int))+((z:Int)-1)*(1+(j:Int))<(n:Int))↔j<(n-1-i)/(z-1):=by
 have e:((z:Int)-1)*(1+(j:Int))=(((j+1)*(z-1):Nat):Int):=by
  rw[Int.natCast_mul,Int.mul_comm];congr 1<;>omega
 rw[e]
 have:(j+1)≤(n-1-i)/(z-1)↔(j+1)*(z-1)≤n-1-i:=Nat.le_div_iff_mul_le (by omega)
 omega
noncomputable def mS(n z:Nat):Nat:=(n-1)/(z-1)
noncomputable def allAt(n z p a:Nat):List (Int × Int):=(List.range (mS n z)).map fun j=>((p:Int)-((j+1:Nat):Int)*(a:Int),((j+1:Nat):Int))
noncomputable def allOf(n z p:Nat):List (Int × Int):=(List.range z).flatMap (allAt n z p)
noncomputable def inB(n z:Nat)(r:Int × Int):Bool:=decide (0≤r.1)&&decide (r.1+r.2*((z:Int)-1)<n)
noncomputable def oH(z p:Nat)(r:Nat × Nat):Bool:=(List.range z).any fun k=>decide (r.1+k*r.2=p)
noncomputable def atP(n z p:Nat):List (Nat × Nat):=(xk n z).filter (oH z p)
noncomputable def toI(r:Nat × Nat):Int × Int:=(r.1,r.2)
theorem kM(n z p a:Nat):(allAt n z p a).length=mS n z:=by unfold allAt;rw[List.length_map,List.length_range]
theorem iZ(n z p:Nat):∀i,((List.range i).flatMap (allAt n z p)).length=i*mS n z
 |0=>by simp
 |i+1=>by
  rw[List.range_succ,List.flatMap_append,List.length_append,iZ n z p i]
  have e:List.flatMap (allAt n z p) [i]=allAt n z p i:=by simp
  rw[e,kM,Nat.succ_mul]
theorem kN{n z p:Nat}(hn:n≤32)(hz:2≤z):(allOf n z p).length≤62:=by
 unfold allOf
 rw[iZ]
 have h1:mS n z*(z-1)≤n-1:=Nat.div_mul_le_self _ _
 have h2:mS n z≤n-1:=Nat.div_le_self _ _
 have e:z*mS n z=mS n z*(z-1)+mS n z:=by
  obtain⟨y,rfl⟩:∃y,z=y+1:=⟨z-1,by omega⟩
  rw[Nat.add_sub_cancel,Nat.mul_comm,Nat.mul_succ]
 omega
theorem pw(n z p:Nat):(allOf n z p).Nodup:=by
 unfold allOf List.Nodup
 rw[List.pairwise_flatMap]
 refine⟨fun a _=>?_,?_⟩
 . unfold allAt
   rw[List.pairwise_map]
   refine List.Pairwise.imp ?_ List.nodup_range
   intro i j hij e
   injection e with e1 e2
   omega
 . refine List.Pairwise.imp ?_ List.nodup_range
   intro a b hab x hx y hy e
   unfold allAt at hx hy
   obtain⟨i,_,rfl⟩:=List.mem_map.mp hx
   obtain⟨j,_,rfl⟩:=List.mem_map.mp hy
   injection e with e1 e2
   have eij:i=j:=by omega
   subst eij
   have e3:((i+1:Nat):Int)*(a:Int)=((i+1:Nat):Int)*(b:Int):=by omega
   rw[←Int.natCast_mul,←Int.natCast_mul]at e3
   have e4:(i+1)*a=(i+1)*b:=by exact_mod_cast e3
   exact hab (Nat.eq_of_mul_eq_mul_left (Nat.succ_pos i) e4)
theorem kO{n z p:Nat}(hn:n≤40):∀r∈allOf n z p,0≤r.2∧r.2<1000:=fun r hr=>by
 unfold allOf allAt at hr
 obtain⟨a,_,hr⟩:=List.mem_flatMap.mp hr
 obtain⟨j,hj,rfl⟩:=List.mem_map.mp hr
 have h2:mS n z≤n-1:=Nat.div_le_self _ _
 rw[List.mem_range]at hj
 refine⟨?_,?_⟩
 . show 0≤((j+1:Nat):Int);omega
 . show ((j+1:Nat):Int)<1000;omega
theorem sk{n z:Nat}(hz:2≤z){f d:Nat}:(f,d)∈xk n z↔0<d∧f+d*(z-1)<n:=by
 constructor
 . exact fun h=>vf hz h
 . rintro ⟨h1,h2⟩
   unfold xk wI
   refine List.mem_flatMap.mpr ⟨f,List.mem_range.mpr (by omega),List.mem_map.mpr ⟨d-1,List.mem_range.mpr ?_,?_⟩⟩
   . have:d≤(n-1-f)/(z-1):=(Nat.le_div_iff_mul_le (by omega)).mpr (by omega)
     omega
   . show (f,d-1+1)=(f,d)
     rw[show d-1+1=d by omega]
theorem fz{n z p:Nat}(hz:2≤z)(x:Int × Int):x∈(allOf n z p).filter (inB n z)↔x∈(atP n z p).map toI:=by
 constructor
 . intro h
   obtain⟨h1,h2⟩:=List.mem_filter.mp h
   unfold allOf allAt at h1
   obtain⟨a,ha,hr⟩:=List.mem_flatMap.mp h1
   obtain⟨j,hj,rfl⟩:=List.mem_map.mp hr
   rw[List.mem_range]at ha hj
   have hb:0≤(p:Int)-((j+1:Nat):Int)*(a:Int)∧(p:Int)-((j+1:Nat):Int)*(a:Int)+((j+1:Nat):Int)*((z:Int)-1)<n:=by
    have:=Bool.and_eq_true_iff.mp h2
    exact⟨of_decide_eq_true this.1,of_decide_eq_true this.2⟩
   have em:((j+1:Nat):Int)*(a:Int)=(((j+1)*a:Nat):Int):=(Int.natCast_mul _ _).symm
   have em2:((j+1:Nat):Int)*((z:Int)-1)=(((j+1)*(z-1):Nat):Int):=by
    rw[Int.natCast_mul];congr 1;omega
   rw[em,em2]at hb
   refine List.mem_map.mpr ⟨(p-(j+1)*a,j+1),List.mem_filter.mpr ⟨(sk hz).mpr ⟨by omega,by omega⟩,?_⟩,?_⟩
   . refine List.any_eq_true.mpr ⟨a,List.mem_range.mpr ha,decide_eq_true ?_⟩
     show p-(j+1)*a+a*(j+1)=p
     rw[Nat.mul_comm a];omega
   . show (((p-(j+1)*a:Nat):Int),((j+1:Nat):Int))=_
     rw[em]
     congr 1;omega
 . intro h
   obtain⟨⟨f,d⟩,h1,rfl⟩:=List.mem_map.mp h
   obtain⟨h2,h3⟩:=List.mem_filter.mp h1
   obtain⟨hd,hlt⟩:=(sk hz).mp h2
   obtain⟨k,hk,he⟩:=List.any_eq_true.mp h3
   rw[List.mem_range]at hk
   have he:f+k*d=p:=of_decide_eq_true he
   have hdm:d≤mS n z:=(Nat.le_div_iff_mul_le (by omega)).mpr (by omega)
   refine List.mem_filter.mpr ⟨List.mem_flatMap.mpr ⟨k,List.mem_range.mpr hk,List.mem_map.mpr ⟨d-1,List.mem_range.mpr (by omega),?_⟩⟩,?_⟩
   . show ((p:Int)-((d-1+1:Nat):Int)*(k:Int),((d-1+1:Nat):Int))=((f:Int),(d:Int))
     rw[show d-1+1=d by omega,←Int.natCast_mul,Nat.mul_comm d k]
     congr 1;omega
   . have em2:(d:Int)*((z:Int)-1)=((d*(z-1):Nat):Int):=by
      rw[Int.natCast_mul];congr 1;omega
     show (decide (0≤(f:Int))&&decide ((f:Int)+(d:Int)*((z:Int)-1)<n))=true
     rw[em2,decide_eq_true (by omega),decide_eq_true (by omega)];rfl
theorem mK{n z:Nat}(hn:n≤40):((xk n z).map toI).Pairwise (fun a b=>zo a<zo b):=by
 rw[List.pairwise_map]
 unfold xk
 rw[List.pairwise_flatMap]
 have lt40:∀{f j:Nat},j∈List.range ((n-1-f)/(z-1))→j<40:=fun{f j} hj=>by
  rw[List.mem_range]at hj
  have:=Nat.div_le_self (n-1-f) (z-1)
  omega
 refine⟨fun f _=>?_,?_⟩
 . unfold wI
   rw[List.pairwise_map]
   refine List.Pairwise.imp ?_ List.pairwise_lt_range
   intro i j hij
   show (f:Int)*1000+((i+1:Nat):Int)<(f:Int)*1000+((j+1:Nat):Int)
   omega
 . refine List.Pairwise.imp ?_ List.pairwise_lt_range
   intro f g hfg x hx y hy
   unfold wI at hx hy
   obtain⟨i,hi,rfl⟩:=List.mem_map.mp hx
   obtain⟨j,hj,rfl⟩:=List.mem_map.mp hy
   have:=lt40 hi
   have:=lt40 hj
   show (f:Int)*1000+((i+1:Nat):Int)<(g:Int)*1000+((j+1:Nat):Int)
   omega
theorem iH{n z p:Nat}(hn:n≤40):((atP n z p).map toI).Pairwise (fun a b=>zo a<zo b):=by
 have h:=mK (n:=n) (z:=z) hn
 rw[List.pairwise_map]at h ⊢
 exact h.filter _
theorem kQ{n z p:Nat}(hn:n≤40)(hz:2≤z){l:List (Int × Int)}(hp:l.Perm ((allOf n z p).filter (inB n z)))(hr:l.Pairwise (fun a b=>zo a<zo b)):l=(atP n z p).map toI:=
 uF hr (iH hn) fun x=>(hp.mem_iff).trans (fz hz x)
def Sz(zs:List Int):Prop:=1≤zs.length∧zs.length≤4∧∀x∈zs,2≤x∧x≤8
def Dr(zs ns:List Int):Prop:=ns.length≤32∧∀x∈ns,-1≤x∧x<zs.length
noncomputable def putL(ns:List Int)(p:Nat)(h:Int):List Int:=ns.take p++h::ns.drop (p+1)
theorem ot{ns:List Int}{p:Nat}{h:Int}(hp:p<ns.length):(putL ns p h).length=ns.length:=by
 unfold putL;rw[List.length_append,List.length_cons,List.length_take,List.length_drop];omega
noncomputable def xN(ns:List Int)(z p:Nat)(h:Int):List (Nat × Nat):=(atP ns.length z p).filter fun r=>y0 (putL ns p h) r.1 r.2 z
noncomputable def zd(zs:List Int)(h:Nat):Nat:=(zs.getD h 0).toNat
noncomputable def xt(zs ns:List Int)(p:Nat):List Nat:=(List.range zs.length).filter fun h=>(xN ns (zd zs h) p h).isEmpty
theorem wk{zs:List Int}(hz:Sz zs){h:Nat}(hh:h<zs.length):zs[h]?=some ((zd zs h:Nat):Int)∧2≤zd zs h∧zd zs h≤8:=by
 have e:zs.getD h 0=zs[h]:=by rw[List.getD_eq_getElem?_getD,List.getElem?_eq_getElem hh];rfl
 have:=hz.2.2 zs[h] (List.getElem_mem hh)
 unfold zd
 rw[e,List.getElem?_eq_getElem hh]
 refine⟨?_,by omega,by omega⟩
 congr 1;omega
noncomputable def xK(f d z:Nat):List Int:=(List.range z).map fun k=>((f+k*d:Nat):Int)
end M
end
section
namespace M
open PySem
def Out.post{α:Type}(o:Out α)(P:α→Sto→Prop):Prop:=∃a s,o=.ok a s∧P a s
theorem zD{α:Type}{a:α}{s:Sto}{P:α→Sto→Prop}:(Out.ok a s).post P↔P a s:=
 ⟨fun⟨_,_,e,h⟩=>(by cases e;exact h),fun h=>⟨a,s,rfl,h⟩⟩
theorem zI{α β:Type}{o:Out α}{f:α→Sto→Out β}{P:β→Sto→Prop}:(o.bind f).post P↔o.post fun a s=>(f a s).post P:=by
 cases o with
 |ok a s=>exact(zD (P:=fun a s=>(f a s).post P)).symm
 |exc c as s=>exact⟨fun⟨_,_,e,_⟩=>(by cases e),fun⟨_,_,e,_⟩=>(by cases e)⟩
 |stuck=>exact⟨fun⟨_,_,e,_⟩=>(by cases e),fun⟨_,_,e,_⟩=>(by cases e)⟩
theorem zJ{α:Type}{o:Out α}{P Q:α→Sto→Prop}(h:o.post P)(i:∀a s,P a s→Q a s):o.post Q:=by
 obtain⟨a,s,e,h⟩:=h
 exact⟨a,s,e,i a s h⟩
theorem zm{α:Type}{o:Out α}{P Q:α→Sto→Prop}(h:∀a s,P a s↔Q a s):o.post P↔o.post Q:=⟨fun k=>zJ k fun a s=>(h a s).mp,fun k=>zJ k fun a s=>(h a s).mpr⟩
theorem zW{α:Type}{P:α→Sto→Prop}:(Out.stuck:Out α).post P↔False:=⟨fun⟨_,_,e,_⟩=>(by cases e),False.elim⟩
theorem xM{α:Type}{c:Prop} [Decidable c] {a b:Out α}{P:α→Sto→Prop}:(if c then a else b).post P↔if c then a.post P else b.post P:=by split<;>exact Iff.rfl
theorem post_eq{α:Type}{o:Out α}{a:α}{s:Sto}:o=.ok a s↔o.post fun x t=>x=a∧t=s:=⟨fun h=>⟨a,s,h,rfl,rfl⟩,fun⟨_,_,h,e1,e2⟩=>(by rw[h,e1,e2])⟩
section
variable {Φ:Calls}{G:Str→Option Val}{env:Env}{s:Sto}
theorem XG{v:Val}{P:Val→Sto→Prop}:(evE Φ G env (.lit v) s).post P↔P v s:=zD
theorem gg{i:Nat}{P:Val→Sto→Prop}:(evE Φ G env (.var i) s).post P↔∃v,env[i]?=some (some v)∧P v s:=by
 show (match env[i]? with|some (some v)=>Out.ok v s|_=>.stuck).post P↔_
 split
 . rename_i v e
   refine zD.trans ⟨fun h=>⟨_,e,h⟩,fun⟨u,h1,h2⟩=>?_⟩
   rw[e]at h1;cases h1;exact h2
 . rename_i hn
   exact⟨fun⟨_,_,e,_⟩=>(by cases e),fun⟨u,h1,h2⟩=>absurd h1 (hn u)⟩
theorem XE{x:Str}{P:Val→Sto→Prop}:(evE Φ G env (.gl x) s).post P↔∃v,G x=some v∧P v s:=by
 show (match G x with|some v=>Out.ok v s|Option.none=>.stuck).post P↔_
 split
 . rename_i v e
   refine zD.trans ⟨fun h=>⟨_,e,h⟩,fun⟨u,h1,h2⟩=>?_⟩
   rw[e]at h1;cases h1;exact h2
 . rename_i e
   exact⟨fun⟨_,_,e,_⟩=>(by cases e),fun⟨u,h1,h2⟩=>(by rw[e]at h1;cases h1)⟩
theorem WR{x:Str}{n:String}{P:Val→Sto→Prop}:(evE Φ G env (.ty x n) s).post P↔P (.ty n) s:=zD
theorem bQ{m:Bool}{op:Bop}{a b:Ex}{P:Val→Sto→Prop}:(evE Φ G env (.bin m op a b) s).post P↔(evE Φ G env a s).post fun x s1=>(evE Φ G env b s1).post fun y s2=>(binOp m op x y s2).post P:=by
 show (Out.bind _ _).post P↔_
 simp only[zI]
theorem XI{a:Ex}{P:Val→Sto→Prop}:(evE Φ G env (.neg a) s).post P↔(evE Φ G env a s).post fun x s1=>∃i,x=.int i∧P (.int (-i)) s1:=by
 show (Out.bind _ _).post P↔_
 simp only[zI]
 exact zm fun x s1=>by cases x<;>simp[zD,zW]
theorem XJ{a:Ex}{P:Val→Sto→Prop}:(evE Φ G env (.not a) s).post P↔(evE Φ G env a s).post fun x s1=>∃b,x=.bool b∧P (.bool !b) s1:=by
 show (Out.bind _ _).post P↔_
 simp only[zI]
 exact zm fun x s1=>by cases x<;>simp[zD,zW]
theorem XC{op:Cop}{a b:Ex}{P:Val→Sto→Prop}:(evE Φ G env (.cmp op a b) s).post P↔(evE Φ G env a s).post fun x s1=>(evE Φ G env b s1).post fun y s2=>(zT op x y s2).post P:=by
 show (Out.bind _ _).post P↔_
 simp only[zI]
theorem dN{op op':Cop}{a b c:Ex}{P:Val→Sto→Prop}:(evE Φ G env (.chain op op' a b c) s).post P↔(evE Φ G env a s).post fun x s1=>(evE Φ G env b s1).post fun y s2=>(zT op x y s2).post fun r s3=>∃t,r=.bool t∧if t=true then (evE Φ G env c s3).post fun z s4=>(zT op' y z s4).post P else P (.bool false) s3:=by
 show (Out.bind _ _).post P↔_
 simp only[zI]
 refine zm fun x s1=>zm fun y s2=>zm fun r s3=>?_
 cases r with
 |bool t=>cases t<;>simp[zD,zW,zI]
 |_=>simp[zW]
theorem Y9{a b:Ex}{es:Exs}{P:Val→Sto→Prop}:(evE Φ G env (.andE a (.cons b es)) s).post P↔(evE Φ G env a s).post fun x s1=>∃t,x=.bool t∧if t=true then (tS Φ G env (.cons b es) s1).post P else P (.bool false) s1:=by
 show (Out.bind _ _).post P↔_
 simp only[zI]
 refine zm fun x s1=>?_
 cases x with
 |bool t=>cases t<;>simp[zD,zW]
 |_=>simp[zW]
theorem ZY{a:Ex}{P:Val→Sto→Prop}:(tS Φ G env (.cons a .nil) s).post P↔(evE Φ G env a s).post P:=Iff.rfl
theorem ZZ{a b:Ex}{es:Exs}{P:Val→Sto→Prop}:(tS Φ G env (.cons a (.cons b es)) s).post P↔(evE Φ G env a s).post fun x s1=>∃t,x=.bool t∧if t=true then (tS Φ G env (.cons b es) s1).post P else P (.bool false) s1:=by
 show ((evE Φ G env a s).bind fun x s1=>match x with
  |.bool true=>tS Φ G env (.cons b es) s1
  |.bool false=>.ok (.bool false) s1
  |_=>.stuck).post P↔_
 simp only[zI]
 refine zm fun x s1=>?_
 cases x with
 |bool t=>cases t<;>simp[zD,zW]
 |_=>simp[zW]
theorem WO{a b:Ex}{es:Exs}{P:Val→Sto→Prop}:(evE Φ G env (.orE a (.cons b es)) s).post P↔(evE Φ G env a s).post fun x s1=>∃t,truth s1 x=some t∧if t=true then P x s1 else (oD Φ G env (.cons b es) s1).post P:=by
 show (Out.bind _ _).post P↔_
 simp only[zI]
 refine zm fun x s1=>?_
 cases truth s1 x with
 |some t=>cases t<;>simp[zD,zW]
 |none=>simp[zW]
theorem XM{a:Ex}{P:Val→Sto→Prop}:(oD Φ G env (.cons a .nil) s).post P↔(evE Φ G env a s).post P:=Iff.rfl
theorem XN{a b:Ex}{es:Exs}{P:Val→Sto→Prop}:(oD Φ G env (.cons a (.cons b es)) s).post P↔(evE Φ G env a s).post fun x s1=>∃t,truth s1 x=some t∧if t=true then P x s1 else (oD Φ G env (.cons b es) s1).post P:=by
 show ((evE Φ G env a s).bind fun x s1=>match truth s1 x with
  |some false=>oD Φ G env (.cons b es) s1
  |some true=>.ok x s1
  |Option.none=>.stuck).post P↔_
 simp only[zI]
 refine zm fun x s1=>?_
 cases truth s1 x with
 |some t=>cases t<;>simp[zD,zW]
 |none=>simp[zW]
theorem XF{c:Cn}{a b:Ex}{P:Val→Sto→Prop}:(evE Φ G env (.ife c a b) s).post P↔(evT Φ G env c s).post fun t s1=>if t=true then (evE Φ G env a s1).post P else (evE Φ G env b s1).post P:=by
 show (Out.bind _ _).post P↔_
 simp only[zI,xM]
theorem XQ{es:Exs}{P:Val→Sto→Prop}:(evE Φ G env (.tup es) s).post P↔(yr Φ G env es s).post fun vs s1=>(if vs.length≤zP then Out.ok (Val.tup vs) s1 else .stuck).post P:=by
 show (Out.bind _ _).post P↔_
 simp only[zI]
theorem XH{m:Bool}{es:Exs}{P:Val→Sto→Prop}:(evE Φ G env (.lst m es) s).post P↔(yr Φ G env es s).post fun vs s1=>(if vs.length≤zP then newList m vs s1 else .stuck).post P:=by
 show (Out.bind _ _).post P↔_
 simp only[zI]
theorem Za{f:Str}{v:Nat}{es:Exs}{P:Val→Sto→Prop}:(evE Φ G env (.call f v es) s).post P↔(yr Φ G env es s).post fun vs s1=>(Φ f v vs s1).post P:=by
 show (Out.bind _ _).post P↔_
 simp only[zI]
theorem XA{f:Bf}{m:Bool}{es:Exs}{P:Val→Sto→Prop}:(evE Φ G env (.blt f m es) s).post P↔(yr Φ G env es s).post fun vs s1=>(blt f m vs s1).post P:=by
 show (Out.bind _ _).post P↔_
 simp only[zI]
theorem Ze{f:Mf}{m:Bool}{o:Ex}{es:Exs}{P:Val→Sto→Prop}:(evE Φ G env (.yi f m o es) s).post P↔(evE Φ G env o s).post fun x s1=>(yr Φ G env es s1).post fun vs s2=>(yi f x vs s2).post P:=by
 show (Out.bind _ _).post P↔_
 simp only[zI]
theorem gY{m:Bool}{a b c:Ex}{P:Val→Sto→Prop}:(evE Φ G env (.listRange m a b c) s).post P↔(evE Φ G env a s).post fun x s1=>(evE Φ G env b s1).post fun y s2=>(evE Φ G env c s2).post fun z s3=>(Yx m x y z s3).post P:=by
 show (Out.bind _ _).post P↔_
 simp only[zI]
theorem WN{a b:Ex}{P:Val→Sto→Prop}:(evE Φ G env (.ix a b) s).post P↔(evE Φ G env a s).post fun x s1=>(evE Φ G env b s1).post fun y s2=>(xw x y s2).post P:=by
 show (Out.bind _ _).post P↔_
 simp only[zI]
theorem WQ{m:Bool}{a:Ex}{lo hi st:OEx}{P:Val→Sto→Prop}:(evE Φ G env (.sl m a lo hi st) s).post P↔(evE Φ G env a s).post fun x s1=>(evO Φ G env lo s1).post fun l s2=>(evO Φ G env hi s2).post fun h s3=>(evO Φ G env st s3).post fun c s4=>(wU m x l h c s4).post P:=by
 show (Out.bind _ _).post P↔_
 simp only[zI]
theorem Zf{P:Option Int→Sto→Prop}:(evO Φ G env .no s).post P↔P none s:=zD
theorem Zg{e:Ex}{P:Option Int→Sto→Prop}:(evO Φ G env (.yes e) s).post P↔(evE Φ G env e s).post fun v s1=>∃i,v=.int i∧P (some i) s1:=by
 show (Out.bind _ _).post P↔_
 simp only[zI]
 exact zm fun x s1=>by cases x<;>simp[zD,zW]
theorem gZ{P:List Val→Sto→Prop}:(yr Φ G env .nil s).post P↔P [] s:=zD
theorem rB{e:Ex}{es:Exs}{P:List Val→Sto→Prop}:(yr Φ G env (.cons e es) s).post P↔(evE Φ G env e s).post fun v s1=>(yr Φ G env es s1).post fun vs s2=>P (v::vs) s2:=by
 show (Out.bind _ _).post P↔_
 simp only[zI,zD]
theorem bS{e:Ex}{P:Bool→Sto→Prop}:(evT Φ G env (.val e) s).post P↔(evE Φ G env e s).post fun v s1=>∃b,truth s1 v=some b∧P b s1:=by
 show (Out.bind (evE Φ G env e s) _).post P↔_
 simp only[zI]
 refine⟨fun h=>zJ h fun v s1 h=>?_,fun h=>zJ h fun v s1 h=>?_⟩
 . split at h
   . rename_i b e;exact⟨b,e,zD.mp h⟩
   . obtain⟨_,_,e,_⟩:=h;cases e
 . obtain⟨b,e,h⟩:=h
   rw[e];exact zD.mpr h
theorem Zk{c:Cn}{P:Bool→Sto→Prop}:(evT Φ G env (.not c) s).post P↔(evT Φ G env c s).post fun b s1=>P (!b) s1:=by
 show (Out.bind _ _).post P↔_
 simp only[zI,zD]
theorem Zj{c:Cn}{cs:Cns}{P:Bool→Sto→Prop}:(evT Φ G env (.and c cs) s).post P↔(evT Φ G env c s).post fun b s1=>if b=true then (yu Φ G env cs s1).post P else P false s1:=by
 show (Out.bind _ _).post P↔_
 simp only[zI,xM,zD]
theorem XO{c:Cn}{cs:Cns}{P:Bool→Sto→Prop}:(evT Φ G env (.or c cs) s).post P↔(evT Φ G env c s).post fun b s1=>if b=true then P true s1 else (tZ Φ G env cs s1).post P:=by
 show (Out.bind _ _).post P↔_
 simp only[zI,xM,zD]
theorem uZ{P:Bool→Sto→Prop}:(yu Φ G env .nil s).post P↔P true s:=zD
theorem dQ{P:Bool→Sto→Prop}:(tZ Φ G env .nil s).post P↔P false s:=zD
theorem gf{c:Cn}{cs:Cns}{P:Bool→Sto→Prop}:(yu Φ G env (.cons c cs) s).post P↔(evT Φ G env c s).post fun b s1=>if b=true then (yu Φ G env cs s1).post P else P false s1:=by
 show (Out.bind _ _).post P↔_
 simp only[zI,xM,zD]
theorem gc{c:Cn}{cs:Cns}{P:Bool→Sto→Prop}:(tZ Φ G env (.cons c cs) s).post P↔(evT Φ G env c s).post fun b s1=>if b=true then P true s1 else (tZ Φ G env cs s1).post P:=by
 show (Out.bind _ _).post P↔_
 simp only[zI,xM,zD]
theorem gX{e:Ex}{P:Src→Sto→Prop}:(yT Φ G env (.val e) s).post P↔(evE Φ G env e s).post fun v s1=>∃r,srcOf s1 v=some r∧P r s1:=by
 show (Out.bind _ _).post P↔_
 simp only[zI]
 refine⟨fun h=>zJ h fun v s1 h=>?_,fun h=>zJ h fun v s1 h=>?_⟩
 . split at h
   . rename_i b e;exact⟨b,e,zD.mp h⟩
   . obtain⟨_,_,e,_⟩:=h;cases e
 . obtain⟨b,e,h⟩:=h
   rw[e];exact zD.mpr h
theorem oW{a:Ex}{P:Src→Sto→Prop}:(yT Φ G env (.range1 a) s).post P↔(evE Φ G env a s).post fun x s1=>∃j,x=.int j∧(-(2 ^ 62)≤j∧j≤zP)∧P ⟨zi 0 j.toNat,Option.none⟩ s1:=by
 show (Out.bind _ _).post P↔_
 simp only[zI]
 refine⟨fun h=>zJ h fun v s1 h=>?_,fun h=>zJ h fun v s1 h=>?_⟩
 . split at h
   . rw[xM]at h
     split at h
     . rename_i j z;exact⟨_,rfl,z,zD.mp h⟩
     . obtain⟨_,_,e,_⟩:=h;cases e
   . obtain⟨_,_,e,_⟩:=h;cases e
 . obtain⟨j,rfl,z,h⟩:=h
   simp only[if_pos z]
   exact zD.mpr h
theorem oX{a b:Ex}{P:Src→Sto→Prop}:(yT Φ G env (.range2 a b) s).post P↔(evE Φ G env a s).post fun x s1=>(evE Φ G env b s1).post fun y s2=>∃i j,x=.int i∧y=.int j∧(-(2 ^ 62)≤i∧i<2 ^ 62∧-(2 ^ 62)≤j∧j<2 ^ 62∧j-i≤zP)∧P ⟨zi i (j-i).toNat,Option.none⟩ s2:=by
 show (Out.bind _ _).post P↔_
 simp only[zI]
 refine⟨fun h=>zJ h fun v s1 h=>zJ h fun w s2 h=>?_,fun h=>zJ h fun v s1 h=>zJ h fun w s2 h=>?_⟩
 . split at h
   . rw[xM]at h
     split at h
     . rename_i z;exact⟨_,_,rfl,rfl,z,zD.mp h⟩
     . obtain⟨_,_,e,_⟩:=h;cases e
   . obtain⟨_,_,e,_⟩:=h;cases e
 . obtain⟨i,j,rfl,rfl,z,h⟩:=h
   simp only[if_pos z]
   exact zD.mpr h
theorem Zc{a:Ex}{P:Src→Sto→Prop}:(yT Φ G env (.enum a) s).post P↔(evE Φ G env a s).post fun x s1=>∃vs,(x=.tup vs∨x=.lst vs)∧P ⟨yC 0 vs,Option.none⟩ s1:=by
 show (Out.bind _ _).post P↔_
 simp only[zI]
 refine⟨fun h=>zJ h fun v s1 h=>?_,fun h=>zJ h fun v s1 h=>?_⟩
 . split at h
   . exact⟨_,.inl rfl,zD.mp h⟩
   . exact⟨_,.inr rfl,zD.mp h⟩
   . obtain⟨_,_,e,_⟩:=h;cases e
 . obtain⟨j,rfl|rfl,h⟩:=h<;>exact zD.mpr h
theorem gW{e:Ex}{P:Fl→Sto→Prop}:(exS Φ G env (.expr e) s).post P↔(evE Φ G env e s).post fun _ s1=>P (.nx env) s1:=by
 show (Out.bind _ _).post P↔_
 simp only[zI,zD]
theorem bR{e:Ex}{P:Fl→Sto→Prop}:(exS Φ G env (.ret e) s).post P↔(evE Φ G env e s).post fun v s1=>P (.rt v) s1:=by
 show (Out.bind _ _).post P↔_
 simp only[zI,zD]
theorem Zi{P:Fl→Sto→Prop}:(exS Φ G env .retN s).post P↔P (.rt .none) s:=zD
theorem gU{i:Nat}{e:Ex}{P:Fl→Sto→Prop}:(exS Φ G env (.asg i e) s).post P↔(evE Φ G env e s).post fun v s1=>P (.nx (env.set i (some v))) s1:=by
 show (Out.bind _ _).post P↔_
 simp only[zI,zD]
theorem gV{is:List Nat}{e:Ex}{P:Fl→Sto→Prop}:(exS Φ G env (.asgT is e) s).post P↔(evE Φ G env e s).post fun v s1=>∃env',yS (.nms is) v env=some env'∧P (.nx env') s1:=by
 show (Out.bind _ _).post P↔_
 simp only[zI]
 refine⟨fun h=>zJ h fun v s1 h=>?_,fun h=>zJ h fun v s1 h=>?_⟩
 . split at h
   . rename_i b e;exact⟨b,e,zD.mp h⟩
   . obtain⟨_,_,e,_⟩:=h;cases e
 . obtain⟨b,e,h⟩:=h
   rw[e];exact zD.mpr h
theorem gb{is:List Nat}{es:Exs}{P:Fl→Sto→Prop}:(exS Φ G env (.par is es) s).post P↔(yr Φ G env es s).post fun vs s1=>(if vs.length=is.length then Out.ok (Fl.nx ((is.zip vs).foldl (fun e p=>e.set p.1 (some p.2)) env)) s1 else .stuck).post P:=by
 show (Out.bind _ _).post P↔_
 simp only[zI]
theorem dP{o i e:Ex}{P:Fl→Sto→Prop}:(exS Φ G env (.setIx o i e) s).post P↔(evE Φ G env e s).post fun v s1=>(evE Φ G env o s1).post fun x s2=>(evE Φ G env i s2).post fun y s3=>∃r k vs j,x=.ref r∧y=.int k∧s3[r]?=some (.lst vs)∧L2.ixN vs.length k=some j∧P (.nx env) (upd s3 r (vs.set j v)):=by
 show (Out.bind _ _).post P↔_
 simp only[zI]
 refine zm fun v s1=>zm fun x s2=>zm fun y s3=>⟨fun h=>?_,fun⟨r,k,vs,j,h1,h2,h3,h4,h5⟩=>?_⟩
 . split at h
   . split at h
     . rename_i e3
       split at h
       . rename_i e4;exact⟨_,_,_,_,rfl,rfl,e3,e4,zD.mp h⟩
       . exact(zW.mp h).elim
     . exact(zW.mp h).elim
   . exact(zW.mp h).elim
 . subst h1;subst h2
   simp only[h3,h4]
   exact zD.mpr h5
theorem Zd{c:Cn}{a b:Sms}{P:Fl→Sto→Prop}:(exS Φ G env (.ifS c a b) s).post P↔(evT Φ G env c s).post fun t s1=>if t=true then (zZ Φ G env a s1).post P else (zZ Φ G env b s1).post P:=by
 show (Out.bind _ _).post P↔_
 simp only[zI,xM]
theorem Zh{P:Fl→Sto→Prop}:(exS Φ G env .pass s).post P↔P (.nx env) s:=zD
theorem XB{P:Fl→Sto→Prop}:(exS Φ G env .brk s).post P↔P (.bk env) s:=zD
theorem Zb{P:Fl→Sto→Prop}:(exS Φ G env .cont s).post P↔P (.ct env) s:=zD
theorem mC{P:Fl→Sto→Prop}:(zZ Φ G env .nil s).post P↔P (.nx env) s:=zD
noncomputable def rL(Φ:Calls)(G:Str→Option Val)(cs:Sms)(P:Fl→Sto→Prop):Fl→Sto→Prop
 |.nx e,s1=>(zZ Φ G e cs s1).post P
 |fl,s1=>P fl s1
theorem zh{c:Sm}{cs:Sms}{P:Fl→Sto→Prop}:(zZ Φ G env (.cons c cs) s).post P↔(exS Φ G env c s).post (rL Φ G cs P):=by
 show (Out.bind _ _).post P↔_
 simp only[zI]
 have:∀fl s1,(match fl with|.nx e=>zZ Φ G e cs s1|fl=>Out.ok fl s1:Out Fl).post P↔rL Φ G cs P fl s1:=fun fl s1=>by
  cases fl with
  |nx e=>exact Iff.rfl
  |_=>exact zD
 exact⟨fun h=>zJ h fun fl s1 h=>(this fl s1).mp h,fun h=>zJ h fun fl s1 h=>(this fl s1).mpr h⟩
theorem bC{cs:Sms}{P:Fl→Sto→Prop}{e:Env}:rL Φ G cs P (.nx e) s↔(zZ Φ G e cs s).post P:=Iff.rfl
theorem bD{cs:Sms}{P:Fl→Sto→Prop}{v:Val}:rL Φ G cs P (.rt v) s↔P (.rt v) s:=Iff.rfl
theorem bA{cs:Sms}{P:Fl→Sto→Prop}{v:Env}:rL Φ G cs P (.bk v) s↔P (.bk v) s:=Iff.rfl
theorem bB{cs:Sms}{P:Fl→Sto→Prop}{v:Env}:rL Φ G cs P (.ct v) s↔P (.ct v) s:=Iff.rfl
theorem w5{I:Env→Prop}{g:Val→List Val}{r:Src}{t:Tgt}{body:Env→Sto→List Val→Out (List Val × Env)}(hr:r.ok s=true):∀(xs:List Val),(∀x∈xs,∀e acc,I e→∃e1 e2,yS t x e=some e1∧body e1 s acc=.ok (acc++g x,e2) s∧I e2)→∀e acc,I e→∃e',I e'∧yV r t body xs e s acc=.ok (acc++xs.flatMap g,e') s
 |[],_,e,acc,h0=>⟨e,h0,by simp[yV,hr]⟩
 |x::xs,h,e,acc,h0=>by
  obtain⟨e1,e2,h1,h2,h3⟩:=h x (.head _) e acc h0
  obtain⟨e',h4,h5⟩:=w5 hr xs (fun y hy=>h y (.tail _ hy)) e2 (acc++g x) h3
  refine⟨e',h4,?_⟩
  simp only[yV,hr,if_true,h1,h2,zR,h5,List.flatMap_cons,List.append_assoc]
theorem rA{m:Bool}{N:List Str}{fr:List (Option Nat)}{elt:Ex}{t:Tgt}{it:Itb}{ifs:Cns}{P:Val→Sto→Prop}(I:Env→Prop)(g:Val→List Val)
 (h:(yT Φ G env it s).post fun r s1=>r.ok s1=true∧I (zG fr env)∧(∀x∈r.xs,∀e,I e→∃e1,yS t x e=some e1∧I e1∧(yu Φ G e1 ifs s1).post fun b s2=>s2=s1∧if b=true then (evE Φ G e1 elt s1).post (fun v s2=>s2=s1∧g x=[v]) else g x=[])∧(newList m (r.xs.flatMap g) s1).post P) :
 (evE Φ G env (.comp m N fr elt t it ifs) s).post P:=by
 obtain⟨r,s1,ei,h1,h2,h3,h4⟩:=h
 obtain⟨e',_,h5⟩:=w5 (I:=I) (g:=g) (body:=fun e s' acc=>(yu Φ G e ifs s').bind fun b s2=>if b then (evE Φ G e elt s2).bind fun v s3=>.ok (acc++[v],e) s3 else .ok (acc,e) s2) h1 r.xs (fun x hx e acc he=>by
  obtain⟨e1,k1,k2,b,s2,k3,rfl,k4⟩:=h3 x hx e he
  refine⟨e1,e1,k1,?_,k2⟩
  rw[k3,zR]
  cases b with
  |true=>
   rw[if_pos rfl]at k4 ⊢
   obtain⟨v,s3,kw,rfl,kv⟩:=k4
   rw[kw,zR,kv]
  |false=>
   rw[if_neg Bool.false_ne_true]at k4 ⊢
   rw[k4,List.append_nil]) (zG fr env) [] h2
 show (Out.bind (yT Φ G env it s) _).post P
 rw[ei,zR]
 rw[h5,zR]
 exact h4
def Small(l:List Val):Prop:=l.length≤zP
theorem dO{m:Bool}{N:List Str}{fr:List (Option Nat)}{elt:Ex}{t t2:Tgt}{it it2:Itb}{ifs ifs2:Cns}{P:Val→Sto→Prop}(I:Env→Prop)(g:Val→List Val)(J:Val→Env→Prop)(g2:Val→Val→List Val)
 (h:(yT Φ G env it s).post fun r s1=>r.ok s1=true∧I (zG fr env)∧(∀x∈r.xs,∀e,I e→∃e1,yS t x e=some e1∧(yu Φ G e1 ifs s1).post fun b s2=>s2=s1∧if b=true then (yT Φ G e1 it2 s1).post (fun r2 s2=>s2=s1∧r2.ok s1=true∧J x e1∧(∀e,J x e→I e)∧g x=r2.xs.flatMap (g2 x)∧∀y∈r2.xs,∀e,J x e→∃e2,yS t2 y e=some e2∧J x e2∧(yu Φ G e2 ifs2 s1).post fun b s2=>s2=s1∧if b=true then (evE Φ G e2 elt s1).post (fun v s2=>s2=s1∧g2 x y=[v]) else g2 x y=[]) else g x=[]∧I e1)∧Small (r.xs.flatMap g)∧(newList m (r.xs.flatMap g) s1).post P) :
 (evE Φ G env (.comp2 m N fr elt t it ifs t2 it2 ifs2) s).post P:=by
 obtain⟨r,s1,ei,h1,h2,h3,hl,h4⟩:=h
 obtain⟨e',_,h5⟩:=w5 (I:=I) (g:=g) (body:=fun e s' acc=>(yu Φ G e ifs s').bind fun b s2=>if b then (yT Φ G e it2 s2).bind fun r2 s3=>
        yV r2 t2 (fun e' s4 acc'=>(yu Φ G e' ifs2 s4).bind fun b' s5=>if b' then (evE Φ G e' elt s5).bind fun v s6=>.ok (acc'++[v],e') s6 else .ok (acc',e') s5) r2.xs e s3 acc
  else .ok (acc,e) s2) h1 r.xs (fun x hx e acc he=>by
  obtain⟨e1,k1,b,s2,k3,rfl,k4⟩:=h3 x hx e he
  cases b with
  |true=>
   rw[if_pos rfl]at k4
   obtain⟨r2,s3,k5,rfl,k6,k7,k8,k9,k10⟩:=k4
   obtain⟨e2,k11,k12⟩:=w5 (I:=J x) (g:=g2 x) (body:=fun e' s4 acc'=>(yu Φ G e' ifs2 s4).bind fun b' s5=>if b' then (evE Φ G e' elt s5).bind fun v s6=>.ok (acc'++[v],e') s6 else .ok (acc',e') s5) k6 r2.xs (fun y hy e acc he=>by
    obtain⟨e1,k1,k2,b,s2,k3,rfl,k4⟩:=k10 y hy e he
    refine⟨e1,e1,k1,?_,k2⟩
    rw[k3,zR]
    cases b with
    |true=>
     rw[if_pos rfl]at k4 ⊢
     obtain⟨v,s3,kw,rfl,kv⟩:=k4
     rw[kw,zR,kv]
    |false=>
     rw[if_neg Bool.false_ne_true]at k4 ⊢
     rw[k4,List.append_nil]) e1 acc k7
   refine⟨e1,e2,k1,?_,k8 _ k11⟩
   rw[k3,zR,if_pos rfl,k5,zR,k12,k9]
  |false=>
   rw[if_neg Bool.false_ne_true]at k4
   refine⟨e1,e1,k1,?_,k4.2⟩
   rw[k3,zR,if_neg Bool.false_ne_true,k4.1,List.append_nil]) (zG fr env) [] h2
 show (Out.bind (yT Φ G env it s) _).post P
 rw[ei,zR]
 rw[h5,zR]
 simp only[List.nil_append]
 rw[if_pos (show (r.xs.flatMap g).length≤zP from hl)]
 exact h4
theorem qO(Q:List Val→Env→Sto→List Val→Prop){r:Src}{t:Tgt}{body:Env→Sto→List Val→Out (List Val × Env)}:∀(xs:List Val),(∀e s acc,Q [] e s acc→r.ok s=true)→(∀x rest e s acc,Q (x::rest) e s acc→r.ok s=true∧∃e1,yS t x e=some e1∧(body e1 s acc).post fun p s2=>Q rest p.2 s2 p.1)→∀e s acc,Q xs e s acc→(yV r t body xs e s acc).post fun p s2=>Q [] p.2 s2 p.1
 |[],h0,_,e,s,acc,q=>by
  simp only[yV,h0 e s acc q,if_true]
  exact zD.mpr q
 |x::xs,h0,h,e,s,acc,q=>by
  obtain⟨h1,e1,h2,h3⟩:=h x xs e s acc q
  simp only[yV,h1,if_true,h2,zI]
  exact zJ h3 fun p s2 q=>qO Q xs h0 h p.2 s2 p.1 q
theorem pK{m:Bool}{N:List Str}{fr:List (Option Nat)}{elt:Ex}{t:Tgt}{it:Itb}{ifs:Cns}{P:Val→Sto→Prop}(Q:List Val→Env→Sto→List Val→Prop)
 (h:(yT Φ G env it s).post fun r s1=>Q r.xs (zG fr env) s1 []∧(∀rest e s acc,Q rest e s acc→r.ok s=true)∧(∀x rest e s acc,Q (x::rest) e s acc→∃e1,yS t x e=some e1∧(yu Φ G e1 ifs s).post fun b s2=>if b=true then (evE Φ G e1 elt s2).post (fun v s3=>Q rest e1 s3 (acc++[v])) else Q rest e1 s2 acc)∧∀e s acc,Q [] e s acc→(newList m acc s).post P) :
 (evE Φ G env (.comp m N fr elt t it ifs) s).post P:=by
 obtain⟨r,s1,ei,h1,h2,h3,h4⟩:=h
 show (Out.bind (yT Φ G env it s) _).post P
 rw[ei,zR,zI]
 refine zJ (qO Q r.xs (fun e s acc q=>h2 _ e s acc q) (fun x rest e s acc q=>⟨h2 _ e s acc q,?_⟩) _ _ _ h1) fun p s2 q=>h4 _ _ _ q
 obtain⟨e1,k1,k2⟩:=h3 x rest e s acc q
 refine⟨e1,k1,?_⟩
 simp only[zI]
 refine zJ k2 fun b s2 k=>?_
 cases b with
 |true=>
  rw[if_pos rfl]at k ⊢
  simp only[zI,zD]
  exact k
 |false=>
  rw[if_neg Bool.false_ne_true]at k ⊢
  exact zD.mpr k
theorem tD(Q:List Val→Env→Sto→Prop)(R:Fl→Sto→Prop){r:Src}{t:Tgt}{body:Env→Sto→Out Fl}(h0:∀e s,Q [] e s→R (.nx e) s):∀(xs:List Val),(∀rest e s,Q rest e s→r.ok s=true)→(∀x rest e s,Q (x::rest) e s→∃e1,yS t x e=some e1∧(body e1 s).post fun fl s2=>match fl with|.nx e=>Q rest e s2|.ct e=>Q rest e s2|.bk e=>R (.nx e) s2|.rt v=>R (.rt v) s2)→∀e s,Q xs e s→(vF r t body xs e s).post R
 |[],hk,_,e,s,q=>by
  simp only[vF,hk _ _ _ q,if_true]
  exact zD.mpr (h0 _ _ q)
 |x::xs,hk,h,e,s,q=>by
  obtain⟨e1,h2,h3⟩:=h x xs e s q
  simp only[vF,hk _ _ _ q,if_true,h2,zI]
  refine zJ h3 fun fl s2 q=>?_
  cases fl with
  |nx e=>exact tD Q R h0 xs hk h e s2 q
  |ct e=>exact tD Q R h0 xs hk h e s2 q
  |bk e=>exact zD.mpr q
  |rt v=>exact zD.mpr q
noncomputable def tW(Q:Env→Sto→Prop)(R:Fl→Sto→Prop):Fl→Sto→Prop
 |.nx e,s=>Q e s
 |.ct e,s=>Q e s
 |.bk e,s=>R (.nx e) s
 |.rt v,s=>R (.rt v) s
theorem cm{Q:Env→Sto→Prop}{R:Fl→Sto→Prop}{e:Env}:tW Q R (.nx e) s↔Q e s:=Iff.rfl
theorem cj{Q:Env→Sto→Prop}{R:Fl→Sto→Prop}{e:Env}:tW Q R (.ct e) s↔Q e s:=Iff.rfl
theorem cg{Q:Env→Sto→Prop}{R:Fl→Sto→Prop}{e:Env}:tW Q R (.bk e) s↔R (.nx e) s:=Iff.rfl
theorem cq{Q:Env→Sto→Prop}{R:Fl→Sto→Prop}{v:Val}:tW Q R (.rt v) s↔R (.rt v) s:=Iff.rfl
theorem XD{t:Tgt}{it:Itb}{b:Sms}{R:Fl→Sto→Prop}(Q:List Val→Env→Sto→Prop)
 (h:(yT Φ G env it s).post fun r s1=>Q r.xs env s1∧(∀rest e s,Q rest e s→r.ok s=true)∧(∀x rest e s,Q (x::rest) e s→∃e1,yS t x e=some e1∧(zZ Φ G e1 b s).post (tW (Q rest) R))∧∀e s,Q [] e s→R (.nx e) s) :
 (exS Φ G env (.forS t it b) s).post R:=by
 obtain⟨r,s1,ei,h1,h2,h3,h4⟩:=h
 show (Out.bind (yT Φ G env it s) _).post R
 rw[ei,zR]
 refine tD Q R h4 r.xs h2 (fun x rest e s q=>?_) _ _ h1
 obtain⟨e1,k1,k2⟩:=h3 x rest e s q
 refine⟨e1,k1,zJ k2 fun fl s2 k=>?_⟩
 cases fl<;>exact k
theorem y4{t:Tgt}{it:Itb}{b:Sms}{R:Fl→Sto→Prop}(Q:List Val→Env→Sto→Prop)(xs:List Val){s1:Sto}(hi:yT Φ G env it s=.ok ⟨xs,Option.none⟩ s1)(h0:Q xs env s1)
 (h1:∀x rest e s,Q (x::rest) e s→∃e1,yS t x e=some e1∧(zZ Φ G e1 b s).post (tW (Q rest) R)) (h2:∀e s,Q [] e s→R (.nx e) s) :
 (exS Φ G env (.forS t it b) s).post R:=XD Q ⟨_,_,hi,h0,fun _ _ _ _=>rfl,h1,h2⟩
theorem vi{m:Bool}{N:List Str}{fr:List (Option Nat)}{elt:Ex}{t:Tgt}{it:Itb}{ifs:Cns}{P:Val→Sto→Prop}(I:Env→Prop)(g:Val→List Val)(xs:List Val){s1:Sto}(hi:yT Φ G env it s=.ok ⟨xs,Option.none⟩ s1)(h0:I (zG fr env))
 (h1:∀x∈xs,∀e,I e→∃e1,yS t x e=some e1∧I e1∧(yu Φ G e1 ifs s1).post fun b s2=>s2=s1∧if b=true then (evE Φ G e1 elt s1).post (fun v s2=>s2=s1∧g x=[v]) else g x=[]) (h2:(newList m (xs.flatMap g) s1).post P) :
 (evE Φ G env (.comp m N fr elt t it ifs) s).post P:=rA I g ⟨_,_,hi,rfl,h0,h1,h2⟩
theorem kz(Q:Nat→Env→Sto→Prop)(R:Fl→Sto→Prop){c:Env→Sto→Out Bool}{body:Env→Sto→Out Fl}:∀(n k:Nat),n<k→(∀n e s,Q n e s→(c e s).post fun b s1=>if b=true then (body e s1).post (tW (fun e s=>∃m,m<n∧Q m e s) R) else R (.nx e) s1)→∀e s,Q n e s→(vO c body k e s).post R:=by
 intro n
 induction n using Nat.strongRecOn with
 |ind n ih=>
  intro k hk h e s q
  cases k with
  |zero=>omega
  |succ k=>
   simp only[vO,zI]
   refine zJ (h n e s q) fun b s1 z=>?_
   cases b with
   |true=>
    rw[if_pos rfl]at z ⊢
    simp only[zI]
    refine zJ z fun fl s2 z=>?_
    cases fl with
    |nx e=>
     obtain⟨m,h1,h2⟩:=z
     exact ih m h1 k (by omega) h e s2 h2
    |ct e=>
     obtain⟨m,h1,h2⟩:=z
     exact ih m h1 k (by omega) h e s2 h2
    |bk e=>exact zD.mpr z
    |rt v=>exact zD.mpr z
   |false=>
    rw[if_neg Bool.false_ne_true]at z ⊢
    exact zD.mpr z
theorem dS{c:Cn}{b:Sms}{R:Fl→Sto→Prop}(n:Nat)(Q:Nat→Env→Sto→Prop)(hn:n<pq)(q:Q n env s)
 (h:∀n e s,Q n e s→(evT Φ G e c s).post fun t s1=>if t=true then (zZ Φ G e b s1).post (tW (fun e s=>∃m,m<n∧Q m e s) R) else R (.nx e) s1) :
 (exS Φ G env (.whileS c b) s).post R:=kz Q R n pq hn h env s q
end
theorem kE{s:Sto}:truth s .none=some false:=rfl
theorem zF{s:Sto}{b:Bool}:truth s (.bool b)=some b:=rfl
theorem YE{s:Sto}{i:Int}:truth s (.int i)=some (i != 0):=rfl
theorem fV{s:Sto}{vs:List Val}:truth s (.tup vs)=some !vs.isEmpty:=rfl
theorem YF{s:Sto}{vs:List Val}:truth s (.lst vs)=some !vs.isEmpty:=rfl
theorem Z5{s:Sto}{vs:List Val}:srcOf s (.tup vs)=some ⟨vs,Option.none⟩:=rfl
theorem Z4{s:Sto}{vs:List Val}:srcOf s (.lst vs)=some ⟨vs,Option.none⟩:=rfl
theorem cY{s:Sto}{ns:List Int}:srcOf s (.ctup ns)=some ⟨ns.map .int,Option.none⟩:=rfl
theorem fP{s:Sto}{xs:List Val}:Src.ok ⟨xs,Option.none⟩ s=true:=rfl
theorem YU{i:Nat}{v:Val}{env:Env}:yS (.nm i) v env=some (env.set i (some v)):=rfl
theorem aB{is:List Nat}{vs:List Val}{env:Env}:yS (.nms is) (.tup vs) env=if vs.length=is.length then some ((is.zip vs).foldl (fun e p=>e.set p.1 (some p.2)) env) else Option.none:=rfl
mutual
theorem f9:∀v:Val,v.beq v=true
 |.none=>rfl|.bool b=>by simp[Val.beq]|.int i=>by simp[Val.beq]|.str x=>by simp[Val.beq]|.dct0=>rfl
 |.tup vs=>by simp[Val.beq,vJ vs]|.lst vs=>by simp[Val.beq,vJ vs]
 |.ctup _=>by simp[Val.beq]|.scr _=>by simp[Val.beq]|.ref _=>by simp[Val.beq]|.fn _=>by simp[Val.beq]|.ty _=>by simp[Val.beq]
theorem vJ:∀vs:List Val,qi vs vs=true
 |[]=>rfl
 |v::vs=>by simp[qi,f9 v,vJ vs]
end
theorem vh:∀(s t:Sto),wC s (s++t)=true
 |[],_=>rfl
 |.lst vs::r,t=>by simp[wC,Cel.beq,vJ vs,vh r t]
theorem ny(s:Sto):wC s s=true:=by have:=vh s [];rwa [List.append_nil]at this
theorem qS:∀(s t:Sto) (i:Nat) (vs:List Val),zj vs=true→wC s (s.set i (.lst vs)++t)=true
 |[],_,_,_,_=>by simp[wC]
 |.lst ws::r,t,0,vs,h=>by simp[wC,Cel.noRef,h,vh r t]
 |.lst ws::r,t,i+1,vs,h=>by simp[wC,Cel.beq,vJ ws,qS r t i vs h]
theorem sA:Val.none.noRef=true:=by rw[Val.noRef]
theorem yd{b:Bool}:(Val.bool b).noRef=true:=by rw[Val.noRef]
theorem vQ{b:Int}:(Val.int b).noRef=true:=by rw[Val.noRef]
theorem gR{b:Str}:(Val.str b).noRef=true:=by rw[Val.noRef]
theorem v9{vs:List Val}:(Val.tup vs).noRef=zj vs:=by rw[Val.noRef]
theorem nv{vs:List Val}:(Val.lst vs).noRef=zj vs:=by rw[Val.noRef]
theorem vg:zj []=true:=by rw[zj]
theorem yx{v:Val}{vs:List Val}:zj (v::vs)=(v.noRef&&zj vs):=by rw[zj]
theorem wM:∀ns:List Int,zj (ns.map .int)=true
 |[]=>rfl
 |_::ns=>by simp[zj,Val.noRef,wM ns]
theorem w9:∀zs:List (Int × Int),zj (zs.map prV)=true
 |[]=>rfl
 |_::zs=>by simp[zj,Val.noRef,prV,w9 zs]
noncomputable def zY(k:Bool)(s0:Sto)(v:Val)(s:Sto):Out Val:=
 if k then .ok v s
 else if wC s0 s then (match freeze s0.length s v with|some v'=>.ok v' (s.take s0.length)|Option.none=>.stuck) else .stuck
theorem oJ{s0 s:Sto}{v:Val}:zY true s0 v s=.ok v s:=rfl
theorem zg{k:Bool}{s:Sto}{v:Val}(h:v.noRef=true):zY k s v s=.ok v s:=by
 unfold zY
 cases k
 . simp[ny,freeze,h]
 . rfl
theorem sg{s t:Sto}{v:Val}{i:Nat}{vs:List Val}(h:v.noRef=true)(hv:zj vs=true):zY false s v (s.set i (.lst vs)++t)=.ok v (s.set i (.lst vs)):=by
 unfold zY
 have e:s.length=(s.set i (.lst vs)).length:=by rw[List.length_set]
 simp only[qS s t i vs hv,freeze,h,if_true,Bool.false_eq_true,if_false,e,List.take_left']
theorem kx{s:Sto}{v:Val}{i:Nat}{vs:List Val}(h:v.noRef=true)(hv:zj vs=true):zY false s v (s.set i (.lst vs))=.ok v (s.set i (.lst vs)):=by
 have:=sg (s:=s) (t:=[]) (i:=i) h hv
 rwa [List.append_nil]at this
theorem sd{s t:Sto}{vs:List Val}{i:Nat}(hi:i ≥ s.length)(hl:(s++t)[i]?=some (.lst vs))(h:zj vs=true):zY false s (.ref i) (s++t)=.ok (.lst vs) s:=by
 unfold zY
 have:¬i<s.length:=by omega
 simp[vh,freeze,Val.noRef,uU,this,hl,h]
noncomputable def fin(k:Bool)(s:Sto)(P:Val→Sto→Prop):Fl→Sto→Prop
 |.nx _,s1=>(zY k s .none s1).post P
 |.rt v,s1=>(zY k s v s1).post P
 |_,_=>False
theorem aI{k:Bool}{s s1:Sto}{P:Val→Sto→Prop}{e:Env}:fin k s P (.nx e) s1↔(zY k s .none s1).post P:=Iff.rfl
theorem aJ{k:Bool}{s s1:Sto}{P:Val→Sto→Prop}{v:Val}:fin k s P (.rt v) s1↔(zY k s v s1).post P:=Iff.rfl
theorem xP{T:Tbl}{Φ:Calls}{N ps:List Str}{k:Bool}{b:Sms}{vs:List Val}{s:Sto}{P:Val→Sto→Prop}:(run T Φ ⟨N,ps,k,b⟩ vs s).post P↔vs.length=ps.length∧(zZ Φ T.gl (zK N vs) b s).post (fin k s P):=by
 unfold run
 by_cases hl:vs.length=ps.length
 . rw[if_pos hl,zI]
   refine⟨fun h=>⟨hl,zJ h fun fl s1 h=>?_⟩,fun h=>zJ h.2 fun fl s1 h=>?_⟩
   . cases fl<;>first|exact h|exact(zW.mp h).elim
   . cases fl<;>first|exact h|exact h.elim
 . rw[if_neg hl]
   exact⟨fun h=>(zW.mp h).elim,fun h=>absurd h.1 hl⟩
theorem zQ{T:Tbl}{n:Nat}{f:Str}{v:Nat}{F:Fn}(h:T.fn f v=some F)(vs:List Val)(s:Sto):zH T (n+1) f v vs s=run T (zH T n) F vs s:=by
 show (match T.fn f v with|some F=>run T (zH T n) F vs s|Option.none=>.stuck)=_
 rw[h]
def At(T:Tbl)(k:Nat)(C:Calls→Prop):Prop:=∀n,k≤n→C (zH T n)
noncomputable def EVl:=And.intro @XG <| And.intro @gg <| And.intro @XE <| And.intro @WR <| And.intro @bQ <| And.intro @XI <| And.intro @XJ <| And.intro @XC <| And.intro @dN <| And.intro @Y9 <| And.intro @ZY <| And.intro @ZZ <| And.intro @WO <| And.intro @XM <| And.intro @XN <| And.intro @XF <| And.intro @XQ <| And.intro @XH <| And.intro @Za <| And.intro @XA <| And.intro @Ze <| And.intro @gY <| And.intro @WN <| And.intro @WQ <| And.intro @Zf <| And.intro @Zg <| And.intro @gZ <| And.intro @rB <| And.intro @bS <| And.intro @Zk <| And.intro @Zj <| And.intro @XO <| And.intro @uZ <| And.intro @dQ <| And.intro @gf <| And.intro @gc <| And.intro @gX <| And.intro @oW <| And.intro @oX <| And.intro @Zc <| And.intro @gW <| And.intro @bR <| And.intro @Zi <| And.intro @gU <| And.intro @gV <| And.intro @gb <| And.intro @dP <| And.intro @Zd <| And.intro @Zh <| And.intro @XB <| And.intro @Zb <| And.intro @mC <| And.intro @zh <| And.intro @bC <| And.intro @bD <| And.intro @bA <| And.intro @bB <| And.intro @cm <| And.intro @cj <| And.intro @cg <| And.intro @cq <| And.intro @zD <| And.intro @xM <| And.intro @zW <| And.intro @kE <| And.intro @zF <| And.intro @YE <| And.intro @fV <| And.intro @YF <| And.intro @Z5 <| And.intro @Z4 <| And.intro @cY <| And.intro @fP <| And.intro @YU <| And.intro @aB <| And.intro @xP <| And.intro @aI <| And.intro @aJ <| And.intro @oJ <| And.intro @zg <| And.intro @sA <| And.intro @yd <| And.intro @vQ <| And.intro @gR <| And.intro @v9 <| And.intro @nv <| And.intro @vg <| And.intro @yx <| And.intro @wM <| @w9
end M
end
section
namespace M
open PySem
theorem bnd{α β:Type}{o:Out α}{a:α}{s:Sto}{f:α→Sto→Out β}{r:Out β}(h:o=.ok a s)(k:f a s=r):o.bind f=r:=by rw[h];exact k
section
variable {Φ:Calls}{G:Str→Option Val}{env:Env}{s s1 s2 s3 s4:Sto}
theorem zE{v:Val}:evE Φ G env (.lit v) s=.ok v s:=rfl
theorem zB{i:Nat}{v:Val}(h:env[i]?=some (some v)):evE Φ G env (.var i) s=.ok v s:=post_eq.mpr (gg.mpr ⟨v,h,rfl,rfl⟩)
theorem yw{x:Str}{n:String}:evE Φ G env (.ty x n) s=.ok (.ty n) s:=rfl
theorem rP{a b:Ex}{r:Out Val}(h1:evE Φ G env a s=.ok (.bool true) s1)(h2:evE Φ G env b s1=r):evE Φ G env (.andE a (.cons b .nil)) s=r:=bnd h1 h2
theorem YK{x:Str}{v:Val}(h:G x=some v):evE Φ G env (.gl x) s=.ok v s:=post_eq.mpr (XE.mpr ⟨v,h,rfl,rfl⟩)
theorem uG{a b:Ex}{es:Exs}(h1:evE Φ G env a s=.ok (.bool false) s1):evE Φ G env (.andE a (.cons b es)) s=.ok (.bool false) s1:=bnd h1 rfl
theorem fh{a b c:Ex}{es:Exs}(h1:evE Φ G env a s=.ok (.bool true) s1)(h2:evE Φ G env b s1=.ok (.bool false) s2):evE Φ G env (.andE a (.cons b (.cons c es))) s=.ok (.bool false) s2:=bnd h1 (show (evE Φ G env b s1).bind _=_ from bnd h2 rfl)
theorem fj{a b c:Ex}{r:Out Val}(h1:evE Φ G env a s=.ok (.bool true) s1)(h2:evE Φ G env b s1=.ok (.bool true) s2)(h3:evE Φ G env c s2=r):evE Φ G env (.andE a (.cons b (.cons c .nil))) s=r:=bnd h1 (show (evE Φ G env b s1).bind _=_ from bnd h2 h3)
theorem wH{a:Ex}{i:Int}(h:evE Φ G env a s=.ok (.int i) s1):evE Φ G env (.neg a) s=.ok (.int (-i)) s1:=bnd h rfl
theorem zw{m:Bool}{op:Bop}{a b:Ex}{x y:Val}{r:Out Val}(h1:evE Φ G env a s=.ok x s1)(h2:evE Φ G env b s1=.ok y s2)(h3:binOp m op x y s2=r):evE Φ G env (.bin m op a b) s=r:=bnd h1 (bnd h2 h3)
theorem zf{op:Cop}{a b:Ex}{x y:Val}{r:Out Val}(h1:evE Φ G env a s=.ok x s1)(h2:evE Φ G env b s1=.ok y s2)(h3:zT op x y s2=r):evE Φ G env (.cmp op a b) s=r:=bnd h1 (bnd h2 h3)
theorem xO{a b:Ex}{x y:Val}{r:Out Val}(h1:evE Φ G env a s=.ok x s1)(h2:evE Φ G env b s1=.ok y s2)(h3:xw x y s2=r):evE Φ G env (.ix a b) s=r:=bnd h1 (bnd h2 h3)
theorem we:evO Φ G env .no s=.ok none s:=rfl
theorem vq{e:Ex}{i:Int}(h:evE Φ G env e s=.ok (.int i) s1):evO Φ G env (.yes e) s=.ok (some i) s1:=bnd h rfl
theorem rk{m:Bool}{a:Ex}{lo hi st:OEx}{x:Val}{l h c:Option Int}{r:Out Val}(h0:evE Φ G env a s=.ok x s1)(h1:evO Φ G env lo s1=.ok l s2)(h2:evO Φ G env hi s2=.ok h s3)(h3:evO Φ G env st s3=.ok c s4)(h4:wU m x l h c s4=r):evE Φ G env (.sl m a lo hi st) s=r:=bnd h0 (bnd h1 (bnd h2 (bnd h3 h4)))
theorem zC:yr Φ G env .nil s=.ok [] s:=rfl
theorem zA{e:Ex}{es:Exs}{v:Val}{vs:List Val}(h1:evE Φ G env e s=.ok v s1)(h2:yr Φ G env es s1=.ok vs s2):yr Φ G env (.cons e es) s=.ok (v::vs) s2:=bnd h1 (bnd h2 rfl)
theorem lx{e:Ex}{es:Exs}{v:Val}{P:List Val→Sto→Prop}(h:evE Φ G env e s=.ok v s1)(k:(yr Φ G env es s1).post fun vs s2=>P (v::vs) s2):(yr Φ G env (.cons e es) s).post P:=rB.mpr (by rw[h];exact zD.mpr k)
theorem z7{es:Exs}{vs:List Val}(h:yr Φ G env es s=.ok vs s1)(hl:vs.length≤zP):evE Φ G env (.tup es) s=.ok (.tup vs) s1:=bnd h (if_pos hl)
theorem wO{es:Exs}{vs:List Val}(h:yr Φ G env es s=.ok vs s1)(hl:vs.length≤zP):evE Φ G env (.lst false es) s=.ok (.lst vs) s1:=bnd h (if_pos hl)
theorem zU{f:Bf}{m:Bool}{es:Exs}{vs:List Val}{r:Out Val}(h:yr Φ G env es s=.ok vs s1)(k:blt f m vs s1=r):evE Φ G env (.blt f m es) s=r:=bnd h k
theorem x_call{f:Str}{v:Nat}{es:Exs}{vs:List Val}{r:Out Val}(h:yr Φ G env es s=.ok vs s1)(k:Φ f v vs s1=r):evE Φ G env (.call f v es) s=r:=bnd h k
theorem xc{f:Str}{v:Nat}{es:Exs}{vs:List Val}{P:Val→Sto→Prop}(h:yr Φ G env es s=.ok vs s1)(k:(Φ f v vs s1).post P):(evE Φ G env (.call f v es) s).post P:=by rw[x_call h rfl];exact k
theorem ye{i:Nat}{e:Ex}{cs:Sms}{v:Val}{P:Fl→Sto→Prop}(h:evE Φ G env e s=.ok v s1)(k:(zZ Φ G (env.set i (some v)) cs s1).post P):(zZ Φ G env (.cons (.asg i e) cs) s).post P:=zh.mpr (gU.mpr (by rw[h];exact zD.mpr k))
theorem vU{i:Nat}{e:Ex}{cs:Sms}{P:Fl→Sto→Prop}(h:(evE Φ G env e s).post fun v s1=>(zZ Φ G (env.set i (some v)) cs s1).post P):(zZ Φ G env (.cons (.asg i e) cs) s).post P:=zh.mpr (gU.mpr h)
theorem vD{e:Ex}{cs:Sms}{v:Val}{P:Fl→Sto→Prop}(h:evE Φ G env e s=.ok v s1)(k:(zZ Φ G env cs s1).post P):(zZ Φ G env (.cons (.expr e) cs) s).post P:=zh.mpr (gW.mpr (by rw[h];exact zD.mpr k))
theorem zX{e:Ex}{cs:Sms}{v:Val}{P:Fl→Sto→Prop}(h:evE Φ G env e s=.ok v s1)(k:P (.rt v) s1):(zZ Φ G env (.cons (.ret e) cs) s).post P:=zh.mpr (bR.mpr (by rw[h];exact zD.mpr k))
theorem u7{e:Ex}{v:Val}{xs:List Val}(h:evE Φ G env e s=.ok v s1)(k:srcOf s1 v=some ⟨xs,none⟩):yT Φ G env (.val e) s=.ok ⟨xs,none⟩ s1:=post_eq.mpr (gX.mpr (by rw[h];exact zD.mpr ⟨_,k,rfl,rfl⟩))
theorem zO{e:Ex}{v:Val}{b:Bool}(h:evE Φ G env e s=.ok v s1)(k:truth s1 v=some b):evT Φ G env (.val e) s=.ok b s1:=post_eq.mpr (bS.mpr (by rw[h];exact zD.mpr ⟨_,k,rfl,rfl⟩))
theorem ze{c:Cn}{b:Bool}(h:evT Φ G env c s=.ok b s1):evT Φ G env (.not c) s=.ok (!b) s1:=bnd h rfl
theorem vG{c:Cn}{cs:Cns}{b:Bool}(h:evT Φ G env c s=.ok false s1)(k:tZ Φ G env cs s1=.ok b s2):evT Φ G env (.or c cs) s=.ok b s2:=bnd h k
theorem vE:tZ Φ G env .nil s=.ok false s:=rfl
theorem yQ{c:Cn}{cs:Cns}{b:Bool}(h:evT Φ G env c s=.ok false s1)(k:tZ Φ G env cs s1=.ok b s2):tZ Φ G env (.cons c cs) s=.ok b s2:=bnd h k
theorem rJ{c:Cn}{cs:Cns}(h:evT Φ G env c s=.ok true s1):evT Φ G env (.or c cs) s=.ok true s1:=bnd h rfl
theorem yy{c:Cn}{cs:Cns}(h:evT Φ G env c s=.ok true s1):tZ Φ G env (.cons c cs) s=.ok true s1:=bnd h rfl
theorem yH{c:Cn}{a cs:Sms}{P:Fl→Sto→Prop}(h:evT Φ G env c s=.ok false s1)(k:(zZ Φ G env cs s1).post P):(zZ Φ G env (.cons (.ifS c a .nil) cs) s).post P:=zh.mpr (Zd.mpr (by rw[h];refine zD.mpr ?_;rw[if_neg Bool.false_ne_true];exact mC.mpr k))
theorem yI{c:Cn}{a b cs:Sms}{P:Fl→Sto→Prop}(h:evT Φ G env c s=.ok true s1)(k:(zZ Φ G env a s1).post (rL Φ G cs P)):(zZ Φ G env (.cons (.ifS c a b) cs) s).post P:=zh.mpr (Zd.mpr (by rw[h];refine zD.mpr ?_;rw[if_pos rfl];exact k))
theorem Xr{J:Env→Sto→Prop}{c:Cn}{a cs:Sms}{b:Bool}{P:Fl→Sto→Prop}(h:evT Φ G env c s=.ok b s1)(k1:b=true→(zZ Φ G env a s1).post fun fl s2=>∃e,fl=.nx e∧J e s2)(k0:b=false→J env s1)(k:∀e s2,J e s2→(zZ Φ G e cs s2).post P):(zZ Φ G env (.cons (.ifS c a .nil) cs) s).post P:=by
 cases b with
 |true=>exact yI h (zJ (k1 rfl) fun fl s2 ⟨e,he,j⟩=>by subst he;exact k e s2 j)
 |false=>exact yH h (k env s1 (k0 rfl))
theorem lb{e:Ex}{vs:List Val}(h:evE Φ G env e s=.ok (.tup vs) s1):yT Φ G env (.enum e) s=.ok ⟨yC 0 vs,none⟩ s1:=bnd h rfl
theorem kJ{a:Ex}{b:Bool}(h:evE Φ G env a s=.ok (.bool b) s1):evE Φ G env (.not a) s=.ok (.bool !b) s1:=bnd h rfl
theorem YM{c:Cn}{a b:Ex}{r:Out Val}(h:evT Φ G env c s=.ok true s1)(k:evE Φ G env a s1=r):evE Φ G env (.ife c a b) s=r:=bnd h k
theorem YL{c:Cn}{a b:Ex}{r:Out Val}(h:evT Φ G env c s=.ok false s1)(k:evE Φ G env b s1=r):evE Φ G env (.ife c a b) s=r:=bnd h k
theorem yt{P:Fl→Sto→Prop}(k:P (.nx env) s):(zZ Φ G env .nil s).post P:=mC.mpr k
theorem ly{is:List Nat}{vs:List Val}{P:Fl→Sto→Prop}(hl:vs.length=is.length)(k:P (.nx ((is.zip vs).foldl (fun e p=>e.set p.1 (some p.2)) env)) s):(if vs.length=is.length then Out.ok (Fl.nx ((is.zip vs).foldl (fun e p=>e.set p.1 (some p.2)) env)) s else .stuck).post P:=by
 rw[if_pos hl];exact zD.mpr k
theorem ir{e:Ex}{k:Nat}(h:evE Φ G env e s=.ok (.int (k:Int)) s1)(hk:k≤zP):yT Φ G env (.range1 e) s=.ok ⟨zi 0 k,none⟩ s1:=by
 rw[post_eq]
 refine oW.mpr ?_
 rw[h]
 exact zD.mpr ⟨_,rfl,⟨by omega,by omega⟩,by rw[Int.toNat_natCast],rfl⟩
theorem lg{a b:Ex}{i j:Nat}(h:evE Φ G env a s=.ok (.int (i:Int)) s1)(h':evE Φ G env b s1=.ok (.int (j:Int)) s2)(hi:i≤1000)(hj:j≤1000):yT Φ G env (.range2 a b) s=.ok ⟨zi i (j-i),none⟩ s2:=by
 rw[post_eq]
 refine oX.mpr ?_
 rw[h]
 refine zD.mpr ?_
 rw[h']
 exact zD.mpr ⟨_,_,rfl,rfl,⟨by omega,by omega,by omega,by omega,by unfold zP;omega⟩,by congr 2;omega,rfl⟩
theorem md{c d:Cn}{a b:Bool}(h:evT Φ G env c s=.ok a s)(k:evT Φ G env d s=.ok b s):evT Φ G env (.and c (.cons d .nil)) s=.ok (a&&b) s:=bnd h (by
 cases a with
 |false=>rfl
 |true=>exact bnd k (by cases b<;>rfl))
theorem fY{c:Cn}{b:Bool}(h:evT Φ G env c s=.ok b s):yu Φ G env (.cons c .nil) s=.ok b s:=bnd h (by cases b<;>rfl)
end
end M
end
section
namespace M
open PySem
noncomputable def zl(l m:Int):Val→Bool
 |.int i=>decide (l≤i)&&decide (i≤m)
 |_=>false
theorem x6{l m i:Int}(h1:l≤i)(h2:i≤m):zl l m (.int i)=true:=by simp[zl,h1,h2]
def ur(Φ:Calls):Prop:=∀(v:Val) (l m:Int) (s:Sto),kindOf v≠none→Φ "is_whole" 0 [v,.int l,.int m] s=.ok (.bool (zl l m v)) s
def tw(Φ:Calls):Prop:=∀(vs:List Val) (l m:Int) (s:Sto),(∀v∈vs,kindOf v≠none)→Φ "are_wholes" 0 [.tup vs,.int l,.int m] s=.ok (.bool (vs.all (zl l m))) s
def vw(Φ:Calls):Prop:=∀(i l m:Int) (s:Sto),l≤i→i≤m→Φ "need_whole" 0 [.int i,.int l,.int m] s=.ok .none s
def rm(Φ:Calls):Prop:=∀(i:Int) (s:Sto),2≤i→i≤8→Φ "need_size" 0 [.int i] s=.ok .none s
def tN(Φ:Calls):Prop:=∀(i:Int) (s:Sto),0≤i→i≤40→Φ "need_length" 0 [.int i] s=.ok .none s
def bH(Φ:Calls):Prop:=∀(n i z:Nat) (s:Sto),i<n→2≤z→z≤8→Φ "most_step" 0 [.int n,.int i,.int z] s=.ok (.int ((n-1-i)/(z-1):Nat)) s
structure Gls(T:Tbl):Prop where
 mp:T.gl "MOST_PLACES"=some (.int 40)
 ls:T.gl "LEAST_SIZE"=some (.int 2)
 ms:T.gl "MOST_SIZE"=some (.int 8)
 hu:T.gl "HUES"=some (.ctup [0,1,2,3])
 bl:T.gl "BLANK"=some (.int (-1))
theorem yU{m:Bool}{vs:List Val}{s:Sto}:blt .len m [.tup vs] s=.ok (.int vs.length) s:=rfl
theorem Yv{m:Bool}{vs:List Val}{s:Sto}:blt .len m [.lst vs] s=.ok (.int vs.length) s:=rfl
theorem ZL{m:Bool}{ns:List Int}{s:Sto}:blt .len m [.ctup ns] s=.ok (.int ns.length) s:=by simp[blt,xm]
theorem gI{m:Bool}{ns:List Int}{s:Sto}:blt .len m [.scr ns] s=.ok (.int ns.length) s:=by simp[blt,xm]
theorem le_int{a b:Int}{s:Sto}:zT .le (.int a) (.int b) s=.ok (.bool (decide (a≤b))) s:=rfl
theorem lt_int{a b:Int}{s:Sto}:zT .lt (.int a) (.int b) s=.ok (.bool (decide (a<b))) s:=rfl
theorem ge_int{a b:Int}{s:Sto}:zT .ge (.int a) (.int b) s=.ok (.bool (decide (b≤a))) s:=rfl
theorem gt_int{a b:Int}{s:Sto}:zT .gt (.int a) (.int b) s=.ok (.bool (decide (b<a))) s:=rfl
theorem la{m:Bool}{vs:List Val}{s:Sto}:blt .isi m [.tup vs,.ty "tuple"] s=.ok (.bool true) s:=rfl
theorem vI{α:Type}(f:α→Bool):∀xs:List α,boolsOf (xs.map fun x=>Val.bool (f x))=some (xs.map f)
 |[]=>rfl
 |x::xs=>by simp[boolsOf,vI f xs]
theorem oE{α β:Type}(f:α→β)(xs:List α):xs.flatMap (fun x=>[f x])=xs.map f:=by
 induction xs with
 |nil=>rfl
 |cons x xs ih=>simp[ih]
theorem uN{m:Bool}{i j:Int}{s:Sto}:binOp m .add (.int i) (.int j) s=.ok (.int (i+j)) s:=by simp only[binOp]
theorem sM{m:Bool}{i j:Int}{s:Sto}:binOp m .sub (.int i) (.int j) s=.ok (.int (i-j)) s:=by simp only[binOp]
theorem qD{m:Bool}{i j:Int}{s:Sto}(h:-1000000≤i∧i≤1000000):binOp m .mul (.int i) (.int j) s=.ok (.int (i*j)) s:=by
 simp only[binOp]
 rw[if_pos (.inl (by omega))]
theorem lD{m:Bool}{i j:Int}{s:Sto}(h:-1000000≤j∧j≤1000000):binOp m .mul (.int i) (.int j) s=.ok (.int (i*j)) s:=by
 simp only[binOp]
 rw[if_pos (.inr (by omega))]
section
variable {T:Tbl}{Φ:Calls}{s:Sto}
theorem xq{v:Val}{m:Bool}{n:String}{a c:L2.Kd}{s:Sto}(h:kindOf v=some a)(h':yv n=some c):blt .isi m [v,.ty n] s=.ok (.bool (a.sub c)) s:=by
 simp only[blt];rw[h,h']
theorem gF{v:Val}{a:L2.Kd}(h:kindOf v=some a):(∃i,v=.int i)∨(∃b,v=.bool b)∨(a.sub .int=false∧∀l m,zl l m v=false):=by
 cases v with
 |int i=>exact .inl ⟨i,rfl⟩
 |bool b=>exact .inr (.inl ⟨b,rfl⟩)
 |_=>cases h<;>exact .inr (.inr ⟨rfl,fun _ _=>rfl⟩)
theorem xb{v:Val}(h:kindOf v≠none):∃a,kindOf v=some a:=Option.ne_none_iff_exists'.mp h
theorem u9{v:Val}{a:L2.Kd}(h:kindOf v=some a):(∃vs,v=.tup vs)∨a.sub .tup=false:=by
 cases v with
 |tup vs=>exact .inl ⟨vs,rfl⟩
 |_=>cases h<;>exact .inr rfl
theorem jt{v:Val}{l m:Int}(hk:kindOf v≠none):run T Φ F.xU [v,.int l,.int m] s=.ok (.bool (zl l m v)) s:=by
 obtain⟨a,ha⟩:=xb hk
 have e1:=xq (m:=false) (s:=s) ha (show yv "int"=some .int from rfl)
 have e2:=xq (m:=false) (s:=s) ha (show yv "bool"=some .bl from rfl)
 have end':∀{b:Bool},b=zl l m v→(zY false s (.bool b) s).post fun x t=>x=.bool (zl l m v)∧t=s:=fun{b} e=>by
  rw[zg yd,e];exact zD.mpr ⟨rfl,rfl⟩
 rw[post_eq,F.xU,xP]
 refine⟨rfl,?_⟩
 show (zZ Φ T.gl [some v,some (.int l),some (.int m)] _ s).post _
 rcases gF ha with⟨i,rfl⟩|⟨b,rfl⟩|⟨h1,h2⟩
 . cases ha
   have hc:evE Φ T.gl [some (.int i),some (.int l),some (.int m)] (.chain .le .le (.var 1) (.var 0) (.var 2)) s=.ok (.bool (zl l m (.int i))) s:=by
    refine bnd (zB rfl) (bnd (zB rfl) (bnd le_int ?_))
    show (match Val.bool (decide (l≤i)) with
     |.bool true=>(evE Φ T.gl [some (.int i),some (.int l),some (.int m)] (.var 2) s).bind fun z s4=>zT .le (.int i) z s4
     |.bool false=>.ok (.bool false) s
     |_=>.stuck)=Out.ok (.bool (decide (l≤i)&&decide (i≤m))) s
    cases decide (l≤i) with
    |true=>exact bnd (zB rfl) le_int
    |false=>rfl
   exact zX (fj (zU (zA (zB rfl) (zA yw zC)) e1) (kJ (zU (zA (zB rfl) (zA yw zC)) e2)) hc) (end' rfl)
 . cases ha
   exact zX (fh (zU (zA (zB rfl) (zA yw zC)) e1) (kJ (zU (zA (zB rfl) (zA yw zC)) e2))) (end' rfl)
 . rw[h1]at e1
   exact zX (uG (zU (zA (zB rfl) (zA yw zC)) e1)) (end' (h2 _ _).symm)
theorem mW(c:ur Φ){vs:List Val}{l m:Int}(hk:∀v∈vs,kindOf v≠none):run T Φ F.ym [.tup vs,.int l,.int m] s=.ok (.bool (vs.all (zl l m))) s:=by
 rw[post_eq]
 simp[F.ym,EVl,zK,zG]
 refine rA (fun e=>∃o,e=[o,some (.int l),some (.int m)]) (fun x=>[.bool (zl l m x)]) ?_
 simp[EVl,zK,zG]
 refine⟨?_,?_⟩
 . intro x hx
   simp[EVl,zK,zG,c x l m s (hk x hx)]
 . simp[newList,EVl,zK,zG,blt,oE,yN,vI]
theorem rY(c:ur Φ){i l m:Int}(h1:l≤i)(h2:i≤m):run T Φ F.yq [.int i,.int l,.int m] s=.ok .none s:=by
 rw[post_eq]
 simp[F.yq,EVl,zK,zG,c (.int i) l m s (by simp[kindOf]),x6 h1 h2]
theorem pV(g:Gls T)(c:vw Φ){i:Int}(h1:2≤i)(h2:i≤8):run T Φ F.xD [.int i] s=.ok .none s:=by
 rw[post_eq]
 simp[F.xD,EVl,zK,zG,g.ls,g.ms,c i 2 8 s h1 h2]
theorem rE(g:Gls T)(c:vw Φ){i:Int}(h1:0≤i)(h2:i≤40):run T Φ F.ya [.int i] s=.ok .none s:=by
 rw[post_eq]
 simp[F.ya,EVl,zK,zG,g.mp,c i 0 40 s h1 h2]
theorem fN{n i z:Nat}(h1:i<n)(h2:2≤z)(h3:z≤8):run T Φ F.xC [.int n,.int i,.int z] s=.ok (.int ((n-1-i)/(z-1):Nat)) s:=by
 rw[post_eq]
 have a1:(0:Int)<(z:Int)-1∧(z:Int)-1<1073741824:=by omega
 have a2:((n:Int)-1-(i:Int))/((z:Int)-1)=(((n-1-i)/(z-1):Nat):Int):=by
  rw[Int.natCast_ediv]
  congr 1<;>omega
 simp[F.xC,EVl,zK,zG,binOp]
 refine⟨by omega,?_⟩
 rw[a2];simp
end
end M
end
section
namespace M
open PySem
noncomputable def yJ(r:Nat × Nat):Val:=.tup [.int r.1,.int r.2]
theorem w8{lo:Int}{n:Nat}{x:Val}(h:x∈zi lo n):∃k:Nat,k<n∧x=.int (lo+k):=by
 unfold zi at h
 obtain⟨k,h1,rfl⟩:=List.mem_map.mp h
 exact⟨k,List.mem_range.mp h1,rfl⟩
theorem qT:∀zs:List (Int × Int),pairsOf (zs.map prV)=some zs
 |[]=>rfl
 |z::zs=>by simp[pairsOf,prV,qT zs]
theorem Xc(ns:List Int)(lo st:Int)(n:Nat):L2.zb (ns.map Val.int) lo st n=(L2.zb ns lo st n).map Val.int:=by
 unfold L2.zb
 rw[List.map_filterMap]
 congr 1
 funext k
 simp[List.getElem?_map]
theorem lQ(a b:Int):PyData.eqv (.int a) (.int b)=decide (a=b):=by
 by_cases h:a=b<;>simp[PyData.eqv,h]
theorem eq_int{a b:Int}{s:Sto}:zT .eq (.int a) (.int b) s=.ok (.bool (decide (a=b))) s:=by
 simp[zT,zr,yM,oC,Val.isD,Val.d,PyData.depth,lQ]
theorem ne_int{a b:Int}{s:Sto}:zT .ne (.int a) (.int b) s=.ok (.bool !(decide (a=b))) s:=by
 simp[zT,zr,yM,oC,Val.isD,Val.d,PyData.depth,lQ]
theorem sY{vs:List Val}{k:Nat}{v:Val}{s:Sto}(h:vs[k]?=some v):xw (.tup vs) (.int k) s=.ok v s:=by
 simp[xw,xm,L2.t5 h]
theorem v7{ns:List Int}{k:Nat}{i:Int}{s:Sto}(h:ns[k]?=some i):xw (.tup (ns.map .int)) (.int k) s=.ok (.int i) s:=sY (by rw[List.getElem?_map,h];rfl)
theorem vd(ns:List Int):(ns.map Val.int).all flat=true:=by
 rw[List.all_map];simp[flat]
theorem v5(ns:List Int)(y:Int):(ns.map Val.int).countP (fun z=>eqF z (.int y))=ns.count y:=by
 rw[List.countP_map];rfl
section
variable {T:Tbl}{Φ:Calls}{s:Sto}
def bj(Φ:Calls):Prop:=∀(ns:List Int) (f d z:Nat) (s:Sto),0<d→1≤z→f+d*(z-1)<ns.length→z≤zP→Φ "is_one_hue" 0 [.tup (ns.map .int),.int f,.int d,.int z] s=.ok (.bool (y0 ns f d z)) s
theorem cJ{ns:List Int}{f d z:Nat}(hd:0<d)(hz:1≤z)(h:f+d*(z-1)<ns.length)(hl:z≤zP):run T Φ F.yn [.tup (ns.map .int),.int f,.int d,.int z] s=.ok (.bool (y0 ns f d z)) s:=by
 have hf:f<ns.length:=by
  have:0≤d*(z-1):=Nat.zero_le _
  omega
 have a1:=eE hd hz h
 have hdI:(d:Int)≠0:=by omega
 rw[post_eq]
 have hm:-(2 ^ 64)<(z:Int)∧(z:Int)<2 ^ 64:=by
  unfold zP at hl;omega
 have hmul:binOp false .mul (.int d) (.int z) s=.ok (.int ((d:Int)*z)) s:=by
  simp only[binOp]
  rw[if_pos (.inr hm)]
 have hix:xw (.tup (ns.map .int)) (.int f) s=.ok (.int (ns.getD f 0)) s:=v7 (by rw[List.getElem?_eq_getElem hf,List.getD_eq_getElem?_getD,List.getElem?_eq_getElem hf];rfl)
 have hadd:binOp false .add (.int f) (.int ((d:Int)*z)) s=.ok (.int ((f:Int)+(d:Int)*z)) s:=by simp only[binOp]
 have hsl:wU false (.tup (ns.map .int)) (some (f:Int)) (some ((f:Int)+(d:Int)*z)) (some (d:Int)) s=.ok (.tup (((List.range z).map fun k=>ns.getD (f+k*d) 0).map .int)) s:=by
  simp only[wU,List.length_map]
  rw[a1,if_pos ⟨hdI,hl⟩]
  simp only[Xc,gu h]
 have key:decide ((((List.range z).map fun k=>ns.getD (f+k*d) 0).count (ns.getD f 0):Int)=(z:Int))=y0 ns f d z:=by
  rw[Bool.eq_iff_iff,dC h,decide_eq_true_iff]
  have hl:((List.range z).map fun k=>ns.getD (f+k*d) 0).length=z:=by rw[List.length_map,List.length_range]
  constructor
  . intro e x hx
    exact(List.count_eq_length.mp (by rw[hl];exact Int.ofNat.inj e) x hx).symm
  . intro e
    rw[List.count_eq_length.mpr fun x hx=>(e x hx).symm,hl]
 generalize hy:ns.getD f 0=y at hix key
 generalize hxs:(List.range z).map (fun k=>ns.getD (f+k*d) 0)=xs at hsl key
 simp only[F.yn,EVl,zK,zG]
 simp[EVl,zK,zG,hmul,hadd,hix,hsl,yi,vd,v5,eq_int,flat]
 exact key
def CAt(Φ:Calls):Prop:=∀(n z p:Nat) (s:Sto),n≤32→2≤z→z≤8→p<n→Φ "rows_at" 0 [.int n,.int z,.int p] s=.ok (.lst ((atP n z p).map yJ)) s
noncomputable def YQ(n z p:Nat):Val→List Val
 |.int a=>(allAt n z p a.toNat).map prV
 |_=>[]
noncomputable def YR(p:Nat):Val→Val→List Val
 |.int a,.int d=>[.tup [.int (p-d*a),.int d]]
 |_,_=>[]
noncomputable def kP(n z:Nat):Val→List Val
 |.tup [.int a,.int b]=>if inB n z (a,b) then [.tup [.int a,.int b]] else []
 |_=>[]
theorem lC{n z:Nat}:∀l:List (Int × Int),(l.map prV).flatMap (kP n z)=(l.filter (inB n z)).map prV
 |[]=>rfl
 |r::l=>by
  show kP n z (prV r)++(l.map prV).flatMap (kP n z)=_
  rw[lC l,List.filter_cons,show kP n z (prV r)=if inB n z r then [prV r] else [] from rfl]
  cases inB n z r<;>rfl
theorem Z1(cW:ur Φ)(cL:tN Φ)(cS:rm Φ)(cM:bH Φ){n z p:Nat}(hn:n≤32)(hz:2≤z)(hz8:z≤8)(hp:p<n):run T Φ F.xy [.int n,.int z,.int p] s=.ok (.lst ((atP n z p).map yJ)) s:=by
 have L2':2≤zP:=by unfold zP;omega
 have c1:=cL n s (by omega) (by omega)
 have c2:=cS z s (by omega) (by omega)
 have c3:Φ "is_whole" 0 [.int p,.int 0,.int ((n:Int)-1)] s=.ok (.bool true) s:=by
  rw[cW _ _ _ _ (by simp[kindOf]),x6 (by omega) (by omega)]
 have c4:Φ "most_step" 0 [.int n,.int 0,.int z] s=.ok (.int (mS n z)) s:=cM n 0 z s (by omega) hz hz8
 have hmS:mS n z≤32:=by
  have:=Nat.div_le_self (n-1) (z-1)
  show (n-1)/(z-1)≤32
  omega
 have hlen:(allOf n z p).length≤62:=kN hn hz
 have hfl:(zi 0 z).flatMap (YQ n z p)=(allOf n z p).map prV:=by
  unfold zi allOf
  rw[List.flatMap_map,List.map_flatMap]
  congr 1
  funext a
  rw[Int.zero_add];rfl
 have hnd:((allOf n z p).filter (inB n z)).Nodup:=(pw n z p).filter _
 have hbd:∀r∈(allOf n z p).filter (inB n z),0≤r.2∧r.2<1000:=fun r hr=>kO (by omega) r (List.mem_filter.mp hr).1
 have hln:((allOf n z p).filter (inB n z)).length<64:=by
  have:=List.length_filter_le (inB n z) (allOf n z p)
  omega
 have hso:ui ((allOf n z p).filter (inB n z))=(atP n z p).map toI:=kQ (by omega) hz (xZ _) (nE hnd hbd)
 rw[post_eq,F.xy,xP]
 refine⟨rfl,?_⟩
 show (zZ Φ T.gl [some (.int n),some (.int z),some (.int p),none] _ s).post _
 refine vD (x_call (zA (zB rfl) zC) c1) (vD (x_call (zA (zB rfl) zC) c2) (yH (ze (zO (x_call (zA (zB rfl) (zA zE (zA (zw (zB rfl) zE sM) zC))) c3) zF)) (vU ?_)))
 refine dO (fun e=>∃o1 o2,e=[o1,o2,some (.int n),some (.int z),some (.int p)]) (YQ n z p) (fun x e=>∃o2,e=[some x,o2,some (.int n),some (.int z),some (.int p)]) (YR p) ⟨_,_,ir (zB rfl) (by unfold zP;omega),rfl,⟨_,_,rfl⟩,?_,?_,?_⟩
 . rintro x hx e ⟨o1,o2,rfl⟩
   obtain⟨a,ha,rfl⟩:=w8 hx
   refine⟨_,rfl,uZ.mpr ⟨rfl,?_⟩⟩
   rw[if_pos rfl]
   refine⟨_,_,lg (i:=1) (j:=mS n z+1) zE (zw (x_call (zA (zB rfl) (zA zE (zA (zB rfl) zC))) c4) zE uN) (by omega) (by omega),rfl,rfl,⟨_,rfl⟩,?_,?_,?_⟩
   . rintro e ⟨o,rfl⟩;exact⟨_,_,rfl⟩
   . show (allAt n z p (0+(a:Int)).toNat).map prV=(zi ((1:Nat):Int) (mS n z)).flatMap _
     rw[Int.zero_add,Int.toNat_natCast]
     unfold allAt zi
     rw[List.map_map,List.flatMap_map]
     rw[show (fun(k:Nat)=>YR p (.int (a:Int)) (.int (((1:Nat):Int)+(k:Int))))=fun k=>[(fun(k:Nat)=>Val.tup [.int ((p:Int)-(((1:Nat):Int)+(k:Int))*(a:Int)),.int (((1:Nat):Int)+(k:Int))]) k] from rfl,oE]
     refine List.map_congr_left fun j _=>?_
     show prV ((p:Int)-((j+1:Nat):Int)*(a:Int),((j+1:Nat):Int))=_
     rw[show ((j+1:Nat):Int)=((1:Nat):Int)+(j:Int) by omega];rfl
   . rintro y hy e ⟨o,rfl⟩
     obtain⟨d,hd,rfl⟩:=w8 hy
     refine⟨_,rfl,⟨_,rfl⟩,uZ.mpr ⟨rfl,?_⟩⟩
     rw[if_pos rfl]
     show (evE Φ T.gl [some (.int (0+(a:Int))),some (.int (((1:Nat):Int)+(d:Int))),some (.int n),some (.int z),some (.int p)] _ s).post _
     rw[z7 (zA (zw (zB rfl) (zw (zB rfl) (zB rfl) (qD (by omega))) sM) (zA (zB rfl) zC)) L2']
     exact zD.mpr ⟨rfl,rfl⟩
 . show Small ((zi 0 z).flatMap _)
   rw[hfl]
   show (List.map prV _).length≤zP
   rw[List.length_map];unfold zP;omega
 . show (newList false ((zi 0 z).flatMap _) s).post _
   rw[hfl]
   refine zD.mpr (zX (v:=.lst ((atP n z p).map yJ)) (s1:=s) (zU (s1:=s) (vs:=[.lst (((allOf n z p).filter (inB n z)).map prV)]) (zA ?_ zC) ?_) ?_)
   . rw[post_eq]
     refine vi (fun e=>∃o1 o2,e=[o1,o2,some (.int n),some (.int z)]) (kP n z) ((allOf n z p).map prV) (s1:=s) (u7 (zB rfl) rfl) ⟨_,_,rfl⟩ ?_ (by rw[lC];exact zD.mpr ⟨rfl,rfl⟩)
     rintro v hv e ⟨o1,o2,rfl⟩
     obtain⟨⟨a,b⟩,hm,rfl⟩:=List.mem_map.mp hv
     refine⟨[some (.int a),some (.int b),some (.int n),some (.int z)],rfl,⟨_,_,rfl⟩,?_⟩
     have ht:yu Φ T.gl [some (.int a),some (.int b),some (.int n),some (.int z)] (.cons (.and (.val (.cmp .ge (.var 0) (.lit (.int 0)))) (.cons (.val (.cmp .lt (.bin false .add (.var 0) (.bin false .mul (.var 1) (.bin false .sub (.var 3) (.lit (.int 1))))) (.var 2))) .nil)) .nil) s=.ok (inB n z (a,b)) s:=fY (md (zO (zf (zB rfl) zE ge_int) zF) (zO (zf (zw (zB rfl) (zw (zB rfl) (zw (zB rfl) zE sM) (lD (by omega))) uN) (zB rfl) lt_int) zF))
     rw[ht]
     refine zD.mpr ⟨rfl,?_⟩
     rw[show kP n z (prV (a,b))=if inB n z (a,b) then [Val.tup [.int a,.int b]] else [] from rfl]
     cases inB n z (a,b) with
     |true=>
      rw[if_pos rfl,if_pos rfl,z7 (zA (zB rfl) (zA (zB rfl) zC)) L2']
      exact zD.mpr ⟨rfl,rfl⟩
     |false=>rw[if_neg Bool.false_ne_true,if_neg Bool.false_ne_true]
   . generalize (allOf n z p).filter (inB n z)=L at *
     simp only[blt,yN,qT]
     rw[if_pos ⟨hln,hnd,hbd⟩,hso,List.map_map];rfl
   . show (zY false s _ s).post _
     rw[zg (by rw[nv,show (atP n z p).map yJ=((atP n z p).map toI).map prV by rw[List.map_map];rfl];exact w9 _)]
     exact zD.mpr ⟨rfl,rfl⟩
end
end M
end
section
namespace M
open PySem
theorem qK{ns:List Int}:∀v∈ns.map Val.int,kindOf v≠none:=fun v hv=>by
 obtain⟨i,_,rfl⟩:=List.mem_map.mp hv
 simp[kindOf]
theorem sH{l m:Int}{ns:List Int}(h:∀x∈ns,l≤x∧x≤m):(ns.map Val.int).all (zl l m)=true:=by
 rw[List.all_eq_true]
 intro v hv
 obtain⟨i,hi,rfl⟩:=List.mem_map.mp hv
 exact x6 (h i hi).1 (h i hi).2
theorem qu{α:Type}{xs:List α}{p:Nat}(hp:p≤xs.length):xu xs none (some (p:Int))=xs.take p:=by
 unfold xu
 have h1:HT.sIx xs.length 0 none=0:=rfl
 have h2:HT.sIx xs.length xs.length (some (p:Int))=p:=by rw[HT.kB];omega
 rw[h1,h2,List.drop_zero,Nat.sub_zero]
theorem qt{α:Type}{xs:List α}{p:Nat}(hp:p≤xs.length):xu xs (some (p:Int)) none=xs.drop p:=by
 unfold xu
 have h1:HT.sIx xs.length 0 (some (p:Int))=p:=by rw[HT.kB];omega
 have h2:HT.sIx xs.length xs.length none=xs.length:=rfl
 rw[h1,h2,List.take_of_length_le (by rw[List.length_drop];omega)]
noncomputable abbrev tpI(ns:List Int):Val:=.tup (ns.map .int)
section
variable {T:Tbl}{Φ:Calls}{s:Sto}
def rl(Φ:Calls):Prop:=∀(zs:List Int) (s:Sto),Sz zs→Φ "are_sizes" 0 [tpI zs] s=.ok (.bool true) s
def sE(Φ:Calls):Prop:=∀(zs:List Int) (s:Sto),Sz zs→Φ "need_sizes" 0 [tpI zs] s=.ok .none s
def ph(Φ:Calls):Prop:=∀(zs ns:List Int) (s:Sto),Sz zs→Dr zs ns→Φ "is_draft" 0 [tpI zs,tpI ns] s=.ok (.bool true) s
def sD(Φ:Calls):Prop:=∀(zs ns:List Int) (s:Sto),Sz zs→Dr zs ns→Φ "need_draft" 0 [tpI zs,tpI ns] s=.ok .none s
def lA(Φ:Calls):Prop:=∀(ns:List Int) (p:Nat) (h:Int) (s:Sto),p<ns.length→ns.length≤1000→Φ "with_hue" 0 [tpI ns,.int p,.int h] s=.ok (tpI (putL ns p h)) s
theorem pT(g:Gls T)(c:tw Φ){zs:List Int}(h:Sz zs):run T Φ F.xA [tpI zs] s=.ok (.bool true) s:=by
 rw[post_eq]
 have c1:=c (zs.map .int) 2 8 s qK
 rw[sH h.2.2]at c1
 have a1:(1:Int)≤(zs.length:Int):=by have:=h.1;omega
 have a2:(zs.length:Int)≤4:=by have:=h.2.1;omega
 simp[F.xA,EVl,zK,zG,la,yU,ZL,g.hu,g.ls,g.ms,le_int,c1,a1,a2]
theorem rX(c:rl Φ){zs:List Int}(h:Sz zs):run T Φ F.yp [tpI zs] s=.ok .none s:=by
 rw[post_eq]
 simp[F.yp,EVl,zK,zG,c zs s h]
theorem nB(g:Gls T)(c1:sE Φ)(c:tw Φ){zs ns:List Int}(h:Sz zs)(hd:Dr zs ns):run T Φ F.xT [tpI zs,tpI ns] s=.ok (.bool true) s:=by
 rw[post_eq]
 have c2:=c (ns.map .int) (-1) ((zs.length:Int)-1) s qK
 rw[sH (fun x hx=>⟨(hd.2 x hx).1,by have:=(hd.2 x hx).2;omega⟩)]at c2
 have a2:(ns.length:Int)≤40:=by have:=hd.1;omega
 simp[F.xT,EVl,zK,zG,la,yU,c1 zs s h,g.mp,g.bl,le_int,sM,c2,a2]
theorem rW(c:ph Φ){zs ns:List Int}(h:Sz zs)(hd:Dr zs ns):run T Φ F.yo [tpI zs,tpI ns] s=.ok .none s:=by
 rw[post_eq]
 simp[F.yo,EVl,zK,zG,c zs ns s h hd]
theorem vX{m:Bool}{a b:List Val}{s:Sto}(h:a.length+b.length≤zP):binOp m .add (.tup a) (.tup b) s=.ok (.tup (a++b)) s:=by
 simp only[binOp];rw[if_pos h]
theorem nC{ns:List Int}{p:Nat}{h:Int}(hp:p<ns.length)(hn:ns.length≤1000):run T Φ F.xV [tpI ns,.int p,.int h] s=.ok (tpI (putL ns p h)) s:=by
 rw[post_eq]
 have c1:wU false (tpI ns) none (some (p:Int)) none s=.ok (tpI (ns.take p)) s:=by
  simp only[wU];rw[qu (by rw[List.length_map];omega),←List.map_take]
 have c2:wU false (tpI ns) (some ((p:Int)+1)) none none s=.ok (tpI (ns.drop (p+1))) s:=by
  have:((p:Int)+1)=((p+1:Nat):Int):=by omega
  simp only[wU];rw[this,qt (by rw[List.length_map];omega),←List.map_drop]
 have c3:binOp false .add (tpI (ns.take p)) (.tup [.int h]) s=.ok (tpI (ns.take p++[h])) s:=by
  rw[vX (by simp[zP];omega),←List.map_singleton,←List.map_append]
 have c4:binOp false .add (tpI (ns.take p++[h])) (tpI (ns.drop (p+1))) s=.ok (tpI (putL ns p h)) s:=by
  rw[vX (by simp[zP];omega),←List.map_append]
  simp[putL]
 have c0:(1:Nat)≤zP:=by simp[zP]
 simp only[tpI]at *
 simp only[F.xV,EVl,zK,zG]
 simp[EVl,zK,zG,c0,uN]
 rw[c1]
 simp only[EVl,zK,zG]
 rw[c3]
 simp only[EVl,zK,zG]
 rw[c2]
 simp only[EVl,zK,zG]
 rw[c4]
 simp[EVl,zK,zG]
end
end M
end
section
namespace M
open PySem
theorem vP(rs:List (Nat × Nat)):zj (rs.map yJ)=true:=by
 have:=w9 (rs.map toI)
 rw[List.map_map]at this
 exact this
theorem qy{α β:Type}(f:α→Bool)(g:α→β)(xs:List α):xs.flatMap (fun x=>if f x then [g x] else [])=(xs.filter f).map g:=by
 induction xs with
 |nil=>rfl
 |cons x xs ih=>
  rw[List.flatMap_cons,ih]
  cases h:f x<;>simp[h]
theorem iY{f:Nat × Nat→Bool}{F:Val→List Val}(hF:∀r,F (yJ r)=if f r then [yJ r] else [])(rs:List (Nat × Nat)):(rs.map yJ).flatMap F=(rs.filter f).map yJ:=by
 rw[List.flatMap_map,←qy]
 congr 1
 funext r
 exact hF r
theorem iX{f:Nat→Bool}{F:Val→List Val}{n:Nat}(hF:∀k<n,F (.int k)=if f k then [.int k] else []):(zi 0 n).flatMap F=((List.range n).filter f).map fun(k:Nat)=>Val.int k:=by
 unfold zi
 rw[List.flatMap_map,←qy]
 have key:∀l:List Nat,(∀k∈l,k<n)→l.flatMap (fun(k:Nat)=>F (.int (0+(k:Int))))=l.flatMap fun(k:Nat)=>if f k then [Val.int k] else []:=fun l=>by
  induction l with
  |nil=>intro _;rfl
  |cons k l ih=>
   intro h
   rw[List.flatMap_cons,List.flatMap_cons,ih fun j hj=>h j (.tail _ hj),Int.zero_add,hF k (h k (.head _))]
 exact key _ fun k hk=>List.mem_range.mp hk
section
variable {T:Tbl}{Φ:Calls}{s:Sto}
def pf(Φ:Calls):Prop:=∀(zs ns:List Int) (p h:Nat) (s:Sto),Sz zs→ns.length≤32→p<ns.length→h<zs.length→Φ "barring_rows" 0 [tpI zs,tpI ns,.int p,.int h] s=.ok (.lst ((xN ns (zd zs h) p h).map yJ)) s
noncomputable def nZ(hs:List Nat):Val:=.tup (hs.map fun(k:Nat)=>Val.int k)
theorem oR(hs:List Nat):zj (hs.map fun(k:Nat)=>Val.int k)=true:=by
 have:=wM (hs.map fun(k:Nat)=>(k:Int))
 rw[List.map_map]at this
 exact this
theorem nY(cW:lA Φ)(cA:CAt Φ)(cO:bj Φ){zs ns:List Int}{p h:Nat}(hz:Sz zs)(hn:ns.length≤32)(hp:p<ns.length)(hh:h<zs.length){m:Bool}{N:List Str}{P:Val→Sto→Prop}
 (hP:(newList m ((xN ns (zd zs h) p h).map yJ) s).post P) :
 (evE Φ T.gl [some (tpI zs),some (tpI ns),some (.int p),some (.int h),some (tpI (putL ns p h)),some (.int (zd zs h))] (.comp m N [none,none,some 4,some 5] (.tup (.cons (.var 0) (.cons (.var 1) .nil))) (.nms [0,1]) (.val (.call "rows_at" 0 (.cons (.blt .len false (.cons (.var 1) .nil)) (.cons (.var 5) (.cons (.var 2) .nil))))) (.cons (.val (.call "is_one_hue" 0 (.cons (.var 2) (.cons (.var 0) (.cons (.var 1) (.cons (.var 3) .nil)))))) .nil)) s).post P:=by
 obtain⟨z1,z2,z3⟩:=wk hz hh
 refine rA (fun e=>∃o1 o2,e=[o1,o2,some (tpI (putL ns p h)),some (.int (zd zs h))]) (fun x=>match x with|.tup [.int a,.int b]=>if y0 (putL ns p h) a.toNat b.toNat (zd zs h) then [.tup [.int a,.int b]] else []|_=>[]) ?_
 have c1:=cA ns.length (zd zs h) p s hn z2 z3 hp
 simp[EVl,zK,zG,yU,c1]
 refine⟨?_,?_⟩
 . intro x r1 r2 hr hx e o1 o2 he
   subst he;subst hx
   let r:Nat × Nat:=(r1,r2)
   have hr:r∈atP ns.length (zd zs h) p:=hr
   have hr2:=vf z2 (List.mem_filter.mp hr).1
   have c2:=cO (putL ns p h) r.1 r.2 (zd zs h) s hr2.1 (by omega) (by rw[ot hp];exact hr2.2) (by unfold zP;omega)
   refine⟨[some (.int r1),some (.int r2),some (tpI (putL ns p h)),some (.int (zd zs h))],rfl,⟨_,_,rfl⟩,?_⟩
   have c2:Φ "is_one_hue" 0 [tpI (putL ns p h),.int r1,.int r2,.int (zd zs h)] s=.ok (.bool (y0 (putL ns p h) r1 r2 (zd zs h))) s:=c2
   simp only[tpI]at c2
   simp[EVl,zK,zG,c2,yJ,zP]
 . rw[iY (f:=fun r=>y0 (putL ns p h) r.1 r.2 (zd zs h)) (fun r=>rfl)]
   exact hP
theorem nA(cW:lA Φ)(cA:CAt Φ)(cO:bj Φ){zs ns:List Int}{p h:Nat}(hz:Sz zs)(hn:ns.length≤32)(hp:p<ns.length)(hh:h<zs.length):run T Φ F.yL [tpI zs,tpI ns,.int p,.int h] s=.ok (.lst ((xN ns (zd zs h) p h).map yJ)) s:=by
 rw[post_eq]
 have c1:=cW ns p h s hp (by omega)
 have c2:=v7 (s:=s) (wk hz hh).1
 simp[F.yL,EVl,zK,zG,c1,c2]
 refine nY cW cA cO hz hn hp hh ?_
 simp[newList,EVl,zK,zG,vP]
theorem uO{ns:List Int}{p:Nat}{i:Int}(h:ns[p]?=some i):p<ns.length:=(List.getElem?_eq_some_iff.mp h).1
end
end M
end
section
namespace M
open PySem
noncomputable def vn(a b:Int):Cel:=.lst [.int a,.int b]
def xF(s:Sto)(p:Nat):Prop:=∃a b,s[p]?=some (vn a b)∧0≤b∧b<2147483629
def yR(s:Sto)(p:Nat)(s':Sto):Prop:=∃a b,s'=s.set p (vn a b)∧0≤b∧b<2147483629
theorem xF.lt{s:Sto}{p:Nat}(h:xF s p):p<s.length:=by
 obtain⟨a,b,h,_⟩:=h
 exact(List.getElem?_eq_some_iff.mp h).1
theorem yR.at_{s s':Sto}{p:Nat}(h:yR s p s')(hp:p<s.length):xF s' p:=by
 obtain⟨a,b,rfl,h1⟩:=h
 exact⟨a,b,List.getElem?_set_self hp,h1⟩
theorem yR.trans{s s1 s2:Sto}{p:Nat}(h:yR s p s1)(k:yR s1 p s2):yR s p s2:=by
 obtain⟨a,b,rfl,h1⟩:=h
 obtain⟨c,d,rfl,h2⟩:=k
 exact⟨c,d,by rw[List.set_set],h2⟩
theorem xF.refl{s:Sto}{p:Nat}(h:xF s p):yR s p s:=by
 obtain⟨a,b,h,h1⟩:=h
 obtain⟨hp,e⟩:=List.getElem?_eq_some_iff.mp h
 refine⟨a,b,?_,h1⟩
 rw[←e,List.set_getElem_self]
theorem yR.len{s s':Sto}{p:Nat}(h:yR s p s'):s'.length=s.length:=by
 obtain⟨a,b,rfl,_⟩:=h
 exact List.length_set ..
theorem yR.app{s s' t:Sto}{p:Nat}(hp:p<s.length)(h:yR (s++t) p s'):∃s1,yR s p s1∧s'=s1++t:=by
 obtain⟨a,b,rfl,h1⟩:=h
 exact⟨_,⟨a,b,rfl,h1⟩,List.set_append_left _ _ hp⟩
theorem xF.up{s:Sto}{p:Nat}(h:xF s p)(t:Sto):xF (s++t) p:=by
 obtain⟨a,b,h1,h2⟩:=h
 exact⟨a,b,by rw[List.getElem?_append_left (List.getElem?_eq_some_iff.mp h1).1];exact h1,h2⟩
theorem qM{s s' t:Sto}{p:Nat}{v:Val}(h:yR s p s')(hv:v.noRef=true):zY false s v (s'++t)=.ok v s':=by
 obtain⟨a,b,rfl,_⟩:=h
 exact sg hv rfl
theorem se{s s':Sto}{p:Nat}{v:Val}(h:yR s p s')(hv:v.noRef=true):zY false s v s'=.ok v s':=by
 have:=qM (t:=[]) h hv
 rwa [List.append_nil]at this
theorem bmod{m:Bool}{i j:Int}{s:Sto}(h:0<j):binOp m .mod (.int i) (.int j) s=.ok (.int (i%j)) s:=by
 simp only[binOp];rw[if_pos h]
theorem bdiv{m:Bool}{i j:Int}{s:Sto}(h:0<j∧j<1073741824):binOp m .fdiv (.int i) (.int j) s=.ok (.int (i/j)) s:=by
 simp only[binOp];rw[if_pos h]
theorem sX{vs:List Val}{k:Nat}{v:Val}{s:Sto}(h:vs[k]?=some v):xw (.lst vs) (.int k) s=.ok v s:=by
 simp[xw,xm,L2.t5 h]
theorem sZ{vs:List Val}{i k:Nat}{v:Val}{s:Sto}(hs:s[i]?=some (.lst vs))(h:vs[k]?=some v):xw (.ref i) (.int k) s=.ok v s:=by
 simp[xw,xm,hs,L2.t5 h]
section
variable {T:Tbl}{Φ:Calls}{s:Sto}
def bG(Φ:Calls):Prop:=∀(ns:List Int) (k:Nat) (s:Sto),∃c,Φ "_law_cell_at" 0 [.scr ns,.int k] s=.ok (.int c) s
def YN(Φ:Calls):Prop:=∀(c:Int) (s:Sto),∃a b,Φ "_law_pen" 1 [.int c] s=.ok (.ref s.length) (s++[vn a b])∧0≤b∧b<2147483629
def mx(Φ:Calls):Prop:=∀(p:Nat) (m:Int) (s:Sto),xF s p→0<m→m<1000000→(Φ "_law_draw" 0 [.ref p,.int m] s).post fun v s'=>∃r:Nat,v=.int r∧(r:Int)<m∧yR s p s'
theorem fI(ns:List Int)(k:Nat):∃c,run T Φ F.zx [.scr ns,.int k] s=.ok (.int c) s:=by
 by_cases h:k<ns.length
 . refine⟨ns[k],?_⟩
   rw[post_eq]
   have h':(k:Int)<ns.length:=by omega
   have e:(ns.map Val.int)[k]?=some (.int ns[k]):=by rw[List.getElem?_map,List.getElem?_eq_getElem h];rfl
   have c1:xw (.scr ns) (.int k) s=.ok (.int ns[k]) s:=by simp[xw,xm,L2.t5 e]
   simp[F.zx,EVl,zK,zG,gI,lt_int,h',h,c1]
 . refine⟨0,?_⟩
   rw[post_eq]
   have h':¬(k:Int)<ns.length:=by omega
   simp[F.zx,EVl,zK,zG,gI,lt_int,h',h]
theorem cK(c:Int):∃a b,run T Φ F.yP [.int c] s=.ok (.ref s.length) (s++[vn a b])∧0≤b∧b<2147483629:=by
 have key:(run T Φ F.yP [.int c] s).post fun v s'=>∃a b,v=.ref s.length∧s'=s++[vn a b]∧0≤b∧b<2147483629:=by
  have c1:∀(i:Int) (b:Bool),binOp false .mul (.int i) (.int (if b then 1 else 0)) s=.ok (.int (i*(if b then 1 else 0))) s:=fun i b=>lD (by cases b<;>simp)
  have c2:∀i:Int,binOp false .mod (.int i) (.int 2147483629) s=.ok (.int (i%2147483629)) s:=fun i=>by simp[binOp]
  have c3:binOp false .pow (.int 10) (.int 18) s=.ok (.int (10 ^ 18)) s:=by simp[binOp]
  simp[F.yP,EVl,zK,zG,sM,blt]
  simp[EVl,zK,zG,c1,c2,c3,ge_int,blt,zP,newList,vn]
  rw[lD (by split<;>omega)]
  simp only[zD]
  rw[bmod (by omega)]
  simp only[zD]
  exact⟨trivial,_,_,⟨trivial,rfl,rfl⟩,Int.emod_nonneg _ (by omega),Int.emod_lt_of_pos _ (by omega)⟩
 obtain⟨v,s',h,a,b,rfl,rfl,h1⟩:=key
 exact⟨a,b,h,h1⟩
theorem fJ{p:Nat}{m:Int}(hp:xF s p)(h0:0<m)(h1:m<1000000):(run T Φ F.y7 [.ref p,.int m] s).post fun v s'=>∃r:Nat,v=.int r∧(r:Int)<m∧yR s p s':=by
 obtain⟨a,b,hs,hb,hb1⟩:=hp
 have hlt:=(List.getElem?_eq_some_iff.mp hs).1
 have i0:xw (.ref p) (.int 0) s=.ok (.int a) s:=sZ (k:=0) hs rfl
 have i1:xw (.ref p) (.int 1) s=.ok (.int b) s:=sZ (k:=1) hs rfl
 have i1':∀c d,xw (.ref p) (.int 1) (s.set p (vn c d))=.ok (.int d) (s.set p (vn c d)):=fun c d=>sZ (k:=1) (List.getElem?_set_self hlt) rfl
 have lv:∀(i:Int) (c d:Int),zY false s (.int i) (s.set p (vn c d))=.ok (.int i) (s.set p (vn c d)):=fun i c d=>kx rfl rfl
 simp[F.y7,EVl,zK,zG,i0,gt_int]
 by_cases ha:0<a
 . refine .inr ⟨ha,?_⟩
   have c1:blt .divmod false [.int a,.int m] s=.ok (.tup [.int (a/m),.int (a%m)]) s:=by
    simp only[blt];rw[if_pos ⟨h0,by omega⟩]
   rw[c1]
   simp only[zD]
   refine⟨[some (.ref p),some (.int m),some (.int (a/m)),some (.int (a%m)),none],rfl,_,rfl,_,rfl,p,rfl,_,hs,0,rfl,_,rfl,?_⟩
   have:upd s p ([Val.int a,Val.int b].set 0 (.int (a/m)))=s.set p (vn (a/m) b):=rfl
   rw[this,lv]
   simp only[zD]
   have e1:=Int.emod_nonneg a (show m≠0 by omega)
   have e2:=Int.emod_lt_of_pos a h0
   exact⟨(a%m).toNat,by rw[Int.toNat_of_nonneg e1],by omega,_,_,rfl,hb,hb1⟩
 . refine .inl ⟨by omega,?_⟩
   rw[i1];simp only[zD]
   rw[lD (by omega)];simp only[zD,uN]
   rw[bmod (by omega)];simp only[zD]
   generalize hd:(b*48271+30269)%2147483629=d
   have d0:0≤d:=by rw[←hd];exact Int.emod_nonneg _ (by omega)
   have d1:d<2147483629:=by rw[←hd];exact Int.emod_lt_of_pos _ (by omega)
   refine⟨_,hs,1,rfl,?_⟩
   have:upd s p ([Val.int a,Val.int b].set 1 (.int d))=s.set p (vn a d):=rfl
   rw[this]
   simp only[i1',zD]
   have c2:binOp false .mul (.int d) (.int d) (s.set p (vn a d))=.ok (.int (d*d)) (s.set p (vn a d)):=by
    simp only[binOp];rw[if_pos (.inl (by omega))]
   rw[c2];simp only[i1',zD]
   rw[qD (by omega)];simp only[zD,uN]
   rw[bmod (by omega)];simp only[zD]
   rw[bdiv (by omega)];simp only[zD]
   rw[bmod h0];simp only[zD,lv]
   generalize (d*d+40692*d+7)%2147483587/64=q
   have e1:=Int.emod_nonneg q (show m≠0 by omega)
   have e2:=Int.emod_lt_of_pos q h0
   exact⟨(q%m).toNat,by rw[Int.toNat_of_nonneg e1],by omega,_,_,rfl,d0,d1⟩
end
end M
end
section
namespace M
open PySem
theorem qN{s:Sto}{vs:List Val}(h:zj vs=true):zY false s (.ref s.length) (s++[.lst vs])=.ok (.lst vs) s:=sd (Nat.le_refl _) (by simp) h
theorem uL{s:Sto}{vs:List Val}{y:Val}(h:vs.length<zP):yi .append (.ref s.length) [y] (s++[.lst vs])=.ok .none (s++[.lst (vs++[y])]):=by
 simp[yi,h,upd]
section
variable {T:Tbl}{Φ:Calls}{s:Sto}
def m7(Φ:Calls):Prop:=∀(p:Nat) (s:Sto),xF s p→(Φ "_law_sizes" 0 [.ref p] s).post fun v s'=>∃zs,v=tpI zs∧Sz zs∧yR s p s'
theorem Xa{r:Nat}(h:r<6):∃m:Nat,([2,2,3,1,4,2]:List Int)[r]?=some (m:Int)∧1≤m∧m≤4:=by
 have:r=0∨r=1∨r=2∨r=3∨r=4∨r=5:=by omega
 rcases this with rfl|rfl|rfl|rfl|rfl|rfl
 . exact⟨2,rfl,by decide,by decide⟩
 . exact⟨2,rfl,by decide,by decide⟩
 . exact⟨3,rfl,by decide,by decide⟩
 . exact⟨1,rfl,by decide,by decide⟩
 . exact⟨4,rfl,by decide,by decide⟩
 . exact⟨2,rfl,by decide,by decide⟩
theorem Xb{r:Nat}(h:r<8):∃m:Int,([3,3,4,2,5,3,2,8]:List Int)[r]?=some m∧2≤m∧m≤8:=by
 have:r=0∨r=1∨r=2∨r=3∨r=4∨r=5∨r=6∨r=7:=by omega
 rcases this with rfl|rfl|rfl|rfl|rfl|rfl|rfl|rfl
 . exact⟨3,rfl,by decide,by decide⟩
 . exact⟨3,rfl,by decide,by decide⟩
 . exact⟨4,rfl,by decide,by decide⟩
 . exact⟨2,rfl,by decide,by decide⟩
 . exact⟨5,rfl,by decide,by decide⟩
 . exact⟨3,rfl,by decide,by decide⟩
 . exact⟨2,rfl,by decide,by decide⟩
 . exact⟨8,rfl,by decide,by decide⟩
theorem oO{ns:List Int}{r:Nat}{m:Int}{s:Sto}(h:ns[r]?=some m):xw (.lst (ns.map .int)) (.int r) s=.ok (.int m) s:=sX (by rw[List.getElem?_map,h];rfl)
theorem pR(lo:Int)(n:Nat):(zi lo n).length=n:=by unfold zi;rw[List.length_map,List.length_range]
theorem mR(cD:mx Φ){p:Nat}(hp:xF s p):(run T Φ F.yk [.ref p] s).post fun v s'=>∃zs,v=tpI zs∧Sz zs∧yR s p s':=by
 simp[F.yk,EVl,zK,zG,newList,zP]
 refine zJ (cD p 6 s hp (by omega) (by omega)) ?_
 rintro v s1 ⟨r,rfl,hr,t1⟩
 obtain⟨m,e,m1,m4⟩:=Xa (r:=r) (by omega)
 have c1:=oO (s:=s1) e
 simp only[List.map_cons,List.map_nil]at c1
 rw[c1]
 simp only[zD]
 refine pK (fun rest e s' acc=>(∃o,e=[o,some (.ref p)])∧yR s1 p s'∧∃zs:List Int,acc=zs.map .int∧(∀x∈zs,2≤x∧x≤8)∧zs.length+rest.length=m) ?_
 have a1:=t1.at_ hp.lt
 simp[EVl,zK,zG,pR,zP]
 refine⟨by omega,a1.refl,?_,?_⟩
 . intro x rest e s' acc o he t zs hacc hz hl
   subst he;subst hacc
   try simp[EVl,zK,zG,newList,zP]
   refine zJ (cD p 8 s' (t.at_ (by rw[t1.len];exact hp.lt)) (by omega) (by omega)) ?_
   rintro v s2 ⟨r,rfl,hr,t2⟩
   obtain⟨k,e,k1,k2⟩:=Xb (r:=r) (by omega)
   have c2:=oO (s:=s2) e
   simp only[List.map_cons,List.map_nil]at c2
   rw[c2]
   simp only[zD]
   refine⟨t.trans t2,zs++[k],by simp,?_,by simp;omega⟩
   intro x hx
   rcases List.mem_append.mp hx with hx|hx
   . exact hz x hx
   . rw[List.mem_singleton.mp hx];exact⟨k1,k2⟩
 . intro e s' acc o he t zs hacc hz hl
   subst hacc
   simp[EVl,zK,zG,newList,blt,yN]
   rw[se (t1.trans t) (by simp[EVl,zK,zG])]
   simp only[zD]
   exact⟨zs,rfl,⟨by omega,by omega,hz⟩,t1.trans t⟩
def iC(Φ:Calls):Prop:=∀(n z:Nat) (s:Sto),n≤40→2≤z→z≤8→Φ "_law_rows" 0 [.int n,.int z] s=.ok (.lst ((xk n z).map yJ)) s
def m9(Φ:Calls):Prop:=∀(r:Nat × Nat) (z:Nat) (s:Sto),z≤8→r.2≤1000→Φ "_law_places" 0 [yJ r,.int z] s=.ok (.lst ((xK r.1 r.2 z).map .int)) s
theorem mU{r:Nat × Nat}{z:Nat}(hz:z≤8)(hr:r.2≤1000):run T Φ F.yY [yJ r,.int z] s=.ok (.lst ((xK r.1 r.2 z).map .int)) s:=by
 rw[post_eq]
 simp[F.yY,EVl,zK,zG]
 refine rA (fun e=>∃o,e=[o,some (yJ r)]) (fun x=>match x with|.int k=>[.int (r.1+k*r.2)]|_=>[]) ?_
 simp[EVl,zK,zG]
 refine⟨by unfold zP;omega,?_,?_⟩
 . intro x hx
   obtain⟨k,hk,rfl⟩:=w8 hx
   have c0:xw (yJ r) (.int 0) s=.ok (.int r.1) s:=sY (k:=0) rfl
   have c1:xw (yJ r) (.int 1) s=.ok (.int r.2) s:=sY (k:=1) rfl
   rw[c0];simp only[zD]
   rw[c1];simp only[zD]
   rw[qD (by omega)];simp[EVl,zK,zG,uN]
 . have:(zi 0 z).flatMap (fun x=>match x with|.int k=>[Val.int (r.1+k*r.2)]|_=>[])=(xK r.1 r.2 z).map .int:=by
    unfold zi xK
    rw[List.flatMap_map,List.map_map,←oE]
    congr 1
    funext k
    simp
   rw[this]
   simp[EVl,zK,zG,newList]
theorem fG(lo:Int)(k:Nat):zi lo (k+1)=.int lo::zi (lo+1) k:=by
 unfold zi
 rw[List.range_succ_eq_map,List.map_cons,List.map_map]
 congr 1
 . simp
 . refine List.map_congr_left fun j _=>?_
   show Val.int (lo+((j+1:Nat):Int))=Val.int (lo+1+(j:Int))
   congr 1;omega
theorem tK{lo:Int}{k:Nat}{x:Val}{rest:List Val}(h:x::rest=zi lo k):∃k',k=k'+1∧x=.int lo∧rest=zi (lo+1) k':=by
 cases k with
 |zero=>simp[zi]at h
 |succ k=>
  rw[fG]at h
  injection h with h1 h2
  exact⟨k,rfl,h1,h2⟩
theorem pS{lo:Int}{k:Nat}(h:[]=zi lo k):k=0:=by
 have:=congrArg List.length h
 rw[pR]at this
 exact this.symm
theorem filter_lt{K m:Nat}(h:K≤m):(List.range m).filter (fun j=>decide (j<K))=List.range K:=by
 obtain⟨t,rfl⟩:=Nat.exists_eq_add_of_le h
 rw[List.range_add,List.filter_append,List.filter_eq_self.mpr (fun a ha=>by simpa using ha)]
 rw[List.filter_eq_nil_iff.mpr,List.append_nil]
 intro a ha
 obtain⟨j,_,rfl⟩:=List.mem_map.mp ha
 simp
theorem et{m:Bool}{s:Sto}{i:Nat}{vs:List Val}(h:s[i]?=some (.lst vs)):blt .len m [.ref i] s=.ok (.int vs.length) s:=by simp[blt,xm,h]
theorem jr{n z:Nat}(hn:n≤40)(hz:2≤z)(hz8:z≤8):run T Φ F.y9 [.int n,.int z] s=.ok (.lst ((xk n z).map yJ)) s:=by
 rw[post_eq,F.y9,xP]
 refine⟨rfl,?_⟩
 show (zZ Φ T.gl [some (.int n),some (.int z),none,none,none] _ s).post _
 refine ye (v:=.ref s.length) (s1:=s++[.lst []]) (bnd zC rfl) ?_
 refine zh.mpr (y4 (fun rest e s'=>∃i o3 o4,i≤n∧rest=zi i (n-i)∧e=[some (.int n),some (.int z),some (.ref s.length),o3,o4]∧s'=s++[.lst (((List.range i).flatMap (wI n z)).map yJ)]) (zi 0 n) (s1:=s++[.lst []]) (ir (zB rfl) (by unfold zP;omega)) ⟨0,_,_,by omega,rfl,rfl,rfl⟩ ?_ ?_)
 . rintro x rest e s' ⟨i,o3,o4,hi,hr,rfl,rfl⟩
   obtain⟨k,hk,rfl,rfl⟩:=tK hr
   refine⟨_,rfl,?_⟩
   have hK:(n-1-i)/(z-1)≤n-1:=Nat.le_trans (Nat.div_le_self _ _) (by omega)
   have hrow:wI n z i=(List.range ((n-1-i)/(z-1))).map fun j=>(i,j+1):=rfl
   generalize hKd:(n-1-i)/(z-1)=K at *
   refine zh.mpr (y4 (fun rest e s'=>∃j o4,j≤n-1∧rest=zi (1+(j:Int)) (n-1-j)∧e=[some (.int n),some (.int z),some (.ref s.length),some (.int i),o4]∧s'=s++[.lst (((List.range i).flatMap (wI n z)++((List.range j).filter fun j=>decide (j<K)).map fun j=>(i,j+1)).map yJ)]) (zi ((1:Nat):Int) (n-1)) (s1:=s++[.lst (((List.range i).flatMap (wI n z)).map yJ)]) (lg (i:=1) zE (zB rfl) (by omega) (by omega)) ⟨0,_,by omega,rfl,rfl,by rw[List.range_zero,List.filter_nil,List.map_nil,List.append_nil]⟩ ?_ ?_)
   . rintro x rest e s' ⟨j,o4,hj,hr,rfl,rfl⟩
     obtain⟨k',hk',rfl,rfl⟩:=tK hr
     refine⟨_,rfl,?_⟩
     have hlen:((List.range i).flatMap (wI n z)).length≤i*n:=lS n z i
     have hin:i*n≤40*40:=Nat.mul_le_mul (by omega) hn
     have hfl:((List.range j).filter fun j=>decide (j<K)).length≤j:=by
      have:=List.length_filter_le (fun j=>decide (j<K)) (List.range j)
      rwa [List.length_range]at this
     have key:((i:Int)+((z:Int)-1)*(1+(j:Int))<(n:Int))↔j<K:=by
      have:=aN (n:=n) (z:=z) (i:=i) (j:=j) (by omega) hz
      rw[hKd]at this
      rwa [Int.zero_add]at this
     have er:(List.range (j+1)).filter (fun j=>decide (j<K))=(List.range j).filter (fun j=>decide (j<K))++if j<K then [j] else []:=by
      rw[List.range_succ,List.filter_append]
      congr 1
      by_cases h:j<K
      . rw[if_pos h,List.filter_cons,if_pos (decide_eq_true h),List.filter_nil]
      . rw[if_neg h,List.filter_cons,if_neg (by rw[decide_eq_false h];exact Bool.false_ne_true),List.filter_nil]
     have tt:∀S:Sto,evT Φ T.gl [some (.int (n:Int)),some (.int (z:Int)),some (.ref s.length),some (.int (i:Int)),some (.int (1+(j:Int)))] (.val (.cmp .lt (.bin false .add (.var 3) (.bin false .mul (.bin false .sub (.var 1) (.lit (.int 1))) (.var 4))) (.var 0))) S=.ok (decide ((i:Int)+((z:Int)-1)*(1+(j:Int))<(n:Int))) S:=fun S=>zO (zf (zw (zB rfl) (zw (zw (zB rfl) zE sM) (zB rfl) (qD (by omega))) uN) (zB rfl) lt_int) zF
     by_cases h:j<K
     . have ht:=tt (s++[.lst (((List.range i).flatMap (wI n z)++((List.range j).filter fun j=>decide (j<K)).map fun j=>(i,j+1)).map yJ)])
       rw[decide_eq_true (key.mpr h)]at ht
       refine yI ht (vD (bnd (zB rfl) (bnd (zA (z7 (zA (zB rfl) (zA (zB rfl) zC)) (show 2≤zP by unfold zP;omega)) zC) (uL (by rw[List.length_map,List.length_append,List.length_map];unfold zP;omega)))) (yt (yt ⟨j+1,_,by omega,by congr 1<;>omega,rfl,?_⟩)))
       have hm:∀(A:List (Nat × Nat)) (F:List Nat),(A++(F++[j]).map fun j=>(i,j+1)).map yJ=(A++F.map fun j=>(i,j+1)).map yJ++[Val.tup [.int (i:Int),.int ((j+1:Nat):Int)]]:=fun A F=>by
        rw[List.map_append (l₁:=F),←List.append_assoc,List.map_append];rfl
       rw[er,if_pos h,hm,show (1:Int)+(j:Int)=((j+1:Nat):Int) by omega]
     . have ht:=tt (s++[.lst (((List.range i).flatMap (wI n z)++((List.range j).filter fun j=>decide (j<K)).map fun j=>(i,j+1)).map yJ)])
       rw[decide_eq_false fun q=>h (key.mp q)]at ht
       refine yH ht (yt ⟨j+1,_,by omega,by congr 1<;>omega,rfl,?_⟩)
       rw[er,if_neg h,List.append_nil]
   . rintro e s' ⟨j,o4,hj,hr,rfl,rfl⟩
     have:=pS hr
     have hj:j=n-1:=by omega
     subst hj
     rw[filter_lt hK]
     refine yt ⟨i+1,_,_,by omega,by congr 1<;>omega,rfl,?_⟩
     rw[List.range_succ,List.flatMap_append,List.flatMap_singleton,hrow]
 . rintro e s' ⟨i,o3,o4,hi,hr,rfl,rfl⟩
   have:=pS hr
   have hi:i=n:=by omega
   subst hi
   refine zX (zB rfl) ?_
   show (zY false s _ _).post _
   rw[qN (vP _)]
   exact zD.mpr ⟨rfl,rfl⟩
end
end M
end
section
namespace M
open PySem
theorem ve:∀ks:List Int,xh (ks.map .int)=true
 |[]=>by rw[List.map_nil,xh]
 |k::ks=>by rw[List.map_cons,xh,ve ks,Val.isD];rfl
theorem u6:∀rs:List (Nat × Nat),xh (rs.map yJ)=true
 |[]=>by rw[List.map_nil,xh]
 |r::rs=>by rw[List.map_cons,xh,u6 rs,yJ,Val.isD,xh,xh,xh,Val.isD,Val.isD];rfl
theorem eq_nil{vs:List Val}{s:Sto}(h:xh vs=true):zT .eq (.lst vs) (.lst []) s=.ok (.bool vs.isEmpty) s:=by
 have h1:(Val.lst vs).isD=true:=by rw[Val.isD];exact h
 have h2:(Val.lst []).isD=true:=by rw[Val.isD,xh]
 have h3:(Val.lst []).d=.list []:=by rw[Val.d,ds]
 have h4:(Val.lst vs).d=.list (ds vs):=by rw[Val.d]
 have h5:PyData.eqv (.list (ds vs)) (.list [])=vs.isEmpty:=by
  cases vs with
  |nil=>rw[ds];rfl
  |cons v vs=>rw[ds];rfl
 simp only[zT,zr,yM,oC,h1,h2,h3,h4,h5]
 rfl
theorem uc{ns:List Int}{p:Nat}{h:Int}(hp:p<ns.length):putL ns p h=ns.set p h:=by
 rw[List.set_eq_take_append_cons_drop,if_pos hp];rfl
theorem oq{ns:List Int}{p q:Nat}{h:Int}(hp:p<ns.length):(putL ns p h)[q]?=if q=p then some h else ns[q]?:=by
 rw[uc hp]
 by_cases e:q=p
 . subst e;rw[if_pos rfl,List.getElem?_set_self hp]
 . rw[if_neg e,List.getElem?_set_ne (fun z=>e z.symm)]
noncomputable def oG(ns:List Int)(p:Nat)(h:Int)(f d k:Nat):Bool:=decide (f+k*d=p)||decide (ns[f+k*d]?=some h)
theorem dD{ns:List Int}{p:Nat}{h:Int}{f d z:Nat}(hp:p<ns.length)(hP:oH z p (f,d)=true):y0 (putL ns p h) f d z=(List.range z).all (oG ns p h f d):=by
 obtain⟨k0,hk0,e0⟩:=List.any_eq_true.mp hP
 have e0:f+k0*d=p:=of_decide_eq_true e0
 have hk0:=List.mem_range.mp hk0
 have gd:∀k,oG ns p h f d k=true↔(putL ns p h)[f+k*d]?=some h:=fun k=>by
  unfold oG
  rw[oq hp,Bool.or_eq_true,decide_eq_true_iff,decide_eq_true_iff]
  by_cases e:f+k*d=p<;>simp[e]
 rw[Bool.eq_iff_iff]
 unfold y0
 rw[List.all_eq_true,List.all_eq_true]
 have p0:(putL ns p h)[f+k0*d]?=some h:=by rw[oq hp,if_pos e0]
 constructor
 . intro H k hk
   rw[gd]
   have h1:=of_decide_eq_true (H k0 (List.mem_range.mpr hk0))
   have h2:=of_decide_eq_true (H k hk)
   rw[h2,←h1,p0]
 . intro H k hk
   have h1:=(gd k).mp (H k hk)
   have hf:=(gd 0).mp (H 0 (List.mem_range.mpr (by omega)))
   rw[Nat.zero_mul,Nat.add_zero]at hf
   rw[decide_eq_true_iff,h1,hf]
noncomputable def eH(bad:Int→Bool):Val→List Val
 |.int x=>if bad x then [.int x] else []
 |_=>[]
theorem lR(bad:Int→Bool)(ks:List Int):(ks.map Val.int).flatMap (eH bad)=(ks.filter bad).map .int:=by
 rw[List.flatMap_map,←qy];rfl
section
variable {T:Tbl}{Φ:Calls}{s:Sto}
theorem X8{G:Str→Option Val}{env:Env}{N:List Str}{fr:List (Option Nat)}{it:Itb}{ifs:Cns}{ks:List Int}{bad:Int→Bool}{e0:Env}(hi:yT Φ G env it s=.ok ⟨ks.map .int,none⟩ s)(h0:zG fr env=none::e0)(h:∀k∈ks,yu Φ G (some (.int k)::e0) ifs s=.ok (bad k) s):evE Φ G env (.comp false N fr (.var 0) (.nm 0) it ifs) s=.ok (.lst ((ks.filter bad).map .int)) s:=by
 refine post_eq.mpr (vi (fun e=>∃o,e=o::e0) (eH bad) (ks.map .int) (s1:=s) hi ⟨none,h0⟩ ?_ (by rw[lR];exact zD.mpr ⟨rfl,rfl⟩))
 rintro v hv e ⟨o,rfl⟩
 obtain⟨k,hk,rfl⟩:=List.mem_map.mp hv
 refine⟨_,rfl,⟨_,rfl⟩,?_⟩
 show (yu Φ G (some (.int k)::e0) ifs s).post _
 rw[h k hk]
 refine zD.mpr ⟨rfl,?_⟩
 show if bad k=true then _ else (if bad k then [Val.int k] else [])=[]
 cases hb:bad k with
 |true=>
  rw[if_pos rfl]
  refine gg.mpr ⟨_,rfl,rfl,?_⟩
  show (if bad k then [Val.int k] else [])=_
  rw[hb,if_pos rfl]
 |false=>rw[if_neg Bool.false_ne_true,if_neg Bool.false_ne_true]
def qe(Φ:Calls):Prop:=∀(zs ns:List Int) (p h:Nat) (s:Sto),Sz zs→ns.length≤32→p<ns.length→h<zs.length→Φ "_law_bars" 0 [tpI zs,tpI ns,.int p,.int h] s=.ok (.lst ((xN ns (zd zs h) p h).map yJ)) s
def iA(Φ:Calls):Prop:=∀(zs ns:List Int) (p:Nat) (s:Sto),Sz zs→ns.length≤32→p<ns.length→Φ "_law_open" 0 [tpI zs,tpI ns,.int p] s=.ok (nZ (xt zs ns p)) s
theorem lW{x:Int}{ks:List Int}{s:Sto}:zT .in_ (.int x) (.lst (ks.map .int)) s=.ok (.bool (ks.any fun z=>z == x)) s:=by
 have h1:(ks.map Val.int).all flat=true:=vd ks
 have h2:(ks.map Val.int).any (fun z=>eqF z (.int x))=ks.any fun z=>z == x:=by rw[List.any_map];rfl
 simp only[zT,xm,h1,h2,flat]
 rfl
theorem nL{r:Nat × Nat}{z p:Nat}:((xK r.1 r.2 z).any fun x=>x == (p:Int))=oH z p r:=by
 unfold xK oH
 rw[List.any_map]
 congr 1
 funext k
 show ((((r.1+k*r.2:Nat):Int)) == (p:Int))=decide (r.1+k*r.2=p)
 by_cases h:r.1+k*r.2=p
 . rw[h];simp
 . have:((r.1+k*r.2:Nat):Int)≠(p:Int):=by omega
   simp only[decide_eq_false h,beq_eq_false_iff_ne]
   exact this
theorem jo(cR:iC Φ)(cP:m9 Φ){zs ns:List Int}{p h:Nat}(hz:Sz zs)(hn:ns.length≤32)(hp:p<ns.length)(hh:h<zs.length):run T Φ F.y6 [tpI zs,tpI ns,.int p,.int h] s=.ok (.lst ((xN ns (zd zs h) p h).map yJ)) s:=by
 rw[post_eq]
 obtain⟨z1,z2,z3⟩:=wk hz hh
 generalize hzz:zd zs h=z at *
 have c2:=v7 (s:=s) z1
 have c1:=fun s=>cR ns.length z s (by omega) z2 z3
 simp[F.y6,EVl,zK,zG,newList,zP,c2]
 let good:Nat × Nat→Bool:=fun r=>oH z p r&&y0 (putL ns p h) r.1 r.2 z
 refine y4 (fun rest e s'=>∃done todo o6 o7 o8,done++todo=xk ns.length z∧rest=todo.map yJ∧e=[some (tpI zs),some (tpI ns),some (.int p),some (.int h),some (.int z),some (.ref s.length),o6,o7,o8]∧s'=s++[.lst ((done.filter good).map yJ)]) ((xk ns.length z).map yJ) (s1:=s++[.lst []]) ?_ ⟨[],_,_,_,_,rfl,rfl,rfl,rfl⟩ ?_ ?_
 . rw[post_eq]
   simp[EVl,zK,zG,yU,c1]
 . rintro x rest e s' ⟨done,todo,o6,o7,o8,hd,hr,rfl,rfl⟩
   cases todo with
   |nil=>cases hr
   |cons r todo=>
    rw[List.map_cons]at hr
    injection hr with hx hr
    subst hx;subst hr
    refine⟨_,rfl,?_⟩
    have hmem:r∈xk ns.length z:=by rw[←hd];simp
    have hr2:=vf z2 hmem
    have hle:r.2≤1000:=by
     have:r.2*1≤r.2*(z-1):=Nat.mul_le_mul_left _ (by omega)
     omega
    have c3:=fun s=>cP r z s z3 hle
    simp[EVl,zK,zG,c3]
    let bad:Int→Bool:=fun x=>!decide (x=(p:Int))&&!decide (ns[x.toNat]?=some (h:Int))
    refine vi (fun e=>∃o,e=[o,some (.int p),some (.int h),some (tpI ns)]) (eH bad) ((xK r.1 r.2 z).map .int) (s1:=s++[.lst ((done.filter good).map yJ)]) ?_ ⟨_,rfl⟩ ?_ ?_
    . rw[post_eq];simp[EVl,zK,zG]
    . intro x hx e he
      obtain⟨o,rfl⟩:=he
      obtain⟨i,hi,rfl⟩:=List.mem_map.mp hx
      refine⟨_,rfl,⟨_,rfl⟩,?_⟩
      obtain⟨k,hk,rfl⟩:=List.mem_map.mp hi
      have hk:=List.mem_range.mp hk
      have hb:r.1+k*r.2<ns.length:=by
       have:k*r.2≤(z-1)*r.2:=Nat.mul_le_mul_right _ (by omega)
       have e:=Nat.mul_comm (z-1) r.2
       omega
      have c4:=fun s=>v7 (s:=s) (List.getElem?_eq_getElem hb)
      generalize hq:r.1+k*r.2=q at *
      have hqp:((q:Int)=(p:Int))↔q=p:=by omega
      simp[EVl,zK,zG,ne_int,c4,bad,eH,List.getElem?_eq_getElem hb]
      by_cases h1:q=p
      . simp[h1]
      . by_cases h2:ns[q]=(h:Int)<;>simp[h1,h2]<;>omega
    . rw[lR]
      have c5:=fun s=>lW (x:=(p:Int)) (ks:=xK r.1 r.2 z) (s:=s)
      simp only[nL]at c5
      have c6:=fun s=>eq_nil (s:=s) (ve ((xK r.1 r.2 z).filter bad))
      have hdone:done++[r]++todo=xk ns.length z:=by rw[←hd];simp
      have hgl:(done.filter good).length≤800:=by
       have h1:=List.length_filter_le good done
       have h2:done.length≤(xk ns.length z).length:=by rw[←hd];simp
       have h3:=fH (n:=ns.length) (z:=z) (by omega)
       omega
      simp only[newList,EVl,zK,zG,Bool.false_eq_true,if_false]
      rw[c5]
      simp only[zD,zF]
      cases hP:oH z p r with
      |false=>
       refine .inl ⟨rfl,done++[r],todo,hdone,rfl,?_⟩
       rw[List.filter_append]
       simp[good,hP]
      |true=>
       have hone:=dD (h:=(h:Int)) hp (show oH z p (r.1,r.2)=true from hP)
       have hempty:(((xK r.1 r.2 z).filter bad).map Val.int).isEmpty=y0 (putL ns p h) r.1 r.2 z:=by
        rw[hone,List.isEmpty_map,Bool.eq_iff_iff,List.isEmpty_iff,List.filter_eq_nil_iff,List.all_eq_true]
        unfold xK
        have hbk:∀k,bad ((r.1+k*r.2:Nat):Int)=!(oG ns p h r.1 r.2 k):=fun k=>by
         have:(((r.1+k*r.2:Nat):Int)=(p:Int))↔r.1+k*r.2=p:=by omega
         simp only[bad,oG,this,Int.toNat_natCast,Bool.not_or]
        constructor
        . intro H k hk
          have:=H _ (List.mem_map.mpr ⟨k,hk,rfl⟩)
          rw[hbk]at this
          simpa using this
        . intro H a ha
          obtain⟨k,hk,rfl⟩:=List.mem_map.mp ha
          rw[hbk,H k hk];simp
       simp only[hempty]at c6
       refine .inr ⟨rfl,?_⟩
       rw[c6]
       simp only[zD,zF]
       cases hO:y0 (putL ns p h) r.1 r.2 z with
       |false=>
        refine .inl ⟨rfl,done++[r],todo,hdone,rfl,?_⟩
        rw[List.filter_append]
        simp[good,hP,hO]
       |true=>
        refine .inr ⟨rfl,?_⟩
        rw[uL (by rw[List.length_map];unfold zP;omega)]
        simp only[zD]
        refine⟨done++[r],todo,hdone,rfl,?_⟩
        rw[List.filter_append]
        simp[good,hP,hO]
 . rintro e s' ⟨done,todo,o6,o7,o8,hd,hr,rfl,rfl⟩
   have ht:todo=[]:=by cases todo with|nil=>rfl|cons _ _=>cases hr
   subst ht
   rw[List.append_nil]at hd
   subst hd
   simp[EVl,zK,zG]
   rw[qN (vP _)]
   simp only[zD,xN,atP,List.filter_filter]
   refine⟨?_,trivial⟩
   congr 2
   refine List.filter_congr fun r _=>?_
   exact Bool.and_comm _ _
theorem jq(c:qe Φ){zs ns:List Int}{p:Nat}(hz:Sz zs)(hn:ns.length≤32)(hp:p<ns.length):run T Φ F.y8 [tpI zs,tpI ns,.int p] s=.ok (nZ (xt zs ns p)) s:=by
 rw[post_eq]
 simp[F.y8,EVl,zK,zG]
 refine rA (fun e=>∃o,e=[o,some (tpI zs),some (tpI ns),some (.int p)]) (fun x=>match x with|.int a=>if (xN ns (zd zs a.toNat) p a.toNat).isEmpty then [.int a] else []|_=>[]) ?_
 have h4:zs.length≤4:=hz.2.1
 simp[EVl,zK,zG,yU]
 refine⟨by unfold zP;omega,?_,?_⟩
 . intro x hx
   obtain⟨a,ha,rfl⟩:=w8 hx
   have c1:=c zs ns p a s hz hn hp ha
   simp only[tpI]at c1
   have c2:=eq_nil (s:=s) (u6 (xN ns (zd zs a) p a))
   simp[EVl,zK,zG,c1,newList,c2]
   cases h:xN ns (zd zs a) p a<;>simp
 . rw[iX (f:=fun a=>(xN ns (zd zs a) p a).isEmpty) (fun k _=>by simp)]
   simp[newList,EVl,zK,zG,blt,yN,oR,nZ,xt]
end
end M
end
section
namespace M
open PySem
section
variable {T:Tbl}{Φ:Calls}{s:Sto}
def j9(Φ:Calls):Prop:=∀(zs fs:List Int) (q h:Nat) (s:Sto),Sz zs→s[q]?=some (.lst (fs.map .int))→h<zs.length→fs.length≤40→(Φ "_law_ended" 0 [tpI zs,.ref q,.int h] s).post fun v s'=>∃b,v=.bool b∧s'=s
theorem jn{zs fs:List Int}{q h:Nat}(hz:Sz zs)(hq:s[q]?=some (.lst (fs.map .int)))(hh:h<zs.length)(hf:fs.length≤40):(run T Φ F.yO [tpI zs,.ref q,.int h] s).post fun v s'=>∃b,v=.bool b∧s'=s:=by
 obtain⟨z1,z2,z3⟩:=wk hz hh
 generalize hzz:zd zs h=z at *
 have c1:blt .len false [.ref q] s=.ok (.int fs.length) s:=by rw[et hq,List.length_map]
 have end':∀b:Bool,(zY false s (.bool b) s).post fun v s'=>∃b,v=.bool b∧s'=s:=fun b=>by
  rw[zg yd];exact zD.mpr ⟨_,rfl,rfl⟩
 have hd:((fs.length:Int))/((z:Int)-1)=((fs.length/(z-1):Nat):Int):=by
  rw[Int.natCast_ediv];congr 1;omega
 have hK:fs.length/(z-1)≤40:=Nat.le_trans (Nat.div_le_self _ _) hf
 rw[F.yO,xP]
 refine⟨rfl,?_⟩
 show (zZ Φ T.gl [some (tpI zs),some (.ref q),some (.int h),none,none,none] _ s).post _
 refine zh.mpr (gb.mpr (lx (zU (zA (zB rfl) zC) c1) (lx (xO (zB rfl) (zB rfl) (v7 z1)) (gZ.mpr (ly rfl ?_)))))
 show (zZ Φ T.gl [some (tpI zs),some (.ref q),some (.int h),some (.int fs.length),some (.int z),none] _ s).post _
 refine zh.mpr (y4 (fun rest e s'=>(∃o5,e=[some (tpI zs),some (.ref q),some (.int h),some (.int fs.length),some (.int z),o5])∧(∀x∈rest,∃d:Nat,x=.int d∧1≤d∧d≤fs.length/(z-1))∧s'=s) (zi ((1:Nat):Int) (fs.length/(z-1))) (s1:=s) (lg (i:=1) (j:=fs.length/(z-1)+1) zE (zw (zw (zB rfl) (zw (zB rfl) zE sM) ((bdiv (by omega)).trans (by rw[hd]))) zE uN) (by omega) (by omega)) ⟨⟨_,rfl⟩,?_,rfl⟩ ?_ ?_)
 . intro x hx
   obtain⟨k,hk,rfl⟩:=w8 hx
   exact⟨k+1,by congr 1;omega,by omega,by omega⟩
 . rintro x rest e s' ⟨⟨o5,rfl⟩,hr,rfl⟩
   obtain⟨d,rfl,d1,d2⟩:=hr x (.head _)
   refine⟨_,rfl,?_⟩
   have hdz:∀k:Nat,k≤z-1→k*d≤fs.length:=fun k hk=>by
    have h1:k*d≤(z-1)*(fs.length/(z-1)):=Nat.mul_le_mul hk d2
    have h2:(z-1)*(fs.length/(z-1))≤fs.length:=Nat.mul_div_le _ _
    omega
   have hc:∀N,evE Φ T.gl [some (tpI zs),some (.ref q),some (.int h),some (.int fs.length),some (.int z),some (.int d)] (.comp false N [none,some 2,some 1,some 3,some 5] (.var 0) (.nm 0) (.range2 (.lit (.int 1)) (.var 4)) (.cons (.val (.cmp .ne (.ix (.var 2) (.bin false .sub (.var 3) (.bin false .mul (.var 0) (.var 4)))) (.var 1))) .nil)) s'=.ok (.lst ((((List.range (z-1)).map fun(k:Nat)=>((1:Nat):Int)+(k:Int)).filter fun k=>!decide (fs.getD ((fs.length:Int)-k*d).toNat 0=(h:Int))).map .int)) s':=fun N=>
    X8 (e0:=[some (.int h),some (.ref q),some (.int fs.length),some (.int d)]) ((lg (i:=1) zE (zB rfl) (by omega) (by omega)).trans (by unfold zi;rw[List.map_map];rfl)) rfl fun i hi=>by
     obtain⟨k,hk,rfl⟩:=List.mem_map.mp hi
     have hk:=List.mem_range.mp hk
     have hk1:=hdz (k+1) (by omega)
     have hpos:1≤(k+1)*d:=Nat.mul_le_mul (show 1≤k+1 by omega) d1
     have e4:(fs.length:Int)-(((1:Nat):Int)+(k:Int))*(d:Int)=((fs.length-(k+1)*d:Nat):Int):=by
      rw[show ((1:Nat):Int)+(k:Int)=((k+1:Nat):Int) by omega,←Int.natCast_mul]
      omega
     have hlt:fs.length-(k+1)*d<fs.length:=by omega
     refine fY (zO (zf (xO (zB rfl) (zw (zB rfl) (zw (zB rfl) (zB rfl) (qD (by omega))) (sM.trans (by rw[e4]))) (sZ (v:=.int fs[fs.length-(k+1)*d]) hq ?_)) (zB rfl) ne_int) (zF.trans ?_))
     . rw[List.getElem?_map,List.getElem?_eq_getElem hlt];rfl
     . rw[e4,Int.toNat_natCast,List.getD_eq_getElem?_getD,List.getElem?_eq_getElem hlt];rfl
   generalize (((List.range (z-1)).map fun(k:Nat)=>((1:Nat):Int)+(k:Int)).filter fun k=>!decide (fs.getD ((fs.length:Int)-k*d).toNat 0=(h:Int)))=L at hc
   have ht:=fun N=>zO (zf (hc N) (wO (zC (Φ:=Φ) (G:=T.gl)) (Nat.zero_le _)) (eq_nil (ve L))) zF
   generalize (L.map Val.int).isEmpty=b at ht
   cases b with
   |false=>exact yH (ht _) (yt ⟨⟨_,rfl⟩,fun x hx=>hr x (.tail _ hx),rfl⟩)
   |true=>exact yI (ht _) (zX zE (end' _))
 . rintro e s' ⟨⟨o5,rfl⟩,hr,rfl⟩
   exact zX zE (end' _)
def m6(Φ:Calls):Prop:=∀(p:Nat) (zs:List Int) (m n:Nat) (s:Sto),xF s p→Sz zs→m≤32→n≤100→(Φ "_law_draft" 0 [.ref p,tpI zs,.int m,.int n] s).post fun v s'=>∃ns,v=tpI ns∧Dr zs ns∧yR s p s'
theorem mQ(cD:mx Φ)(cE:j9 Φ){p:Nat}{zs:List Int}{m n:Nat}(hp:xF s p)(hz:Sz zs)(hm:m≤32)(hn:n≤100):(run T Φ F.yj [.ref p,tpI zs,.int m,.int n] s).post fun v s'=>∃ns,v=tpI ns∧Dr zs ns∧yR s p s':=by
 have hpl:=hp.lt
 have hz1:=hz.1
 have hz4:=hz.2.1
 simp[F.yj,EVl,zK,zG,uN]
 refine zJ (cD p 3 s hp (by omega) (by omega)) ?_
 rintro v s1 ⟨way,rfl,hway,t1⟩
 refine zJ (cD p (m+1) s1 (t1.at_ hpl) (by omega) (by omega)) ?_
 rintro v s2 ⟨len,rfl,hlen,t2'⟩
 have t2:=t1.trans t2'
 refine zJ (cD p (n+1) s2 (t2.at_ hpl) (by omega) (by omega)) ?_
 rintro v s3 ⟨many,rfl,hmany,t3'⟩
 have t3:=t2.trans t3'
 refine pK (fun rest e s' acc=>(∃o,e=[o,some (.ref p),some (.int len)])∧yR s p s'∧∃ks:List Int,acc=ks.map .int) ?_
 refine⟨⟨zi 0 many,none⟩,s3,?_,⟨⟨_,rfl⟩,t3,[],rfl⟩,fun _ _ _ _ _=>rfl,?_,?_⟩
 . rw[post_eq];simp[EVl,zK,zG];unfold zP;omega
 . rintro x rest e s' acc ⟨⟨o,rfl⟩,t,ks,rfl⟩
   refine⟨_,rfl,?_⟩
   have c1:blt .max false [.int 1,.int len] s'=.ok (.int (if (len:Int) > 1 then len else 1)) s':=by simp[blt]
   simp[EVl,zK,zG]
   rw[c1]
   simp only[zD]
   refine zJ (cD p _ s' (t.at_ hpl) (by split<;>omega) (by split<;>omega)) ?_
   rintro v s4 ⟨r,rfl,hr,t4⟩
   exact⟨t.trans t4,ks++[(r:Int)],by simp⟩
 . rintro e s' acc ⟨_,t,ks,rfl⟩
   simp[newList,EVl,zK,zG]
   have hlen32:len≤32:=by omega
   refine y4 (fun rest e s2=>(∃o9 o10 o11,e=[some (.ref p),some (tpI zs),some (.int m),some (.int n),some (.int way),some (.int len),some (.int many),some (.lst (ks.map .int)),some (.ref s'.length),o9,o10,o11])∧∃sp fs,yR s p sp∧s2=sp++[.lst (fs.map .int)]∧(∀x∈fs,(0:Int)≤x∧x<zs.length)∧fs.length+rest.length=len) (zi 0 len) (s1:=s'++[.lst []]) ?_ ⟨⟨_,_,_,rfl⟩,s',[],t,rfl,by simp,by rw[pR];simp⟩ ?_ ?_
   . rw[post_eq];simp[EVl,zK,zG];unfold zP;omega
   . rintro x rest e s2 ⟨⟨o9,o10,o11,rfl⟩,sp,fs,tp,rfl,hfs,hl⟩
     rw[List.length_cons]at hl
     refine⟨_,rfl,?_⟩
     have lp:sp.length=s.length:=tp.len
     have lq:s'.length=sp.length:=by rw[t.len,lp]
     simp[EVl,zK,zG,yU]
     refine zJ (cD p zs.length (sp++[.lst (fs.map .int)]) ((tp.at_ hpl).up _) (by omega) (by omega)) ?_
     rintro v s4 ⟨h0,rfl,hh0,t4⟩
     obtain⟨sq,tq,rfl⟩:=t4.app (by rw[lp];exact hpl)
     have lsq:sq.length=sp.length:=tq.len
     have hcell:(sq++[Cel.lst (fs.map Val.int)])[s'.length]?=some (.lst (fs.map .int)):=by rw[lq,←lsq];simp
     have c1:∀b:Bool,binOp false .mul (.int zs.length) (.int (if b then 1 else 0)) (sq++[Cel.lst (fs.map Val.int)])=.ok (.int ((zs.length:Int)*(if b then 1 else 0))) (sq++[Cel.lst (fs.map Val.int)]):=fun b=>qD (by omega)
     have hcnt:∃c:Nat,(zs.length:Int)*(if decide ((0:Int)<(way:Int)) then 1 else 0)=c∧c≤4:=by
      by_cases hw:(0:Int)<(way:Int)
      . exact⟨zs.length,by rw[decide_eq_true hw];simp,hz4⟩
      . exact⟨0,by rw[decide_eq_false hw];simp,by omega⟩
     obtain⟨cnt,hcnt,hc4⟩:=hcnt
     refine y4 (fun rest2 e s2=>(∃(h:Nat) (o11:Option Val),h<zs.length∧e=[some (.ref p),some (tpI zs),some (.int m),some (.int n),some (.int way),some (.int len),some (.int many),some (.lst (ks.map .int)),some (.ref s'.length),some x,some (.int h),o11])∧s2=sq++[.lst (fs.map .int)]) (zi 0 cnt) (s1:=sq++[.lst (fs.map .int)]) ?_ ⟨⟨h0,_,by omega,rfl⟩,rfl⟩ ?_ ?_
     . rw[post_eq]
       have e0:∀(b:Bool) s,blt .int false [.bool b] s=.ok (.int (if b then 1 else 0)) s:=fun _ _=>rfl
       simp only[EVl,zK,zG]
       refine⟨_,rfl,?_⟩
       rw[yU];simp only[zD,List.length_map]
       refine⟨_,rfl,?_⟩
       rw[gt_int];simp only[zD]
       rw[e0];simp only[zD]
       rw[c1];simp only[zD]
       refine⟨_,rfl,?_,?_⟩
       . rw[hcnt];unfold zP;omega
       . rw[hcnt];simp
     . rintro y rest2 e s2 ⟨⟨h,o11,hh,rfl⟩,rfl⟩
       refine⟨_,rfl,?_⟩
       simp[EVl,zK,zG]
       refine zJ (cE zs fs s'.length h _ hz hcell hh (by omega)) ?_
       rintro v s5 ⟨b,rfl,rfl⟩
       simp only[zF]
       cases b with
       |false=>exact .inl ⟨rfl,⟨h,hh,rfl⟩,trivial⟩
       |true=>
        refine .inr ⟨rfl,?_⟩
        rw[uN];simp only[zD]
        rw[yU];simp only[zD,List.length_map]
        rw[bmod (by omega)];simp only[zD]
        refine⟨⟨(h+1)%zs.length,Nat.mod_lt _ (by omega),?_⟩,trivial⟩
        congr 1
     . rintro e s2 ⟨⟨h,o11,hh,rfl⟩,rfl⟩
       simp[EVl,zK,zG]
       rw[show s'.length=sq.length by rw[lq,lsq],uL (by rw[List.length_map];unfold zP;omega)]
       simp only[zD]
       refine⟨sq,tp.trans tq,fs++[(h:Int)],by simp,?_,by simp;omega⟩
       intro x hx
       rcases List.mem_append.mp hx with hx|hx
       . exact hfs x hx
       . rw[List.mem_singleton.mp hx];omega
   . rintro e s2 ⟨⟨o9,o10,o11,rfl⟩,sp,fs,tp,rfl,hfs,hl⟩
     simp[EVl,zK,zG]
     have hl:fs.length=len:=by simpa using hl
     have lq:s'.length=sp.length:=by rw[t.len,tp.len]
     have hcell:(sp++[Cel.lst (fs.map Val.int)])[s'.length]?=some (.lst (fs.map .int)):=by rw[lq];simp
     let f:Nat→Int:=fun k=>if ks.any (fun z=>z == (k:Int)) then -1 else fs.getD k 0
     refine vi (fun e=>∃o,e=[o,some (.lst (ks.map .int)),some (.ref s'.length)]) (fun x=>match x with|.int k=>[.int (f k.toNat)]|_=>[]) (zi 0 len) (s1:=sp++[.lst (fs.map .int)]) ?_ ⟨_,rfl⟩ ?_ ?_
     . rw[post_eq];simp[EVl,zK,zG];unfold zP;omega
     . rintro x hx e ⟨o,rfl⟩
       obtain⟨k,hk,rfl⟩:=w8 hx
       refine⟨_,rfl,⟨_,rfl⟩,?_⟩
       have hk':k<fs.length:=by omega
       have c1:xw (.ref s'.length) (.int k) (sp++[.lst (fs.map .int)])=.ok (.int fs[k]) (sp++[.lst (fs.map .int)]):=sZ hcell (by rw[List.getElem?_map,List.getElem?_eq_getElem hk'];rfl)
       have c2:=lW (x:=(k:Int)) (ks:=ks) (s:=sp++[.lst (fs.map .int)])
       have e1:fs.getD k 0=fs[k]:=by rw[List.getD_eq_getElem?_getD,List.getElem?_eq_getElem hk'];rfl
       simp only[Int.zero_add]
       simp[EVl,zK,zG]
       rw[c2]
       simp only[zD,zF]
       have e2:f k=if ks.any (fun z=>z == (k:Int)) then -1 else fs[k]:=by rw[←e1]
       simp only[Int.toNat_natCast,e2]
       generalize ks.any (fun z=>z == (k:Int))=b
       cases b with
       |false=>
        refine .inl ⟨rfl,?_⟩
        rw[c1];simp[EVl,zK,zG]
       |true=>exact .inr ⟨rfl,by simp[EVl,zK,zG]⟩
     . have hfl:(zi 0 len).flatMap (fun x=>match x with|.int k=>[Val.int (f k.toNat)]|_=>[])=((List.range len).map f).map .int:=by
        unfold zi
        rw[List.flatMap_map,List.map_map,←oE]
        congr 1
        funext k
        simp
       rw[hfl]
       simp only[newList,EVl,zK,zG,Bool.false_eq_true,if_false]
       have c3:∀(vs:List Val) s,blt .tuple false [.lst vs] s=.ok (.tup vs) s:=fun _ _=>rfl
       rw[c3]
       simp only[zD]
       rw[qM tp (by rw[v9];exact wM _)]
       simp only[zD]
       refine⟨(List.range len).map f,rfl,⟨by rw[List.length_map,List.length_range];omega,?_⟩,tp⟩
       intro x hx
       obtain⟨k,hk,rfl⟩:=List.mem_map.mp hx
       have hk:=List.mem_range.mp hk
       have hk':k<fs.length:=by omega
       have e1:fs.getD k 0=fs[k]:=by rw[List.getD_eq_getElem?_getD,List.getElem?_eq_getElem hk'];rfl
       have:=hfs fs[k] (List.getElem_mem hk')
       show -1≤(if ks.any (fun z=>z == (k:Int)) then (-1:Int) else fs.getD k 0)∧(if ks.any (fun z=>z == (k:Int)) then (-1:Int) else fs.getD k 0)<zs.length
       rw[e1]
       split<;>omega
end
end M
end
section
namespace M
open PySem
theorem jJ{k w:Nat}{d:PyData}(L:L2.vH k w d)(hk:k≤50)(hw:w≤300000)(hd:d.hasDict=false):tG d=true:=by
 have:=L.dp
 have:=L.wt
 unfold tG
 rw[L.sh,L.lf,hd,decide_eq_true (show d.depth≤50 by omega),decide_eq_true (show d.weight≤300000 by omega)]
 rfl
theorem lO:∀ks:List Int,ds (ks.map .int)=ks.map PyData.int
 |[]=>by rw[List.map_nil,ds];rfl
 |k::ks=>by rw[List.map_cons,ds,lO ks,Val.d];rfl
theorem ne_str{a b:Str}{s:Sto}:zT .ne (.str a) (.str b) s=.ok (.bool !(decide (a=b))) s:=rfl
theorem oQ:∀{n:Nat} {vs:List Val} {x:Val},x∈yC n vs→∃k v,vs[k]?=some v∧x=.tup [.int ((n+k:Nat):Int),v]
 |_,[],_,h=>by cases h
 |n,v::vs,x,h=>by
  rw[yC]at h
  rcases List.mem_cons.mp h with e|h
  . exact⟨0,v,rfl,e⟩
  . obtain⟨k,w,h1,h2⟩:=oQ h
    refine⟨k+1,w,by simpa using h1,?_⟩
    rw[h2]
    congr 3;omega
noncomputable def f7:Val→List Val
 |.tup [.int i,.int v]=>if v=-1 then [.int i] else []
 |_=>[]
noncomputable def qj(ms:List Int):List Val:=(yC 0 (ms.map .int)).flatMap f7
theorem kZ{Φ:Calls}{G:Str→Option Val}{env:Env}{s:Sto}{N:List Str}{ms:List Int}{i:Nat}(hi:env[i]?=some (some (tpI ms))) :
 evE Φ G env (.comp false N [none,none] (.var 0) (.nms [0,1]) (.enum (.var i)) (.cons (.val (.cmp .eq (.var 1) (.neg (.lit (.int 1))))) .nil)) s=.ok (.lst (qj ms)) s:=by
 rw[post_eq]
 refine vi (fun e=>∃a b,e=[a,b]) f7 (yC 0 (ms.map .int)) (s1:=s) ?_ ⟨_,_,rfl⟩ ?_ ?_
 . rw[post_eq]
   simp[EVl,zK,zG,hi]
 . rintro x hx e ⟨a,b,rfl⟩
   obtain⟨k,v,h1,rfl⟩:=oQ hx
   rw[List.getElem?_map]at h1
   obtain⟨j,h2,rfl⟩:=Option.map_eq_some_iff.mp h1
   refine⟨_,rfl,⟨_,_,rfl⟩,?_⟩
   simp[EVl,zK,zG,eq_int,f7]
   by_cases h:j=-1<;>simp[h]
 . simp[newList,EVl,zK,zG,qj]
theorem max2{m:Bool}{i j:Int}{s:Sto}:blt .max m [.int i,.int j] s=.ok (.int (if j > i then j else i)) s:=rfl
theorem min2{m:Bool}{i j:Int}{s:Sto}:blt .min m [.int i,.int j] s=.ok (.int (if j<i then j else i)) s:=rfl
theorem iW{Φ:Calls}{G:Str→Option Val}{env:Env}{s:Sto}{ns:List Int}{K:Nat}(h0:env[0]?=some (some (.scr ns)))(hK:K≤100) :
 yT Φ G env (.range1 (.blt .max false (.cons (.lit (.int 1)) (.cons (.blt .min false (.cons (.blt .len false (.cons (.var 0) .nil)) (.cons (.lit (.int K)) .nil))) .nil)))) s=.ok ⟨zi 0 (max 1 (min ns.length K)),none⟩ s:=by
 rw[post_eq]
 simp only[EVl,zK,zG]
 refine⟨_,h0,?_⟩
 rw[gI];simp only[zD]
 rw[min2];simp only[zD]
 rw[max2];simp only[zD]
 have e:(if (if (K:Int)<(ns.length:Int) then (K:Int) else (ns.length:Int)) > 1 then (if (K:Int)<(ns.length:Int) then (K:Int) else (ns.length:Int)) else 1)=((max 1 (min ns.length K):Nat):Int):=by
  split<;>split<;>omega
 rw[e]
 refine⟨_,rfl,⟨by omega,by unfold zP;omega⟩,?_⟩
 simp
theorem leave_top{v:Val}{s:Sto}(h:v.noRef=true):zY false [] v s=.ok v []:=by
 unfold zY
 simp[wC,freeze,h]
end M
end
section
namespace M
open PySem
noncomputable def sJ:Nat→List Int→List Nat
 |_,[]=>[]
 |n,v::vs=>if v=-1 then n::sJ (n+1) vs else sJ (n+1) vs
theorem qC:∀(n:Nat) (ms:List Int),(yC n (ms.map .int)).flatMap f7=(sJ n ms).map fun(k:Nat)=>Val.int k
 |_,[]=>rfl
 |n,v::vs=>by
  rw[List.map_cons,yC,List.flatMap_cons,qC (n+1) vs,sJ]
  show (if v=-1 then [Val.int n] else [])++_=_
  by_cases h:v=-1
  . rw[if_pos h,if_pos h];rfl
  . rw[if_neg h,if_neg h];rfl
theorem nO(ms:List Int):qj ms=(sJ 0 ms).map fun(k:Nat)=>Val.int k:=qC 0 ms
theorem kX{ms:List Int}{p h:Nat}(hp:ms[p]?=some (-1)):(putL ms p (h:Int)).count (-1)+1=ms.count (-1):=by
 have hlt:=uO hp
 have e:ms[p]=-1:=by rw[List.getElem?_eq_getElem hlt]at hp;exact Option.some.inj hp
 have hm:0<ms.count (-1):=List.count_pos_iff.mpr (by rw[←e];exact List.getElem_mem hlt)
 rw[uc hlt,List.count_set hlt,e]
 have:((h:Int) == -1)=false:=by rw[beq_eq_false_iff_ne];omega
 rw[this]
 simp
 omega
theorem Dr.put{zs ms:List Int}{p h:Nat}(hd:Dr zs ms)(hp:p<ms.length)(hh:h<zs.length):Dr zs (putL ms p (h:Int)):=by
 refine⟨by rw[ot hp];exact hd.1,fun x hx=>?_⟩
 rw[uc hp]at hx
 rcases List.mem_or_eq_of_mem_set hx with h|h
 . exact hd.2 x h
 . rw[h];omega
theorem jB{zs ms:List Int}{p h:Nat}(hm:h∈xt zs ms p):h<zs.length:=by
 unfold xt at hm
 exact List.mem_range.mp (List.mem_filter.mp hm).1
section
variable {T:Tbl}{Φ:Calls}{s:Sto}
theorem is_none{v:Val}{s:Sto}:zT .isNot v .none s=.ok (.bool !v.isN) s:=rfl
end
end M
end
section
namespace M
open PySem
section
variable {T:Tbl}{Φ:Calls}{s:Sto}
def iB(Φ:Calls):Prop:=∀(ns:List Int) (p:Nat) (h:Int) (s:Sto),p<ns.length→ns.length≤1000→Φ "_law_put" 0 [tpI ns,.int p,.int h] s=.ok (tpI (putL ns p h)) s
theorem fM{ns:List Int}{p:Nat}{h:Int}(hp:p<ns.length)(hn:ns.length≤1000):run T Φ F.x8 [tpI ns,.int p,.int h] s=.ok (tpI (putL ns p h)) s:=nC (T:=T) (Φ:=Φ) hp hn
end
end M
end
section
namespace M
open PySem
theorem bz{zs ms:List Int}{p o:Nat}{r:Nat × Nat}(hz:Sz zs)(hm:ms.length≤32)(ho:o<zs.length)(hr:r∈xN ms (zd zs o) p o):r.1≤40∧r.2≤40:=by
 obtain⟨_,z2,_⟩:=wk hz ho
 have h1:=vf z2 (List.mem_filter.mp (List.mem_filter.mp hr).1).1
 have:r.2*1≤r.2*(zd zs o-1):=Nat.mul_le_mul_left _ (by omega)
 omega
end M
end
section
namespace M
open PySem
theorem ne_nil{vs:List Val}{s:Sto}(h:xh vs=true):zT .ne (.lst vs) (.lst []) s=.ok (.bool !vs.isEmpty) s:=by
 have h1:(Val.lst vs).isD=true:=by rw[Val.isD];exact h
 have h2:(Val.lst []).isD=true:=by rw[Val.isD,xh]
 have h3:(Val.lst []).d=.list []:=by rw[Val.d,ds]
 have h4:(Val.lst vs).d=.list (ds vs):=by rw[Val.d]
 have h5:PyData.eqv (.list (ds vs)) (.list [])=vs.isEmpty:=by
  cases vs with
  |nil=>rw[ds];rfl
  |cons v vs=>rw[ds];rfl
 simp only[zT,zr,yM,oC,h1,h2,h3,h4,h5]
 rfl
end M
end
section
namespace M
open L2
theorem f6{ms:List Int}{z p:Nat}{h:Int}{f d:Nat}(hp:p<ms.length):(f,d)∈xN ms z p h↔(f,d)∈xk ms.length z∧oH z p (f,d)=true∧∀k<z,f+k*d=p∨ms[f+k*d]?=some h:=by
 have hput:putL ms p h=ms.set p h:=by rw[List.set_eq_take_append_cons_drop,if_pos hp];rfl
 have get:∀q,(ms.set p h)[q]?=if q=p then some h else ms[q]?:=fun q=>by
  by_cases e:q=p
  . subst e;rw[if_pos rfl,List.getElem?_set_self hp]
  . rw[if_neg e,List.getElem?_set_ne (fun z=>e z.symm)]
 unfold xN atP
 rw[List.mem_filter,List.mem_filter,and_assoc]
 refine and_congr_right fun _=>and_congr_right fun hP=>?_
 obtain⟨k0,hk0,e0⟩:=List.any_eq_true.mp hP
 have e0:f+k0*d=p:=of_decide_eq_true e0
 have hk0:=List.mem_range.mp hk0
 rw[hput]
 unfold y0
 rw[List.all_eq_true]
 have p0:(ms.set p h)[f+k0*d]?=some h:=by rw[get,if_pos e0]
 constructor
 . intro H k hk
   by_cases e:f+k*d=p
   . exact .inl e
   . have h1:=of_decide_eq_true (H k0 (List.mem_range.mpr hk0))
     have h2:=of_decide_eq_true (H k (List.mem_range.mpr hk))
     rw[←h1,p0,get,if_neg e]at h2
     exact .inr h2
 . intro H
   have all:∀k<z,(ms.set p h)[f+k*d]?=some h:=fun k hk=>by
    rw[get];split
    . rfl
    . rename_i e;exact(H k hk).resolve_left e
   intro k hk
   have h0:=all 0 (by omega)
   rw[Nat.zero_mul,Nat.add_zero]at h0
   rw[decide_eq_true_iff,all k (List.mem_range.mp hk),h0]
structure Bl(ms:List Int)(b:List Nat):Prop where
 mem:∀i:Nat,ms[i]?=some (-1)↔i∈b
 rise:b.Pairwise (·<·)
end M
end
section
namespace M
open PySem
noncomputable def endOf(ms:List Int)(st:List (Nat × Nat)):List Int:=st.foldl (fun ms q=>putL ms q.1 q.2) ms
noncomputable def SO(zs:List Int):List Int→List (Nat × Nat)→Prop
 |_,[]=>True
 |ms,(p,h)::st=>ms[p]?=some (-1)∧xt zs ms p=[h]∧SO zs (putL ms p h) st
theorem SO.append{zs:List Int}:∀{st st':List (Nat × Nat)} {ms:List Int},SO zs ms st→SO zs (endOf ms st) st'→SO zs ms (st++st')
 |[],_,_,_,h=>h
 |(p,h)::st,st',ms,⟨a,b,c⟩,d=>⟨a,b,SO.append c d⟩
theorem jw{zs ms:List Int}{p h:Nat}(ho:xt zs ms p=[h]):h<zs.length∧xN ms (zd zs h) p h=[]∧∀o,o<zs.length→o≠h→xN ms (zd zs o) p o≠[]:=by
 have hm:h∈xt zs ms p:=by rw[ho];exact .head _
 refine⟨jB hm,?_,fun o h1 h2 h3=>h2 ?_⟩
 . unfold xt at hm
   exact List.isEmpty_iff.mp (List.mem_filter.mp hm).2
 . have:o∈xt zs ms p:=by unfold xt;exact List.mem_filter.mpr ⟨List.mem_range.mpr h1,by rw[h3];rfl⟩
   rw[ho]at this
   exact List.mem_singleton.mp this
theorem d9{ms:List Int}{p:Nat}{h:Int}{x:Int}(hp:ms[p]?=some x):putL ms p h=ms.set p h:=uc (uO hp)
end M
end
section
namespace M
open PySem
structure Th(k w:Nat)(v:Val):Prop where
 nr:v.noRef=true
 kd:kindOf v≠none
 r:v.isR=true
 lf:L2.vH k w v.d
 nd:v.d.hasDict=false
 dr:∀s,yM s v=v
theorem Th.mono{k w k' w':Nat}{v:Val}(h:Th k w v)(h1:k≤k')(h2:w≤w'):Th k' w' v:=⟨h.nr,h.kd,h.r,h.lf.mono h1 h2,h.nd,h.dr⟩
theorem YA{i:Int}(h1:-(10 ^ 30)<i)(h2:i<10 ^ 30):Th 0 100 (.int i):=⟨vQ,nofun,by rw[Val.isR],by rw[Val.d];exact L2.gL h1 h2,by rw[Val.d];rfl,fun _=>rfl⟩
theorem cx(b:Bool):Th 0 100 (.bool b):=⟨yd,nofun,by rw[Val.isR],by rw[Val.d];exact(L2.kq b).mono (Nat.le_refl _) (Nat.zero_le _),by rw[Val.d];rfl,fun _=>rfl⟩
theorem cy:Th 0 100 .none:=⟨sA,nofun,by rw[Val.isR],by rw[Val.d];exact L2.ku.mono (Nat.le_refl _) (Nat.zero_le _),by rw[Val.d];rfl,fun _=>rfl⟩
theorem YC{x:Str}(h1:∀c∈x.cps.toList,c<16 ^ 8)(h2:x.cps.size≤100):Th 0 100 (.str x):=⟨gR,nofun,by rw[Val.isR],by rw[Val.d];exact L2.gM h1 h2,by rw[Val.d];rfl,fun _=>rfl⟩
theorem ths{k w:Nat}:∀{vs:List Val},(∀v∈vs,Th k w v)→zj vs=true∧tf vs=true∧(ds vs).length=vs.length∧∀d∈ds vs,L2.vH k w d∧d.hasDict=false
 |[],_=>⟨vg,by rw[tf],by rw[ds];rfl,fun d h=>by rw[ds]at h;cases h⟩
 |v::vs,h=>by
  obtain⟨a,b,c,e⟩:=ths fun x hx=>h x (.tail _ hx)
  have t:=h v (.head _)
  refine⟨by rw[yx,t.nr,a];rfl,by rw[tf,t.r,b];rfl,by rw[ds,List.length_cons,List.length_cons,c],fun d hd=>?_⟩
  rw[ds]at hd
  rcases List.mem_cons.mp hd with rfl|hd
  . exact⟨t.lf,t.nd⟩
  . exact e d hd
theorem fT{k w n:Nat}{vs:List Val}(h:∀v∈vs,Th k w v)(hn:vs.length≤n):Th (k+1) (n*(w+1)) (.tup vs):=by
 obtain⟨a,b,c,e⟩:=ths h
 refine⟨by rw[v9];exact a,nofun,by rw[Val.isR];exact b,by rw[Val.d];exact L2.nj (fun d hd=>(e d hd).1) (by rw[c];exact hn),?_,fun _=>rfl⟩
 rw[Val.d,PyData.hasDict]
 exact L2.tE fun d hd=>(e d hd).2
theorem YB{k w n:Nat}{vs:List Val}(h:∀v∈vs,Th k w v)(hn:vs.length≤n):Th (k+1) (n*(w+1)) (.lst vs):=by
 obtain⟨a,b,c,e⟩:=ths h
 refine⟨by rw[nv];exact a,nofun,by rw[Val.isR];exact b,by rw[Val.d];exact L2.kr (fun d hd=>(e d hd).1) (by rw[c];exact hn),?_,fun _=>rfl⟩
 rw[Val.d,PyData.hasDict]
 exact L2.tE fun d hd=>(e d hd).2
theorem lG{α:Type}{xs:List α}{lo hi:Option Int}:(xu xs lo hi).length≤xs.length:=by
 unfold xu
 rw[List.length_take,List.length_drop]
 omega
theorem lH{α:Type}{xs:List α}{lo hi:Option Int}{x:α}(h:x∈xu xs lo hi):x∈xs:=by
 unfold xu at h
 exact List.mem_of_mem_drop (List.mem_of_mem_take h)
theorem pY{m:Bool}{vs:List Val}{lo hi:Option Int}{s:Sto}:wU m (.tup vs) lo hi none s=.ok (.tup (xu vs lo hi)) s:=rfl
theorem rq{a b:List Val}{s:Sto}(h:a.length+b.length≤zP):binOp false .add (.lst a) (.lst b) s=.ok (.lst (a++b)) s:=by
 simp only[binOp,yN];rw[if_pos h];rfl
end M
end
section
namespace M
open PySem
theorem fg{l m i:Int}:zl l m (.int i)=(decide (l≤i)&&decide (i≤m)):=rfl
end M
end
section
namespace M
open PySem
theorem qk:∀{ms:List Int} {n i:Nat},i∈sJ n ms↔n≤i∧ms[i-n]?=some (-1)
 |[],n,i=>⟨nofun,fun h=>by simp at h⟩
 |v::ms,n,i=>by
  have ih:=qk (ms:=ms) (n:=n+1) (i:=i)
  unfold sJ
  by_cases hv:v=-1
  . rw[if_pos hv,List.mem_cons,ih]
    constructor
    . rintro (rfl|⟨h1,h2⟩)
      . exact⟨Nat.le_refl _,by rw[Nat.sub_self,hv];rfl⟩
      . refine⟨by omega,?_⟩
        rw[show i-n=(i-(n+1))+1 by omega];exact h2
    . rintro ⟨h1,h2⟩
      by_cases e:i=n
      . exact .inl e
      . refine .inr ⟨by omega,?_⟩
        rw[show i-n=(i-(n+1))+1 by omega]at h2;exact h2
  . rw[if_neg hv,ih]
    constructor
    . rintro ⟨h1,h2⟩
      refine⟨by omega,?_⟩
      rw[show i-n=(i-(n+1))+1 by omega];exact h2
    . rintro ⟨h1,h2⟩
      by_cases e:i=n
      . rw[e,Nat.sub_self]at h2
        exact absurd (Option.some.inj h2) hv
      . refine⟨by omega,?_⟩
        rw[show i-n=(i-(n+1))+1 by omega]at h2;exact h2
theorem sL:∀(ms:List Int) (n:Nat),(sJ n ms).Pairwise (·<·)
 |[],_=>.nil
 |v::ms,n=>by
  unfold sJ
  by_cases hv:v=-1
  . rw[if_pos hv]
    exact List.pairwise_cons.mpr ⟨fun i hi=>by have:=(qk.mp hi).1;omega,sL ms (n+1)⟩
  . rw[if_neg hv];exact sL ms (n+1)
theorem aA(ds:List Int):Bl ds (sJ 0 ds):=⟨fun i=>by rw[qk];simp,sL ds 0⟩
end M
end
section
namespace M
open PySem
theorem qc{l m:Int}{v:Val}(h:zl l m v=true):∃i,v=.int i∧l≤i∧i≤m:=by
 cases v with
 |int i=>
  rw[fg,Bool.and_eq_true]at h
  exact⟨i,rfl,of_decide_eq_true h.1,of_decide_eq_true h.2⟩
 |_=>cases h
end M
end
section
namespace F31
open PySem M
noncomputable def yl:Fn:=⟨["_law_thing"],["_law_thing"],false,(.cons (.ret (.andE (.blt .isi false (.cons (.var 0) (.cons (.ty "int" "int") .nil))) (.cons (.not (.blt .isi false (.cons (.var 0) (.cons (.ty "bool" "bool") .nil)))) .nil))) .nil)⟩
noncomputable def yg:Fn:=⟨["_law_sizes","_law_draft","_law_rows_here","_law_blank","_law_papers","_law_hue","_law_paper"],["_law_sizes","_law_draft"],false,(.cons (.asg 2 (.call "_law_wrong" 0 (.cons (.var 0) (.cons (.var 1) .nil)))) (.cons (.ifS (.val (.cmp .ne (.var 2) (.lst false .nil))) (.cons (.ret (.bin false .add (.tup (.cons (.lit (.str "row")) .nil)) (.ix (.var 2) (.neg (.lit (.int 1)))))) .nil) .nil) (.cons (.asg 3 (.comp false ["_law_place","_law_hue"] [none,none] (.var 0) (.nms [0,1]) (.enum (.var 1)) (.cons (.val (.cmp .eq (.var 1) (.neg (.lit (.int 1))))) .nil))) (.cons (.ifS (.val (.cmp .eq (.var 3) (.lst false .nil))) (.cons (.ret (.lit .none)) .nil) .nil) (.cons (.asg 4 (.lst true .nil)) (.cons (.forS (.nm 5) (.range1 (.blt .len false (.cons (.var 0) .nil))) (.cons (.asg 6 (.call "_law_made" 0 (.cons (.var 0) (.cons (.bin false .add (.bin false .add (.sl false (.var 1) .no (.yes (.ix (.var 3) (.neg (.lit (.int 1))))) .no) (.tup (.cons (.var 5) .nil))) (.sl false (.var 1) (.yes (.bin false .add (.ix (.var 3) (.neg (.lit (.int 1)))) (.lit (.int 1)))) .no .no)) .nil)))) (.cons (.ifS (.val (.cmp .is (.var 6) (.lit .none))) (.cons (.ret (.lit .none)) .nil) .nil) (.cons (.expr (.yi .append false (.var 4) (.cons (.var 6) .nil))) .nil)))) (.cons (.ret (.tup (.cons (.lit (.str "cases")) (.cons (.ix (.var 3) (.neg (.lit (.int 1)))) (.cons (.blt .tuple false (.cons (.var 4) .nil)) .nil))))) .nil)))))))⟩
noncomputable def yf:Fn:=⟨["_law_pen_here","_law_paper","_law_deep","_law_at","_law_inner","_law_way","_law_to","_law_word","_law_one","_law_other","_law_odd","_law_words"],["_law_pen_here","_law_paper","_law_deep"],false,(.cons (.ifS (.and (.val (.cmp .eq (.ix (.var 1) (.lit (.int 0))) (.lit (.str "cases")))) (.cons (.val (.cmp .gt (.var 2) (.lit (.int 0)))) .nil)) (.cons (.asg 3 (.call "_law_draw" 0 (.cons (.var 0) (.cons (.blt .len false (.cons (.ix (.var 1) (.lit (.int 2))) .nil)) .nil)))) (.cons (.asg 4 (.call "_law_bent" 0 (.cons (.var 0) (.cons (.ix (.ix (.var 1) (.lit (.int 2))) (.var 3)) (.cons (.bin false .sub (.var 2) (.lit (.int 1))) .nil))))) (.cons (.ret (.tup (.cons (.lit (.str "cases")) (.cons (.ix (.var 1) (.lit (.int 1))) (.cons (.bin false .add (.bin false .add (.sl false (.ix (.var 1) (.lit (.int 2))) .no (.yes (.var 3)) .no) (.tup (.cons (.var 4) .nil))) (.sl false (.ix (.var 1) (.lit (.int 2))) (.yes (.bin false .add (.var 3) (.lit (.int 1)))) .no .no)) .nil))))) .nil))) .nil) (.cons (.par [5,6] (.cons (.call "_law_draw" 0 (.cons (.var 0) (.cons (.lit (.int 7)) .nil))) (.cons (.call "_law_draw" 0 (.cons (.var 0) (.cons (.lit (.int 8)) .nil))) .nil))) (.cons (.asgT [7,8,9] (.var 1)) (.cons (.asg 10 (.ix (.lst false (.cons (.lit .none) (.cons (.lit (.bool true)) (.cons (.neg (.lit (.int 1))) (.cons (.lit (.str "0")) (.cons (.tup (.cons (.lit (.int 0)) .nil)) (.cons (.bin false .pow (.lit (.int 10)) (.lit (.int 29))) (.cons (.lit (.int 0)) (.cons (.bin false .add (.var 8) (.lit (.int 1))) .nil))))))))) (.var 6))) (.cons (.asg 11 (.lst false (.cons (.lit (.str "case")) (.cons (.lit (.str "rows")) (.cons (.lit (.str "")) (.cons (.lit (.str "Row")) (.cons (.lit (.str "row")) (.cons (.lit (.str "cases")) (.cons (.lit (.str "row ")) (.cons (.lit (.str "paper")) .nil)))))))))) (.cons (.ifS (.val (.cmp .eq (.var 5) (.lit (.int 0)))) (.cons (.ret (.tup (.cons (.ix (.var 11) (.var 6)) (.cons (.var 8) (.cons (.var 9) .nil))))) .nil) .nil) (.cons (.ifS (.val (.cmp .eq (.var 5) (.lit (.int 1)))) (.cons (.ret (.tup (.cons (.var 7) (.cons (.var 10) (.cons (.var 9) .nil))))) .nil) .nil) (.cons (.ifS (.and (.val (.cmp .eq (.var 5) (.lit (.int 2)))) (.cons (.val (.cmp .eq (.var 7) (.lit (.str "row")))) .nil)) (.cons (.ret (.tup (.cons (.var 7) (.cons (.var 8) (.cons (.ix (.lst false (.cons (.bin false .add (.var 9) (.lit (.int 1))) (.cons (.lit (.int 0)) (.cons (.neg (.lit (.int 1))) (.cons (.lit (.bool true)) (.cons (.lit .none) (.cons (.blt .str false (.cons (.var 9) .nil)) (.cons (.tup (.cons (.var 9) .nil)) (.cons (.bin false .sub (.var 9) (.lit (.int 1))) .nil))))))))) (.var 6)) .nil))))) .nil) .nil) (.cons (.ifS (.val (.cmp .eq (.var 5) (.lit (.int 2)))) (.cons (.ret (.tup (.cons (.var 7) (.cons (.var 8) (.cons (.ix (.lst false (.cons (.sl false (.var 9) .no .no (.yes (.neg (.lit (.int 1))))) (.cons (.sl false (.var 9) .no (.yes (.neg (.lit (.int 1)))) .no) (.cons (.bin false .add (.var 9) (.sl false (.var 9) .no (.yes (.lit (.int 1))) .no)) (.cons (.blt .list false (.cons (.var 9) .nil)) (.cons (.lit .none) (.cons (.ix (.var 9) (.lit (.int 0))) (.cons (.tup .nil) (.cons (.lit (.int 0)) .nil))))))))) (.var 6)) .nil))))) .nil) .nil) (.cons (.ret (.ix (.lst false (.cons (.blt .list false (.cons (.var 1) .nil)) (.cons (.sl false (.var 1) .no (.yes (.lit (.int 2))) .no) (.cons (.bin false .add (.var 1) (.tup (.cons (.lit (.int 0)) .nil))) (.cons (.tup (.cons (.var 1) .nil)) .nil))))) (.bin false .sub (.var 5) (.lit (.int 3))))) .nil))))))))))⟩
noncomputable def yO:Fn:=⟨["_law_sizes","_law_found","_law_hue","_law_here","_law_size","_law_step"],["_law_sizes","_law_found","_law_hue"],false,(.cons (.par [3,4] (.cons (.blt .len false (.cons (.var 1) .nil)) (.cons (.ix (.var 0) (.var 2)) .nil))) (.cons (.forS (.nm 5) (.range2 (.lit (.int 1)) (.bin false .add (.bin false .fdiv (.var 3) (.bin false .sub (.var 4) (.lit (.int 1)))) (.lit (.int 1)))) (.cons (.ifS (.val (.cmp .eq (.comp false ["_law_k","_law_hue","_law_found","_law_here","_law_step"] [none,some 2,some 1,some 3,some 5] (.var 0) (.nm 0) (.range2 (.lit (.int 1)) (.var 4)) (.cons (.val (.cmp .ne (.ix (.var 2) (.bin false .sub (.var 3) (.bin false .mul (.var 0) (.var 4)))) (.var 1))) .nil)) (.lst false .nil))) (.cons (.ret (.lit (.bool true))) .nil) .nil) .nil)) (.cons (.ret (.lit (.bool false))) .nil)))⟩
end F31
end
section
namespace M
open PySem
theorem oB{v:Val}(s:Sto)(h:v.isD=true):yM s v=v:=by
 cases v with
 |ref i=>rw[Val.isD]at h;cases h
 |_=>rfl
theorem eG{v:Val}(s:Sto)(h:v.isD=true):zr s v=v:=by
 cases v with
 |tup vs=>
  rw[Val.isD]at h
  show Val.tup (vs.map (yM s))=_
  rw[List.map_congr_left (f:=yM s) (g:=id) fun w hw=>oB s (yD h hw),List.map_id]
 |_=>exact oB s h
end M
end
section
namespace M
open PySem
section
variable {T:Tbl}{Φ:Calls}{s:Sto}
noncomputable def x9(ds:List Int):Val→Bool
 |.int p=>(decide (0≤p)&&decide (p≤(ds.length:Int)-1))&&decide (ds.getD p.toNat 0=-1)
 |_=>false
def mw(Φ:Calls):Prop:=∀(ds:List Int) (b:Val) (s:Sto),kindOf b≠none→Φ "is_blank" 0 [tpI ds,b] s=.ok (.bool (x9 ds b)) s
theorem mM(g:T.gl "BLANK"=some (.int (-1)))(cW:ur Φ){ds:List Int}{b:Val}(hb:kindOf b≠none):run T Φ F.xS [tpI ds,b] s=.ok (.bool (x9 ds b)) s:=by
 have hl:blt .len false [tpI ds] s=.ok (.int ds.length) s:=by rw[yU,List.length_map]
 have end':∀{q:Bool},q=x9 ds b→(zY false s (.bool q) s).post fun x t=>x=.bool (x9 ds b)∧t=s:=fun{q} e=>by
  rw[zg yd,e];exact zD.mpr ⟨rfl,rfl⟩
 have c1:=cW b 0 ((ds.length:Int)-1) s hb
 rw[post_eq,F.xS,xP]
 refine⟨rfl,?_⟩
 show (zZ Φ T.gl [some (tpI ds),some b] _ s).post _
 cases hw:zl 0 ((ds.length:Int)-1) b with
 |false=>
  rw[hw]at c1
  refine zX (uG (x_call (zA (zB rfl) (zA zE (zA (zw (zU (zA (zB rfl) zC) hl) zE sM) zC))) c1)) (end' ?_)
  cases b with
  |int p=>
   show _=((decide (0≤p)&&decide (p≤(ds.length:Int)-1))&&_)
   rw[show (decide (0≤p)&&decide (p≤(ds.length:Int)-1))=false from hw];rfl
  |_=>rfl
 |true=>
  rw[hw]at c1
  obtain⟨i,rfl,i0,i1⟩:=qc hw
  obtain⟨f,rfl⟩:∃f:Nat,i=f:=⟨i.toNat,by omega⟩
  have hf:f<ds.length:=by omega
  refine zX (rP (x_call (zA (zB rfl) (zA zE (zA (zw (zU (zA (zB rfl) zC) hl) zE sM) zC))) c1) (zf (xO (zB rfl) (zB rfl) (v7 (List.getElem?_eq_getElem hf))) (YK g) eq_int)) (end' ?_)
  show _=((decide (0≤(f:Int))&&decide ((f:Int)≤(ds.length:Int)-1))&&decide (ds.getD (f:Int).toNat 0=-1))
  rw[decide_eq_true i0,decide_eq_true i1,Int.toNat_natCast,List.getD_eq_getElem?_getD,List.getElem?_eq_getElem hf];rfl
end
end M
end
section
namespace M
open PySem
noncomputable def zu:Val→Bool
 |.int _=>true
 |_=>false
section
variable {T:Tbl}{Φ:Calls}{s:Sto}
def tu(Φ:Calls):Prop:=∀(v:Val) (s:Sto),kindOf v≠none→Φ "_law_whole" 0 [v] s=.ok (.bool (zu v)) s
theorem mV{v:Val}(hk:kindOf v≠none):run T Φ F31.yl [v] s=.ok (.bool (zu v)) s:=by
 obtain⟨a,ha⟩:=xb hk
 have e1:=xq (m:=false) (s:=s) ha (show yv "int"=some .int from rfl)
 have e2:=xq (m:=false) (s:=s) ha (show yv "bool"=some .bl from rfl)
 have end':∀{b:Bool},b=zu v→(zY false s (.bool b) s).post fun x t=>x=.bool (zu v)∧t=s:=fun{b} e=>by
  rw[zg yd,e];exact zD.mpr ⟨rfl,rfl⟩
 rw[post_eq,F31.yl,xP]
 refine⟨rfl,?_⟩
 show (zZ Φ T.gl [some v] _ s).post _
 rcases gF ha with⟨i,rfl⟩|⟨b,rfl⟩|⟨h1,h2⟩
 . cases ha
   exact zX (rP (zU (zA (zB rfl) (zA yw zC)) e1) (kJ (zU (zA (zB rfl) (zA yw zC)) e2))) (end' rfl)
 . cases ha
   exact zX (rP (zU (zA (zB rfl) (zA yw zC)) e1) (kJ (zU (zA (zB rfl) (zA yw zC)) e2))) (end' rfl)
 . rw[h1]at e1
   refine zX (uG (zU (zA (zB rfl) (zA yw zC)) e1)) (end' ?_)
   cases v with
   |int i=>cases ha;cases h1
   |_=>rfl
theorem kI{G:Str→Option Val}{env:Env}{a b c:Ex}{i j k:Int}(h1:evE Φ G env a s=.ok (.int i) s)(h2:evE Φ G env b s=.ok (.int j) s)(h3:evE Φ G env c s=.ok (.int k) s):evE Φ G env (.chain .le .lt a b c) s=.ok (.bool (decide (i≤j)&&decide (j<k))) s:=by
 refine bnd h1 (bnd h2 (bnd le_int ?_))
 show (match Val.bool (decide (i≤j)) with
  |.bool true=>(evE Φ G env c s).bind fun z s4=>zT .lt (.int j) z s4
  |.bool false=>.ok (.bool false) s
  |_=>.stuck)=_
 cases decide (i≤j) with
 |true=>exact bnd h3 lt_int
 |false=>rfl
end
end M
end
section
namespace M
open PySem
theorem pG:∀{vs:List Val},(∀v∈vs,v.noRef=true)→zj vs=true
 |[],_=>vg
 |v::vs,h=>by rw[yx,h v (.head _),pG fun w hw=>h w (.tail _ hw)];rfl
end M
end
section
namespace M
open PySem
theorem cz{k wa wb wc:Nat}{a b c:Val}(ha:Th k wa a)(hb:Th k wb b)(hc:Th k wc c):Th (k+1) (wa+wb+wc+3) (.tup [a,b,c]):=by
 have h:∀v∈[a,b,c],Th k (wa+wb+wc) v:=fun v hv=>by
  simp only[List.mem_cons,List.not_mem_nil,or_false]at hv
  rcases hv with rfl|rfl|rfl
  . exact ha.mono (Nat.le_refl _) (by omega)
  . exact hb.mono (Nat.le_refl _) (by omega)
  . exact hc.mono (Nat.le_refl _) (by omega)
 have t:=fT (n:=3) h (Nat.le_refl 3)
 refine⟨t.nr,t.kd,t.r,⟨t.lf.sh,t.lf.lf,t.lf.dp,?_⟩,t.nd,t.dr⟩
 have h1:=ha.lf.wt
 have h2:=hb.lf.wt
 have h3:=hc.lf.wt
 rw[Val.d,ds,ds,ds,ds,PyData.weight,PyData.weightAll,PyData.weightAll,PyData.weightAll,PyData.weightAll]
 omega
theorem pB{vs:List Val}(h:∀v∈vs,v.isD=true):(Val.tup vs).isD=true:=by
 rw[Val.isD]
 induction vs with
 |nil=>rw[xh]
 |cons v vs ih=>rw[xh,h v (.head _),ih fun w hw=>h w (.tail _ hw)];rfl
theorem lZ{vs:List Val}(h:∀v∈vs,v.isD=true):(Val.lst vs).isD=true:=by
 have:=pB h
 rw[Val.isD]at this
 rw[Val.isD];exact this
theorem xr{v:Val}(h:v.isD=true):kindOf v≠none:=by
 cases v with
 |none=>exact nofun
 |bool b=>exact nofun
 |int i=>exact nofun
 |str x=>exact nofun
 |tup vs=>exact nofun
 |lst vs=>exact nofun
 |_=>rw[Val.isD]at h;cases h
theorem cT{k w:Nat}{v:Val}{m:Bool}{s:Sto}(h:Th k w v)(hd:v.isD=true)(hk:k≤50)(hw:w≤300000):blt .repr m [v] s=.ok (.str v.d.shown) s:=by
 simp only[blt]
 rw[eG s hd,h.r,jJ h.lf hk hw h.nd]
 rfl
end M
end
section
namespace M
open PySem
structure Da(k w:Nat)(v:Val):Prop where
 t:Th k w v
 d:v.isD=true
theorem Da.mono{k w k' w':Nat}{v:Val}(h:Da k w v)(h1:k≤k')(h2:w≤w'):Da k' w' v:=⟨h.t.mono h1 h2,h.d⟩
theorem xH{i:Int}(h1:-(10 ^ 30)<i)(h2:i<10 ^ 30):Da 0 100 (.int i):=⟨YA h1 h2,by rw[Val.isD]⟩
theorem lI(b:Bool):Da 0 100 (.bool b):=⟨cx b,by rw[Val.isD]⟩
theorem vb:Da 0 100 .none:=⟨cy,by rw[Val.isD]⟩
theorem aD{x:Str}(h1:∀c∈x.cps.toList,c<16 ^ 8)(h2:x.cps.size≤100)(h3:PyData.strOk x=true):Da 0 100 (.str x):=⟨YC h1 h2,by rw[Val.isD];exact h3⟩
theorem u0{k w n:Nat}{vs:List Val}(h:∀v∈vs,Da k w v)(hn:vs.length≤n):Da (k+1) (n*(w+1)) (.tup vs):=⟨fT (fun v hv=>(h v hv).t) hn,pB fun v hv=>(h v hv).d⟩
theorem qv{k w n:Nat}{vs:List Val}(h:∀v∈vs,Da k w v)(hn:vs.length≤n):Da (k+1) (n*(w+1)) (.lst vs):=⟨YB (fun v hv=>(h v hv).t) hn,lZ fun v hv=>(h v hv).d⟩
theorem qw{k wa wb wc:Nat}{a b c:Val}(ha:Da k wa a)(hb:Da k wb b)(hc:Da k wc c):Da (k+1) (wa+wb+wc+3) (.tup [a,b,c]):=⟨cz ha.t hb.t hc.t,pB fun v hv=>by
 simp only[List.mem_cons,List.not_mem_nil,or_false]at hv
 rcases hv with rfl|rfl|rfl
 . exact ha.d
 . exact hb.d
 . exact hc.d⟩
theorem rO:∀{vs:List Val} {v:Val},v∈vs→v.d.weight+1≤PyData.weightAll (ds vs)
 |u::us,v,h=>by
  rw[ds,PyData.weightAll]
  rcases List.mem_cons.mp h with rfl|h
  . omega
  . have:=rO h
    omega
theorem nW{k w w':Nat}{v:Val}(h:Da k w v)(hw:v.d.weight≤w'):Da k w' v:=⟨⟨h.t.nr,h.t.kd,h.t.r,⟨h.t.lf.sh,h.t.lf.lf,h.t.lf.dp,hw⟩,h.t.nd,h.t.dr⟩,h.d⟩
theorem aC{k W:Nat}{vs:List Val}(h:∀v∈vs,∃w,Da k w v)(hW:PyData.weightAll (ds vs)≤W):Da (k+1) W (.tup vs)∧Da (k+1) W (.lst vs):=by
 have u:∀v∈vs,Da k W v:=fun v hv=>by
  obtain⟨w,hw⟩:=h v hv
  exact nW hw (by have:=rO hv;omega)
 exact⟨nW (u0 u (Nat.le_refl _)) (by rw[Val.d,PyData.weight];exact hW),nW (qv u (Nat.le_refl _)) (by rw[Val.d,PyData.weight];exact hW)⟩
section
variable {T:Tbl}{Φ:Calls}{s:Sto}
theorem Z6{d:Nat}(h:d<41):Da 0 100 (.str (toString (d:Int))):=by
 have:∀d:Nat,d<41→(∀c∈(toString (d:Int):Str).cps.toList,c<16 ^ 8)∧(toString (d:Int):Str).cps.size≤100∧PyData.strOk (toString (d:Int))=true:=by decide +kernel
 obtain⟨h1,h2,h3⟩:=this d h
 exact aD h1 h2 h3
end
end M
end
section
namespace M
open PySem
section
variable {T:Tbl}{Φ:Calls}{s:Sto}
theorem pW{G:Str→Option Val}{env env':Env}{is:List Nat}{e:Ex}{cs:Sms}{v:Val}{s1:Sto}{P:Fl→Sto→Prop}(h:evE Φ G env e s=.ok v s1)(hb:yS (.nms is) v env=some env')(k:(zZ Φ G env' cs s1).post P):(zZ Φ G env (.cons (.asgT is e) cs) s).post P:=zh.mpr (gV.mpr (by rw[h];exact zD.mpr ⟨_,hb,k⟩))
end
end M
end
section
namespace M
open PySem
section
variable {T:Tbl}{Φ:Calls}{s:Sto}
theorem mq{G:Str→Option Val}{env:Env}{f:Mf}{m:Bool}{o:Ex}{es:Exs}{x:Val}{vs:List Val}{s1 s2:Sto}{r:Out Val}(h1:evE Φ G env o s=.ok x s1)(h2:yr Φ G env es s1=.ok vs s2)(h3:yi f x vs s2=r):evE Φ G env (.yi f m o es) s=r:=bnd h1 (bnd h2 h3)
end
end M
end
section
namespace M
open PySem
section
variable {T:Tbl}{Φ:Calls}{s:Sto}
theorem ll{hs:List Nat}{s:Sto}:blt .len false [nZ hs] s=.ok (.int hs.length) s:=by
 unfold nZ;rw[yU,List.length_map]
end
theorem wz:∀ns:List Int,PyData.depthAll (ds (ns.map Val.int))=0
 |[]=>by rw[List.map_nil,ds,PyData.depthAll]
 |n::ns=>by rw[List.map_cons,ds,PyData.depthAll,wz ns,Val.d,PyData.depth];rfl
end M
end
section
namespace F25
open PySem M
noncomputable def xR:Fn:=⟨["_law_sizes_here","_law_draft_here","_law_thing","_law_reason","_law_place","_law_hue","_law_rows_here"],["_law_sizes_here","_law_draft_here","_law_thing"],false,(.cons (.ifS (.not (.val (.blt .isi false (.cons (.var 2) (.cons (.ty "list" "list") .nil))))) (.cons (.ret (.lit (.bool false))) .nil) .nil) (.cons (.forS (.nm 3) (.val (.var 2)) (.cons (.ifS (.or (.not (.val (.blt .isi false (.cons (.var 3) (.cons (.ty "tuple" "tuple") .nil))))) (.cons (.val (.cmp .ne (.blt .len false (.cons (.var 3) .nil)) (.lit (.int 3)))) .nil)) (.cons (.ret (.lit (.bool false))) .nil) .nil) (.cons (.asgT [4,5,6] (.var 3)) (.cons (.ifS (.or (.not (.val (.call "_law_whole" 0 (.cons (.var 4) .nil)))) (.cons (.not (.val (.call "_law_whole" 0 (.cons (.var 5) .nil)))) (.cons (.not (.val (.chain .le .lt (.lit (.int 0)) (.var 4) (.blt .len false (.cons (.var 1) .nil))))) (.cons (.not (.val (.chain .le .lt (.lit (.int 0)) (.var 5) (.blt .len false (.cons (.var 0) .nil))))) .nil)))) (.cons (.ret (.lit (.bool false))) .nil) .nil) (.cons (.ifS (.or (.val (.cmp .ne (.ix (.var 1) (.var 4)) (.neg (.lit (.int 1))))) (.cons (.not (.val (.call "_law_rows_are" 0 (.cons (.var 0) (.cons (.var 1) (.cons (.var 4) (.cons (.var 5) (.cons (.var 6) .nil)))))))) .nil)) (.cons (.ret (.lit (.bool false))) .nil) .nil) (.cons (.asg 1 (.call "_law_put" 0 (.cons (.var 1) (.cons (.var 4) (.cons (.var 5) .nil))))) .nil)))))) (.cons (.ret (.lit (.bool true))) .nil)))⟩
noncomputable def yf:Fn:=⟨["_law_pen_here","_law_reasons","_law_way","_law_at","_law_to","_law_place","_law_hue","_law_rows_here","_law_spot","_law_odd","_law_row","_law_news","_law_some"],["_law_pen_here","_law_reasons"],false,(.cons (.par [2,3,4] (.cons (.call "_law_draw" 0 (.cons (.var 0) (.cons (.lit (.int 9)) .nil))) (.cons (.call "_law_draw" 0 (.cons (.var 0) (.cons (.blt .len false (.cons (.var 1) .nil)) .nil))) (.cons (.call "_law_draw" 0 (.cons (.var 0) (.cons (.lit (.int 8)) .nil))) .nil)))) (.cons (.asgT [5,6,7] (.ix (.var 1) (.var 3))) (.cons (.asg 8 (.call "_law_draw" 0 (.cons (.var 0) (.cons (.blt .len false (.cons (.var 7) .nil)) .nil)))) (.cons (.asg 9 (.ix (.lst false (.cons (.lit .none) (.cons (.lit (.bool true)) (.cons (.neg (.lit (.int 1))) (.cons (.blt .str false (.cons (.var 5) .nil)) (.cons (.tup (.cons (.var 5) .nil)) (.cons (.bin false .add (.var 5) (.lit (.int 1))) (.cons (.lit (.int 0)) (.cons (.bin false .pow (.lit (.int 10)) (.lit (.int 29))) .nil))))))))) (.var 4))) (.cons (.asg 10 (.orE (.ix (.var 7) (.var 8)) (.cons (.tup (.cons (.var 5) (.cons (.lit (.int 1)) .nil))) .nil))) (.cons (.asg 11 (.lst false (.cons (.sl false (.var 10) .no .no (.yes (.neg (.lit (.int 1))))) (.cons (.tup (.cons (.bin false .add (.ix (.var 10) (.lit (.int 0))) (.lit (.int 1))) (.cons (.ix (.var 10) (.lit (.int 1))) .nil))) (.cons (.blt .list false (.cons (.var 10) .nil)) (.cons (.bin false .add (.var 10) (.tup (.cons (.lit (.int 1)) .nil))) (.cons (.lit .none) (.cons (.tup (.cons (.lit (.bool true)) (.cons (.ix (.var 10) (.lit (.int 1))) .nil))) (.cons (.tup (.cons (.ix (.var 10) (.lit (.int 0))) (.cons (.lit (.int 0)) .nil))) (.cons (.tup (.cons (.lit (.int 0)) (.cons (.lit (.int 1)) .nil))) .nil)))))))))) (.cons (.asg 12 (.lst false (.cons (.tup (.cons (.var 9) (.cons (.var 6) (.cons (.var 7) .nil)))) (.cons (.tup (.cons (.var 5) (.cons (.var 9) (.cons (.var 7) .nil)))) (.cons (.tup (.cons (.var 5) (.cons (.var 6) (.cons (.bin false .add (.bin false .add (.sl false (.var 7) .no (.yes (.var 8)) .no) (.tup (.cons (.ix (.var 11) (.var 4)) .nil))) (.sl false (.var 7) (.yes (.bin false .add (.var 8) (.lit (.int 1)))) .no .no)) .nil)))) .nil))))) (.cons (.asg 12 (.bin false .add (.var 12) (.lst false (.cons (.tup (.cons (.var 5) (.cons (.var 6) (.cons (.bin false .add (.bin false .add (.sl false (.var 7) .no (.yes (.var 8)) .no) (.tup (.cons (.ix (.var 11) (.var 4)) .nil))) (.sl false (.var 7) (.yes (.bin false .add (.var 8) (.lit (.int 1)))) .no .no)) .nil)))) (.cons (.tup (.cons (.var 5) (.cons (.var 6) (.cons (.sl false (.var 7) .no .no (.yes (.neg (.lit (.int 1))))) .nil)))) .nil))))) (.cons (.asg 12 (.bin false .add (.var 12) (.lst false (.cons (.tup (.cons (.var 5) (.cons (.var 6) (.cons (.blt .list false (.cons (.var 7) .nil)) .nil)))) (.cons (.lst false (.cons (.var 5) (.cons (.var 6) (.cons (.var 7) .nil)))) (.cons (.tup (.cons (.var 5) (.cons (.var 6) .nil))) (.cons (.tup (.cons (.var 5) (.cons (.var 6) (.cons (.bin false .add (.var 7) (.tup (.cons (.lit .none) .nil))) .nil)))) .nil))))))) (.cons (.ret (.bin false .add (.bin false .add (.sl false (.var 1) .no (.yes (.var 3)) .no) (.lst false (.cons (.ix (.var 12) (.var 2)) .nil))) (.sl false (.var 1) (.yes (.bin false .add (.var 3) (.lit (.int 1)))) .no .no))) .nil))))))))))⟩
noncomputable def yg:Fn:=⟨["_law_sizes_here","_law_draft_here","_law_found","_law_here","_law_rows_here","_law_hue"],["_law_sizes_here","_law_draft_here"],false,(.cons (.asg 2 (.lst true .nil)) (.cons (.asg 3 (.call "_law_narrow" 0 (.cons (.var 0) (.cons (.var 1) .nil)))) (.cons (.whileS (.val (.cmp .isNot (.var 3) (.lit .none))) (.cons (.asg 4 (.lst true .nil)) (.cons (.forS (.nm 5) (.range1 (.blt .len false (.cons (.var 0) .nil))) (.cons (.expr (.yi .append false (.var 4) (.cons (.ife (.val (.cmp .eq (.var 5) (.ix (.var 3) (.lit (.int 1))))) (.lit .none) (.ix (.call "_law_bars" 0 (.cons (.var 0) (.cons (.var 1) (.cons (.ix (.var 3) (.lit (.int 0))) (.cons (.var 5) .nil))))) (.neg (.lit (.int 1))))) .nil))) .nil)) (.cons (.expr (.yi .append false (.var 2) (.cons (.tup (.cons (.ix (.var 3) (.lit (.int 0))) (.cons (.ix (.var 3) (.lit (.int 1))) (.cons (.blt .tuple false (.cons (.var 4) .nil)) .nil)))) .nil))) (.cons (.asg 1 (.call "_law_put" 0 (.cons (.var 1) (.cons (.ix (.var 3) (.lit (.int 0))) (.cons (.ix (.var 3) (.lit (.int 1))) .nil))))) (.cons (.asg 3 (.call "_law_narrow" 0 (.cons (.var 0) (.cons (.var 1) .nil)))) .nil)))))) (.cons (.ret (.var 2)) .nil))))⟩
noncomputable def yX:Fn:=⟨["_law_sizes_here","_law_draft_here","_law_found","_law_place","_law_hues"],["_law_sizes_here","_law_draft_here"],false,(.cons (.asg 2 (.lit .none)) (.cons (.forS (.nm 3) (.val (.comp false ["_law_place","_law_hue"] [none,none] (.var 0) (.nms [0,1]) (.enum (.var 1)) (.cons (.val (.cmp .eq (.var 1) (.neg (.lit (.int 1))))) .nil))) (.cons (.asg 4 (.call "_law_open" 0 (.cons (.var 0) (.cons (.var 1) (.cons (.var 3) .nil))))) (.cons (.ifS (.val (.cmp .eq (.blt .len false (.cons (.var 4) .nil)) (.lit (.int 1)))) (.cons (.asg 2 (.tup (.cons (.var 3) (.cons (.ix (.var 4) (.lit (.int 0))) .nil)))) .nil) .nil) .nil))) (.cons (.ret (.var 2)) .nil)))⟩
noncomputable def z9:Fn:=⟨["_law_sizes_here","_law_draft_here","_law_place","_law_hue","_law_rows_here","_law_other","_law_row"],["_law_sizes_here","_law_draft_here","_law_place","_law_hue","_law_rows_here"],false,(.cons (.ifS (.or (.not (.val (.blt .isi false (.cons (.var 4) (.cons (.ty "tuple" "tuple") .nil))))) (.cons (.val (.cmp .ne (.blt .len false (.cons (.var 4) .nil)) (.blt .len false (.cons (.var 0) .nil)))) (.cons (.val (.cmp .isNot (.ix (.var 4) (.var 3)) (.lit .none))) .nil))) (.cons (.ret (.lit (.bool false))) .nil) .nil) (.cons (.forS (.nms [5,6]) (.enum (.var 4)) (.cons (.ifS (.val (.cmp .ne (.var 5) (.var 3))) (.cons (.ifS (.or (.not (.val (.blt .isi false (.cons (.var 6) (.cons (.ty "tuple" "tuple") .nil))))) (.cons (.not (.val (.blt .all false (.cons (.comp false ["_law_number"] [none] (.call "_law_whole" 0 (.cons (.var 0) .nil)) (.nm 0) (.val (.var 6)) .nil) .nil)))) .nil)) (.cons (.ret (.lit (.bool false))) .nil) .nil) (.cons (.ifS (.val (.cmp .notIn (.var 6) (.call "_law_bars" 0 (.cons (.var 0) (.cons (.var 1) (.cons (.var 2) (.cons (.var 5) .nil))))))) (.cons (.ret (.lit (.bool false))) .nil) .nil) .nil)) .nil) .nil)) (.cons (.ret (.lit (.bool true))) .nil)))⟩
end F25
end
section
namespace M
open PySem
section
variable {T:Tbl}{Φ:Calls}{s:Sto}
def kL(zs ds:List Int)(v:Val):Prop:=v=.none∨∃p h:Nat,v=.tup [.int p,.int h]∧ds[p]?=some (-1)∧xt zs ds p=[h]
theorem kL.nr{zs ds:List Int}{v:Val}(h:kL zs ds v):v.noRef=true:=by
 rcases h with rfl|⟨p,h,rfl,_⟩
 . exact sA
 . rw[v9,yx,yx,vg,vQ,vQ];rfl
def m8(Φ:Calls):Prop:=∀(zs ds:List Int) (s:Sto),Sz zs→Dr zs ds→(Φ "_law_narrow" 0 [tpI zs,tpI ds] s).post fun v s'=>s'=s∧kL zs ds v
theorem mT(cO:iA Φ){zs ds:List Int}(hz:Sz zs)(hd:Dr zs ds):(run T Φ F25.yX [tpI zs,tpI ds] s).post fun v s'=>s'=s∧kL zs ds v:=by
 have L1:∀n,n<100→n≤zP:=fun n h=>by unfold zP;omega
 have hd32:=hd.1
 rw[F25.yX,xP]
 refine⟨rfl,?_⟩
 show (zZ Φ T.gl [some (tpI zs),some (tpI ds),none,none,none] _ s).post _
 refine ye zE ?_
 show (zZ Φ T.gl [some (tpI zs),some (tpI ds),some .none,none,none] _ s).post _
 refine zh.mpr (y4 (fun rest e s'=>s'=s∧(∃v o3 o4,kL zs ds v∧e=[some (tpI zs),some (tpI ds),some v,o3,o4])∧∀x∈rest,∃p:Nat,x=.int p∧ds[p]?=some (-1)) ((sJ 0 ds).map fun(k:Nat)=>Val.int k) (s1:=s) (u7 ((kZ (i:=1) rfl).trans (by rw[nO])) rfl) ⟨rfl,⟨_,_,_,.inl rfl,rfl⟩,fun x hx=>?_⟩ ?_ ?_)
 . obtain⟨p,hp,rfl⟩:=List.mem_map.mp hx
   exact⟨p,rfl,((aA ds).1 p).mpr hp⟩
 . rintro x rest e s' ⟨rfl,⟨v,o3,o4,hv,rfl⟩,hr⟩
   obtain⟨p,rfl,hp⟩:=hr x (.head _)
   have hr':∀x∈rest,∃p:Nat,x=.int p∧ds[p]?=some (-1):=fun x hx=>hr x (.tail _ hx)
   refine⟨_,rfl,?_⟩
   refine ye (x_call (zA (zB rfl) (zA (zB rfl) (zA (zB rfl) zC))) (cO zs ds p s' hz hd32 (uO hp))) ?_
   show (zZ Φ T.gl [some (tpI zs),some (tpI ds),some v,some (.int p),some (nZ (xt zs ds p))] _ s').post _
   by_cases h1:(xt zs ds p).length=1
   . obtain⟨h,ho⟩:∃h,xt zs ds p=[h]:=by
      cases hq:xt zs ds p with
      |nil=>rw[hq]at h1;cases h1
      |cons a as=>
       cases as with
       |nil=>exact⟨a,rfl⟩
       |cons _ _=>rw[hq]at h1;simp at h1
     refine yI (zO (zf (zU (zA (zB rfl) zC) ll) zE eq_int) (by rw[zF,decide_eq_true (by omega)])) ?_
     rw[ho]
     exact ye (z7 (zA (zB rfl) (zA (xO (zB rfl) zE (show xw (nZ [h]) (.int 0) s'=.ok (.int (h:Int)) s' from rfl)) zC)) (L1 2 (by omega))) (yt (yt ⟨rfl,⟨_,_,_,.inr ⟨p,h,rfl,hp,ho⟩,rfl⟩,hr'⟩))
   . exact yH (zO (zf (zU (zA (zB rfl) zC) ll) zE eq_int) (by rw[zF,decide_eq_false (by omega)])) (yt ⟨rfl,⟨_,_,_,hv,rfl⟩,hr'⟩)
 . rintro e s' ⟨rfl,⟨v,o3,o4,hv,rfl⟩,_⟩
   refine zX (zB rfl) ?_
   show (zY false s' v s').post _
   rw[zg hv.nr]
   exact zD.mpr ⟨rfl,hv⟩
end
end M
end
section
namespace M
open PySem
def pk(r:Val):Prop:=r=.none∨∃f d:Nat,r=.tup [.int f,.int d]∧f<40∧d<40
def qf(k:Nat)(v:Val):Prop:=∃(p h:Nat) (rows:List Val),v=.tup [.int p,.int h,.tup rows]∧p<40∧h<4∧rows.length=k∧∀r∈rows,pk r
theorem pk.nr{r:Val}(h:pk r):r.noRef=true:=by
 rcases h with rfl|⟨f,d,rfl,_⟩
 . exact sA
 . rw[v9,yx,yx,vg,vQ,vQ];rfl
theorem qf.nr{k:Nat}{v:Val}(h:qf k v):v.noRef=true:=by
 obtain⟨p,h,rows,rfl,_,_,_,hr⟩:=h
 rw[v9,yx,yx,yx,vg,vQ,vQ,v9,pG fun r h=>(hr r h).nr];rfl
section
variable {T:Tbl}{Φ:Calls}{s:Sto}
theorem fv{i:Nat}{vs:List Val}{v:Val}(h:s[i]?=some (.lst vs))(hl:vs.length<zP):yi .append (.ref i) [v] s=.ok .none (upd s i (vs++[v])):=by
 simp only[yi,h];rw[if_pos hl]
def iD(Φ:Calls):Prop:=∀(zs ds:List Int) (s:Sto),Sz zs→Dr zs ds→(Φ "_law_made" 0 [tpI zs,tpI ds] s).post fun v s'=>s'=s∧∃rs,v=.lst rs∧rs.length≤32∧∀r∈rs,qf zs.length r
theorem js(cN:m8 Φ)(cB:qe Φ)(cP:iB Φ){zs ds:List Int}(hz:Sz zs)(hd:Dr zs ds):(run T Φ F25.yg [tpI zs,tpI ds] s).post fun v s'=>s'=s∧∃rs,v=.lst rs∧rs.length≤32∧∀r∈rs,qf zs.length r:=by
 have L1:∀n,n<100→n≤zP:=fun n h=>by unfold zP;omega
 have hz4:=hz.2.1
 have hc32:ds.count (-1)≤32:=Nat.le_trans List.count_le_length hd.1
 have hl:∀s,blt .len false [tpI zs] s=.ok (.int zs.length) s:=fun s=>by rw[yU,List.length_map]
 rw[F25.yg,xP]
 refine⟨rfl,?_⟩
 show (zZ Φ T.gl [some (tpI zs),some (tpI ds),none,none,none,none] _ s).post _
 refine ye (v:=.ref s.length) (s1:=s++[.lst []]) (bnd zC rfl) ?_
 show (zZ Φ T.gl [some (tpI zs),some (tpI ds),some (.ref s.length),none,none,none] _ (s++[.lst []])).post _
 refine vU (xc (zA (zB rfl) (zA (zB rfl) zC)) (zJ (cN zs ds _ hz hd) ?_))
 rintro v s1 ⟨rfl,hv⟩
 show (zZ Φ T.gl [some (tpI zs),some (tpI ds),some (.ref s.length),some v,none,none] _ (s++[.lst []])).post _
 refine zh.mpr (dS (ds.count (-1)) (fun k e s'=>∃(ms:List Int) (v:Val) (rs:List Val) (junk:Sto) (o4 o5:Option Val),k=ms.count (-1)∧Dr zs ms∧kL zs ms v∧rs.length+k≤32∧(∀r∈rs,qf zs.length r)∧e=[some (tpI zs),some (tpI ms),some (.ref s.length),some v,o4,o5]∧s'=s++.lst rs::junk) (by unfold pq;omega) ⟨ds,v,[],[],_,_,rfl,hd,hv,by rw[List.length_nil];omega,nofun,rfl,rfl⟩ ?_)
 rintro k e s' ⟨ms,v,rs,junk,o4,o5,rfl,hm,hv,hrl,hrs,rfl,rfl⟩
 rw[zO (zf (zB rfl) zE (show zT .isNot v .none _=.ok (.bool !v.isN) _ from rfl)) zF]
 refine zD.mpr ?_
 have hget:(s++Cel.lst rs::junk)[s.length]?=some (.lst rs):=by simp
 rcases hv with rfl|⟨p,h,rfl,hp,ho⟩
 . rw[if_neg (by exact Bool.false_ne_true)]
   refine zX (zB rfl) ?_
   show (zY false s (.ref s.length) (s++.lst rs::junk)).post _
   rw[sd (Nat.le_refl _) hget (pG fun r h=>(hrs r h).nr)]
   exact zD.mpr ⟨rfl,rs,rfl,by omega,hrs⟩
 . rw[if_pos (by rfl)]
   obtain⟨hhz,_,hno⟩:=jw ho
   have hpl:=uO hp
   have hm32:=hm.1
   have ln:(s++Cel.lst rs::junk).length=s.length+(junk.length+1):=by rw[List.length_append,List.length_cons]
   refine ye (v:=.ref (s++Cel.lst rs::junk).length) (s1:=(s++.lst rs::junk)++[.lst []]) (bnd zC rfl) ?_
   generalize hS:s++Cel.lst rs::junk=S at *
   show (zZ Φ T.gl [some (tpI zs),some (tpI ms),some (.ref s.length),some (.tup [.int p,.int h]),some (.ref S.length),o5] _ (S++[.lst []])).post _
   refine zh.mpr (y4 (fun rest e s2=>∃(i:Nat) (rows:List Val) (o5:Option Val),i≤zs.length∧rest=zi i (zs.length-i)∧rows.length=i∧(∀r∈rows,pk r)∧e=[some (tpI zs),some (tpI ms),some (.ref s.length),some (.tup [.int p,.int h]),some (.ref S.length),o5]∧s2=S++[.lst rows]) (zi 0 zs.length) (s1:=S++[.lst []]) (ir (zU (zA (zB rfl) zC) (hl _)) (L1 _ (by omega))) ⟨0,[],_,Nat.zero_le _,rfl,rfl,nofun,rfl,rfl⟩ ?_ ?_)
   . rintro x rest e s2 ⟨i,rows,o5,hi,hr,hrow,hrows,rfl,rfl⟩
     obtain⟨kk,hkk,rfl,rfl⟩:=tK hr
     have hiz:i<zs.length:=by omega
     refine⟨_,rfl,?_⟩
     have fin':∀{r:Val},pk r→∃(i':Nat) (rows':List Val) (o5:Option Val),i'≤zs.length∧zi ((i:Int)+1) kk=zi i' (zs.length-i')∧rows'.length=i'∧(∀r∈rows',pk r)∧[some (tpI zs),some (tpI ms),some (.ref s.length),some (Val.tup [.int p,.int h]),some (.ref S.length),some (.int (i:Int))]=[some (tpI zs),some (tpI ms),some (.ref s.length),some (.tup [.int p,.int h]),some (.ref S.length),o5]∧S++[Cel.lst (rows++[r])]=S++[.lst rows']:=fun{r} hr'=>⟨i+1,rows++[r],_,by omega,by congr 1<;>omega,by rw[List.length_append,hrow];rfl,fun q hq=>by
      rcases List.mem_append.mp hq with hq|hq
      . exact hrows q hq
      . rw[List.mem_singleton.mp hq];exact hr',rfl,rfl⟩
     by_cases e:i=h
     . refine vD (mq (zB rfl) (zA (YM (zO (zf (zB rfl) (xO (zB rfl) zE rfl) eq_int) (by rw[zF,decide_eq_true (by omega)])) zE) zC) (uL (by unfold zP;omega))) (yt (fin' (.inl rfl)))
     . have hne:=hno i hiz e
       have cb:=cB zs ms p i (S++[.lst rows]) hz hm32 hpl hiz
       obtain⟨init,r,hb⟩:∃(init:List (Nat × Nat)) (r:Nat × Nat),xN ms (zd zs i) p i=init++[r]:=⟨_,(xN ms (zd zs i) p i).getLast hne,(List.dropLast_concat_getLast hne).symm⟩
       obtain⟨f,d⟩:=r
       have hmem:(f,d)∈xN ms (zd zs i) p i:=by rw[hb];exact List.mem_append_right _ (.head _)
       obtain⟨k1,_,_⟩:=(f6 hpl).mp hmem
       obtain⟨_,z2,_⟩:=wk hz hiz
       have k2:=(sk z2).mp k1
       have hdz:d*1≤d*(zd zs i-1):=Nat.mul_le_mul_left _ (by omega)
       have xl:∀t,xw (.lst ((xN ms (zd zs i) p i).map yJ)) (.int (-1)) t=.ok (.tup [.int f,.int d]) t:=fun t=>by
        show (match L2.atI ((xN ms (zd zs i) p i).map yJ) (-1) with|some v=>Out.ok v t|Option.none=>.stuck)=_
        rw[hb,List.map_append,List.map_singleton,L2.iG];rfl
       refine vD (mq (zB rfl) (zA (YL (zO (zf (zB rfl) (xO (zB rfl) zE rfl) eq_int) (by rw[zF,decide_eq_false (by omega)])) (xO (x_call (zA (zB rfl) (zA (zB rfl) (zA (xO (zB rfl) zE rfl) (zA (zB rfl) zC)))) cb) (wH zE) (xl _))) zC) (uL (by unfold zP;omega))) (yt (fin' (.inr ⟨f,d,rfl,by omega,by omega⟩)))
   . rintro e s2 ⟨i,rows,o5,hi,hr,hrow,hrows,rfl,rfl⟩
     have:=pS hr
     have ht:blt .tuple false [.ref S.length] (S++[.lst rows])=.ok (.tup rows) (S++[.lst rows]):=by
      simp[blt,xm,yN]
     have hget2:(S++[Cel.lst rows])[s.length]?=some (.lst rs):=by rw[←hS,List.append_assoc];simp
     have hup:upd (S++[Cel.lst rows]) s.length (rs++[.tup [.int p,.int h,.tup rows]])=s++.lst (rs++[.tup [.int p,.int h,.tup rows]])::(junk++[.lst rows]):=by
      unfold upd
      rw[←hS,List.append_assoc,List.set_append_right _ _ (Nat.le_refl _),Nat.sub_self];rfl
     have hput:=kX (h:=h) hp
     have hm':Dr zs (putL ms p h):=by
      rw[d9 hp]
      refine⟨by rw[List.length_set];exact hm32,fun x hx=>?_⟩
      rcases List.mem_or_eq_of_mem_set hx with hx|rfl
      . exact hm.2 x hx
      . omega
     refine vD (mq (zB rfl) (zA (z7 (zA (xO (zB rfl) zE rfl) (zA (xO (zB rfl) zE rfl) (zA (zU (zA (zB rfl) zC) ht) zC))) (L1 3 (by omega))) zC) ((fv hget2 (by unfold zP;omega)).trans (by rw[hup]))) ?_
     refine ye (x_call (zA (zB rfl) (zA (xO (zB rfl) zE rfl) (zA (xO (zB rfl) zE rfl) zC))) (cP ms p (h:Int) _ hpl (by omega))) ?_
     refine vU (xc (zA (zB rfl) (zA (zB rfl) zC)) (zJ (cN zs (putL ms p h) _ hz hm') ?_))
     rintro v2 s3 ⟨rfl,hv2⟩
     refine yt ⟨(putL ms p h).count (-1),by omega,putL ms p h,v2,rs++[.tup [.int p,.int h,.tup rows]],junk++[.lst rows],_,_,rfl,hm',hv2,by rw[List.length_append,List.length_singleton];omega,fun r hr=>?_,rfl,rfl⟩
     rcases List.mem_append.mp hr with hr|hr
     . exact hrs r hr
     . rw[List.mem_singleton.mp hr]
       exact⟨p,h,rows,rfl,by omega,by omega,by omega,hrows⟩
end
end M
end
section
namespace M
open PySem
noncomputable def qh(rs:List (Nat × Nat))(v:Val):Bool:=(rs.map yJ).any fun z=>PyData.eqv z.d v.d
noncomputable def ug(zs ms:List Int)(p o:Nat):Val→Bool
 |.tup vs=>vs.all zu&&qh (xN ms (zd zs o) p o) (.tup vs)
 |_=>false
noncomputable def xQ(zs ms:List Int)(p h:Nat):Nat→List Val→Bool
 |_,[]=>true
 |k,v::vs=>(if k=h then v.isN else ug zs ms p k v)&&xQ zs ms p h (k+1) vs
noncomputable def xj(zs ms:List Int)(p h:Nat):Val→Bool
 |.tup vs=>decide (vs.length=zs.length)&&xQ zs ms p h 0 vs
 |_=>false
noncomputable def toN:Val→Nat
 |.int i=>i.toNat
 |_=>0
noncomputable def ue(zs ms:List Int):Val→Bool
 |.tup [a,b,c]=>x9 ms a&&(zl 0 ((zs.length:Int)-1) b&&xj zs ms (toN a) (toN b) c)
 |_=>false
noncomputable def gS(ms:List Int):Val→List Int
 |.tup [a,b,_]=>putL ms (toN a) (toN b)
 |_=>ms
noncomputable def uM(zs:List Int):List Int→List Val→Bool
 |_,[]=>true
 |ms,v::vs=>ue zs ms v&&uM zs (gS ms v) vs
noncomputable def uy(zs ds:List Int):Val→Bool
 |.lst vs=>uM zs ds vs
 |_=>false
theorem pA:∀{vs:List Val},vs.all zu=true→∃ns:List Int,vs=ns.map .int
 |[],_=>⟨[],rfl⟩
 |v::vs,h=>by
  rw[List.all_cons,Bool.and_eq_true]at h
  obtain⟨ns,rfl⟩:=pA h.2
  cases v with
  |int i=>exact⟨i::ns,rfl⟩
  |_=>cases h.1
theorem il{ns:List Int}{rs:List (Nat × Nat)}:inD (.tup (ns.map .int)) (rs.map yJ)=true:=by
 unfold inD
 rw[Val.isD,ve,u6,Val.d,PyData.depth,wz];rfl
theorem ip{vs:List Val}{rs:List (Nat × Nat)}{s:Sto}(h:vs.all zu=true):zT .in_ (.tup vs) (.lst (rs.map yJ)) s=.ok (.bool (qh rs (.tup vs))) s∧zT .notIn (.tup vs) (.lst (rs.map yJ)) s=.ok (.bool !(qh rs (.tup vs))) s:=by
 obtain⟨ns,rfl⟩:=pA h
 have h2:=il (ns:=ns) (rs:=rs)
 have h1:flat (.tup (ns.map .int))=false:=rfl
 simp only[zT,xm,h1,h2]
 exact⟨rfl,rfl⟩
theorem bg{vs:List Val}{l m:Int}(h:vs.all (zl l m)=true):vs.all zu=true:=by
 rw[List.all_eq_true]at h ⊢
 intro v hv
 have:=h v hv
 cases v with
 |int i=>rfl
 |_=>cases this
theorem bx{rs:List (Nat × Nat)}{vs:List Val}(hr:∀r∈rs,r.1≤40∧r.2≤40)(h:vs.all zu=true)(hb:qh rs (.tup vs)=true):vs.all (zl 0 40)=true:=by
 obtain⟨ns,rfl⟩:=pA h
 obtain⟨z,hz,he⟩:=List.any_eq_true.mp hb
 obtain⟨r,hr',rfl⟩:=List.mem_map.mp hz
 have hle:=hr r hr'
 rw[yJ,Val.d,Val.d,ds,ds,ds,Val.d,Val.d,lO]at he
 have:ns=[(r.1:Int),(r.2:Int)]:=by
  match ns,he with
  |[],he=>simp[PyData.eqv,PyData.eqvAll]at he
  |[a],he=>simp[PyData.eqv,PyData.eqvAll]at he
  |[a,b],he=>
   simp[PyData.eqv,PyData.eqvAll]at he
   rw[he.1,he.2]
  |a::b::c::t,he=>simp[PyData.eqv,PyData.eqvAll]at he
 subst this
 rw[List.map_cons,List.map_cons,List.map_nil,List.all_cons,List.all_cons,List.all_nil,x6 (by omega) (by omega),x6 (by omega) (by omega)];rfl
section
variable {T:Tbl}{Φ:Calls}{s:Sto}
def my(Φ:Calls):Prop:=∀(zs ms:List Int) (p o:Nat) (v:Val) (s:Sto),Sz zs→ms.length≤32→p<ms.length→o<zs.length→v.isD=true→Φ "is_bar" 0 [tpI zs,tpI ms,.int p,.int o,v] s=.ok (.bool (ug zs ms p o v)) s
theorem mN(g:Gls T)(cH:tw Φ)(cB:pf Φ){zs ms:List Int}{p o:Nat}{v:Val}(hz:Sz zs)(hm:ms.length≤32)(hp:p<ms.length)(ho:o<zs.length)(hv:v.isD=true):run T Φ F.wV [tpI zs,tpI ms,.int p,.int o,v] s=.ok (.bool (ug zs ms p o v)) s:=by
 obtain⟨a,ha⟩:=xb (xr hv)
 have i1:=xq (m:=false) (s:=s) ha (show yv "tuple"=some .tup from rfl)
 have end':∀{q:Bool},q=ug zs ms p o v→(zY false s (.bool q) s).post fun x t=>x=.bool (ug zs ms p o v)∧t=s:=fun{q} e=>by
  rw[zg yd,e];exact zD.mpr ⟨rfl,rfl⟩
 rw[post_eq,F.wV,xP]
 refine⟨rfl,?_⟩
 show (zZ Φ T.gl [some (tpI zs),some (tpI ms),some (.int p),some (.int o),some v,none] _ s).post _
 rcases u9 ha with⟨vs,rfl⟩|hn
 . have e1:a=.tup:=by cases ha;rfl
   subst e1
   have c1:=cH vs 0 40 s fun w hw=>xr (by rw[Val.isD]at hv;exact yD hv hw)
   cases hw:vs.all (zl 0 40) with
   |false=>
    rw[hw]at c1
    refine ye (rP (zU (zA (zB rfl) (zA yw zC)) i1) (x_call (zA (zB rfl) (zA zE (zA (YK g.mp) zC))) c1)) (zX (uG (zB rfl)) (end' ?_))
    show false=(vs.all zu&&qh (xN ms (zd zs o) p o) (.tup vs))
    cases h1:vs.all zu with
    |false=>rfl
    |true=>
     cases h2:qh (xN ms (zd zs o) p o) (.tup vs) with
     |false=>rfl
     |true=>rw[bx (fun r hr=>bz hz hm ho hr) h1 h2]at hw;cases hw
   |true=>
    rw[hw]at c1
    refine ye (rP (zU (zA (zB rfl) (zA yw zC)) i1) (x_call (zA (zB rfl) (zA zE (zA (YK g.mp) zC))) c1)) (zX (rP (zB rfl) (zf (zB rfl) (x_call (zA (zB rfl) (zA (zB rfl) (zA (zB rfl) (zA (zB rfl) zC)))) (cB zs ms p o s hz hm hp ho)) (ip (bg hw)).1)) (end' ?_))
    show _=(vs.all zu&&qh (xN ms (zd zs o) p o) (.tup vs))
    rw[bg hw];rfl
 . rw[hn]at i1
   refine ye (uG (zU (zA (zB rfl) (zA yw zC)) i1)) (zX (uG (zB rfl)) (end' ?_))
   cases v with
   |tup vs=>cases ha;cases hn
   |_=>rfl
def tm(f:Str)(Φ:Calls):Prop:=∀(zs ms:List Int) (p h:Nat) (v:Val) (s:Sto),Sz zs→ms.length≤32→p<ms.length→h<zs.length→v.isD=true→Φ f 0 [tpI zs,tpI ms,.int p,.int h,v] s=.ok (.bool (xj zs ms p h v)) s
theorem mL(cI:my Φ){zs ms:List Int}{p h:Nat}{v:Val}(hz:Sz zs)(hm:ms.length≤32)(hp:p<ms.length)(hv:v.isD=true):run T Φ F.yK [tpI zs,tpI ms,.int p,.int h,v] s=.ok (.bool (xj zs ms p h v)) s:=by
 have hl:blt .len false [tpI zs] s=.ok (.int zs.length) s:=by rw[yU,List.length_map]
 obtain⟨a,ha⟩:=xb (xr hv)
 have i1:=xq (m:=false) (s:=s) ha (show yv "tuple"=some .tup from rfl)
 have end':∀{q:Bool},q=xj zs ms p h v→(zY false s (.bool q) s).post fun x t=>x=.bool (xj zs ms p h v)∧t=s:=fun{q} e=>by
  rw[zg yd,e];exact zD.mpr ⟨rfl,rfl⟩
 rw[post_eq,F.yK,xP]
 refine⟨rfl,?_⟩
 show (zZ Φ T.gl [some (tpI zs),some (tpI ms),some (.int p),some (.int h),some v,none,none] _ s).post _
 rcases u9 ha with⟨vs,rfl⟩|hn
 case inr=>
  rw[hn]at i1
  refine yI (rJ (ze (zO (zU (zA (zB rfl) (zA yw zC)) i1) zF))) (zX zE (end' ?_))
  cases v with
  |tup vs=>cases ha;cases hn
  |_=>rfl
 have e1:a=.tup:=by cases ha;rfl
 subst e1
 have eR:xj zs ms p h (.tup vs)=(decide (vs.length=zs.length)&&xQ zs ms p h 0 vs):=rfl
 by_cases hlen:vs.length=zs.length
 case neg=>
  exact yI (vG (ze (zO (zU (zA (zB rfl) (zA yw zC)) i1) zF)) (yy (zO (zf (zU (zA (zB rfl) zC) yU) (zU (zA (zB rfl) zC) hl) ne_int) (by rw[zF,decide_eq_false (by omega)];rfl)))) (zX zE (end' (by rw[eR,decide_eq_false hlen];rfl)))
 rw[decide_eq_true hlen,Bool.true_and]at eR
 refine yH (vG (ze (zO (zU (zA (zB rfl) (zA yw zC)) i1) zF)) (yQ (zO (zf (zU (zA (zB rfl) zC) yU) (zU (zA (zB rfl) zC) hl) ne_int) (by rw[zF,decide_eq_true (by omega)];rfl)) vE)) ?_
 refine zh.mpr (y4 (fun rest e s'=>s'=s∧(∃o5 o6,e=[some (tpI zs),some (tpI ms),some (.int p),some (.int h),some (.tup vs),o5,o6])∧∃done todo,done++todo=vs∧rest=yC done.length todo∧xQ zs ms p h 0 vs=xQ zs ms p h done.length todo) (yC 0 vs) (s1:=s) (lb (zB rfl)) ⟨rfl,⟨_,_,rfl⟩,[],vs,rfl,rfl,rfl⟩ ?_ ?_)
 . rintro x' rest e s' ⟨rfl,⟨o5,o6,rfl⟩,done,todo,hdn,hr3,hv3⟩
   cases todo with
   |nil=>cases hr3
   |cons q todo=>
    injection hr3 with hx3 hr3
    subst hx3
    refine⟨_,rfl,?_⟩
    have hk:done.length<zs.length:=by rw[←hlen,←hdn,List.length_append,List.length_cons];omega
    have hq:q.isD=true:=by rw[Val.isD]at hv;exact yD hv (by rw[←hdn];exact List.mem_append_right _ (.head _))
    have c3:=cI zs ms p done.length q s' hz hm hp hk hq
    have ev:xQ zs ms p h 0 vs=((if done.length=h then q.isN else ug zs ms p done.length q)&&xQ zs ms p h (done.length+1) todo):=hv3
    have T1:evT Φ T.gl [some (tpI zs),some (tpI ms),some (.int p),some (.int h),some (.tup vs),some (.int (done.length:Int)),some q] (.and (.val (.cmp .eq (.var 5) (.var 3))) (.cons (.val (.cmp .isNot (.var 6) (.lit .none))) .nil)) s'=.ok (decide ((done.length:Int)=(h:Int))&&!q.isN) s':=md (zO (zf (zB rfl) (zB rfl) eq_int) zF) (zO (zf (zB rfl) zE is_none) zF)
    have T2:evT Φ T.gl [some (tpI zs),some (tpI ms),some (.int p),some (.int h),some (.tup vs),some (.int (done.length:Int)),some q] (.and (.val (.cmp .ne (.var 5) (.var 3))) (.cons (.not (.val (.call "is_bar" 0 (.cons (.var 0) (.cons (.var 1) (.cons (.var 2) (.cons (.var 5) (.cons (.var 6) .nil)))))))) .nil)) s'=.ok (!decide ((done.length:Int)=(h:Int))&&!ug zs ms p done.length q) s':=md (zO (zf (zB rfl) (zB rfl) ne_int) zF) (ze (zO (x_call (zA (zB rfl) (zA (zB rfl) (zA (zB rfl) (zA (zB rfl) (zA (zB rfl) zC))))) c3) zF))
    have nx:(if done.length=h then q.isN else ug zs ms p done.length q)=true→∃done' todo',done'++todo'=vs∧rest=yC done'.length todo'∧xQ zs ms p h 0 vs=xQ zs ms p h done'.length todo':=fun hb=>⟨done++[q],todo,by rw[List.append_assoc];exact hdn,by rw[List.length_append,List.length_singleton];exact hr3,by rw[List.length_append,List.length_singleton,ev,hb,Bool.true_and]⟩
    by_cases e:done.length=h
    . rw[decide_eq_true (show ((done.length:Int)=(h:Int)) by omega)]at T1 T2
      rw[if_pos e]at ev nx
      cases hN:q.isN with
      |false=>
       rw[hN]at T1 ev
       exact yI T1 (zX zE (end' (by rw[eR,ev];rfl)))
      |true=>
       rw[hN]at T1
       exact yH T1 (yH T2 (yt ⟨rfl,⟨_,_,rfl⟩,nx hN⟩))
    . rw[decide_eq_false (show ¬((done.length:Int)=(h:Int)) by omega)]at T1 T2
      rw[if_neg e]at ev nx
      cases hN:ug zs ms p done.length q with
      |false=>
       rw[hN]at T2 ev
       exact yH T1 (yI T2 (zX zE (end' (by rw[eR,ev];rfl))))
      |true=>
       rw[hN]at T2
       exact yH T1 (yH T2 (yt ⟨rfl,⟨_,_,rfl⟩,nx hN⟩))
 . rintro e s' ⟨rfl,⟨o5,o6,rfl⟩,done,todo,hdn,hr3,hv3⟩
   have ht:todo=[]:=by cases todo with|nil=>rfl|cons _ _=>cases hr3
   subst ht
   exact zX zE (end' (by rw[eR,hv3];rfl))
def mz(Φ:Calls):Prop:=∀(zs:List Int) (b:Val) (s:Sto),kindOf b≠none→Φ "is_hue" 0 [tpI zs,b] s=.ok (.bool (zl 0 ((zs.length:Int)-1) b)) s
theorem mO(cW:ur Φ){zs:List Int}{b:Val}(hb:kindOf b≠none):run T Φ F.wW [tpI zs,b] s=.ok (.bool (zl 0 ((zs.length:Int)-1) b)) s:=by
 have hl:blt .len false [tpI zs] s=.ok (.int zs.length) s:=by rw[yU,List.length_map]
 rw[post_eq,F.wW,xP]
 refine⟨rfl,?_⟩
 show (zZ Φ T.gl [some (tpI zs),some b] _ s).post _
 refine zX (x_call (zA (zB rfl) (zA zE (zA (zw (zU (zA (zB rfl) zC) hl) zE sM) zC))) (cW b 0 ((zs.length:Int)-1) s hb)) ?_
 show (zY false s _ s).post _
 rw[zg yd]
 exact zD.mpr ⟨rfl,rfl⟩
def m5(Φ:Calls):Prop:=∀(zs ms:List Int) (v:Val) (s:Sto),Sz zs→ms.length≤32→v.isD=true→Φ "is_reason" 0 [tpI zs,tpI ms,v] s=.ok (.bool (ue zs ms v)) s
theorem qB{ms:List Int}{a:Val}(h:x9 ms a=true):∃p:Nat,a=.int p∧p<ms.length∧ms.getD p 0=-1:=by
 cases a with
 |int i=>
  have hw:((decide (0≤i)&&decide (i≤(ms.length:Int)-1))&&decide (ms.getD i.toNat 0=-1))=true:=h
  rw[Bool.and_eq_true,Bool.and_eq_true]at hw
  have h1:=of_decide_eq_true hw.1.1
  have h2:=of_decide_eq_true hw.1.2
  exact⟨i.toNat,by congr 1;omega,by omega,of_decide_eq_true hw.2⟩
 |_=>cases h
theorem lV{zs:List Int}{b:Val}(h:zl 0 ((zs.length:Int)-1) b=true):∃k:Nat,b=.int k∧k<zs.length:=by
 obtain⟨i,rfl,i0,i1⟩:=qc h
 exact⟨i.toNat,by congr 1;omega,by omega⟩
theorem sW{vs:List Val}(h:vs.length=3):∃a b c,vs=[a,b,c]:=by
 match vs,h with
 |[a,b,c],_=>exact⟨a,b,c,rfl⟩
theorem pO{zs ms:List Int}{vs:List Val}(h:vs.length≠3):ue zs ms (.tup vs)=false:=by
 match vs,h with
 |[],_=>rfl
 |[_],_=>rfl
 |[_,_],_=>rfl
 |[_,_,_],h=>exact absurd rfl h
 |_::_::_::_::_,_=>rfl
theorem mP(cB:mw Φ)(cH:mz Φ)(cR:tm "are_rows_for" Φ){zs ms:List Int}{v:Val}(hz:Sz zs)(hm:ms.length≤32)(hv:v.isD=true):run T Φ F.xB [tpI zs,tpI ms,v] s=.ok (.bool (ue zs ms v)) s:=by
 obtain⟨a,ha⟩:=xb (xr hv)
 have i1:=xq (m:=false) (s:=s) ha (show yv "tuple"=some .tup from rfl)
 have end':∀{q:Bool},q=ue zs ms v→(zY false s (.bool q) s).post fun x t=>x=.bool (ue zs ms v)∧t=s:=fun{q} e=>by
  rw[zg yd,e];exact zD.mpr ⟨rfl,rfl⟩
 rw[post_eq,F.xB,xP]
 refine⟨rfl,?_⟩
 show (zZ Φ T.gl [some (tpI zs),some (tpI ms),some v,none,none,none] _ s).post _
 rcases u9 ha with⟨vs,rfl⟩|hn
 case inr=>
  rw[hn]at i1
  refine yI (rJ (ze (zO (zU (zA (zB rfl) (zA yw zC)) i1) zF))) (zX zE (end' ?_))
  cases v with
  |tup vs=>cases ha;cases hn
  |_=>rfl
 have e1:a=.tup:=by cases ha;rfl
 subst e1
 by_cases hlen:vs.length=3
 case neg=>
  exact yI (vG (ze (zO (zU (zA (zB rfl) (zA yw zC)) i1) zF)) (yy (zO (zf (zU (zA (zB rfl) zC) yU) zE ne_int) (by rw[zF,decide_eq_false (by omega)];rfl)))) (zX zE (end' (pO hlen).symm))
 refine yH (vG (ze (zO (zU (zA (zB rfl) (zA yw zC)) i1) zF)) (yQ (zO (zf (zU (zA (zB rfl) zC) yU) zE ne_int) (by rw[zF,decide_eq_true (by omega)];rfl)) vE)) ?_
 obtain⟨x,y,z,rfl⟩:=sW hlen
 have dd:∀w∈[x,y,z],w.isD=true:=fun w hw=>by rw[Val.isD]at hv;exact yD hv hw
 have dx:=dd x (.head _)
 have dy:=dd y (.tail _ (.head _))
 have dz:=dd z (.tail _ (.tail _ (.head _)))
 refine pW (env':=[some (tpI zs),some (tpI ms),some (.tup [x,y,z]),some x,some y,some z]) (zB rfl) rfl ?_
 have c1:=cB ms x s (xr dx)
 have c2:=cH zs y s (xr dy)
 have eR:ue zs ms (.tup [x,y,z])=(x9 ms x&&(zl 0 ((zs.length:Int)-1) y&&xj zs ms (toN x) (toN y) z)):=rfl
 cases hb:x9 ms x with
 |false=>
  rw[hb]at c1 eR
  exact zX (uG (x_call (zA (zB rfl) (zA (zB rfl) zC)) c1)) (end' (by rw[eR];rfl))
 |true=>
  rw[hb]at c1 eR
  cases hw:zl 0 ((zs.length:Int)-1) y with
  |false=>
   rw[hw]at c2 eR
   exact zX (fh (x_call (zA (zB rfl) (zA (zB rfl) zC)) c1) (x_call (zA (zB rfl) (zA (zB rfl) zC)) c2)) (end' (by rw[eR];rfl))
  |true=>
   rw[hw]at c2 eR
   obtain⟨p,rfl,hp,_⟩:=qB hb
   obtain⟨h,rfl,hh⟩:=lV hw
   exact zX (fj (x_call (zA (zB rfl) (zA (zB rfl) zC)) c1) (x_call (zA (zB rfl) (zA (zB rfl) zC)) c2) (x_call (zA (zB rfl) (zA (zB rfl) (zA (zB rfl) (zA (zB rfl) (zA (zB rfl) zC))))) (cR zs ms p h z s hz hm hp hh dz))) (end' (by rw[eR];show _=xj zs ms (p:Int).toNat (h:Int).toNat z;rw[Int.toNat_natCast,Int.toNat_natCast]))
theorem cC{zs ms:List Int}{v:Val}(h:ue zs ms v=true):∃(p k:Nat) (c:Val),v=.tup [.int p,.int k,c]∧p<ms.length∧k<zs.length∧gS ms v=putL ms p k:=by
 cases v with
 |tup vs=>
  by_cases hl:vs.length=3
  . obtain⟨x,y,z,rfl⟩:=sW hl
    have h:(x9 ms x&&(zl 0 ((zs.length:Int)-1) y&&xj zs ms (toN x) (toN y) z))=true:=h
    rw[Bool.and_eq_true,Bool.and_eq_true]at h
    obtain⟨p,rfl,hp,_⟩:=qB h.1
    obtain⟨k,rfl,hk⟩:=lV h.2.1
    refine⟨p,k,z,rfl,hp,hk,?_⟩
    show putL ms (p:Int).toNat (((k:Int).toNat:Nat):Int)=_
    rw[Int.toNat_natCast,Int.toNat_natCast]
  . rw[pO hl]at h;cases h
 |_=>cases h
def qd(f:Str)(Φ:Calls):Prop:=∀(zs ds:List Int) (v:Val) (s:Sto),Sz zs→Dr zs ds→kindOf v≠none→(∀i,v≠.ref i)→(∀vs,v=.lst vs→∀w∈vs,w.isD=true)→Φ f 0 [tpI zs,tpI ds,v] s=.ok (.bool (uy zs ds v)) s
theorem gG{v:Val}{a:L2.Kd}(h:kindOf v=some a)(hr:∀i,v≠.ref i):(∃vs,v=.lst vs)∨a.sub .lst=false:=by
 cases v with
 |lst vs=>exact .inl ⟨vs,rfl⟩
 |ref i=>exact absurd rfl (hr i)
 |_=>cases h<;>exact .inr rfl
end
end M
end
section
namespace M
open PySem
section
variable {T:Tbl}{Φ:Calls}{s:Sto}
theorem jk(cN:sD Φ)(cI:m5 Φ)(cW:lA Φ){zs ds:List Int}{v:Val}(hz:Sz zs)(hd:Dr zs ds)(hk:kindOf v≠none)(hrf:∀i,v≠.ref i)(hv:∀vs,v=.lst vs→∀w∈vs,w.isD=true):run T Φ F.yZ [tpI zs,tpI ds,v] s=.ok (.bool (uy zs ds v)) s:=by
 obtain⟨a,ha⟩:=xb hk
 have i1:=xq (m:=false) (s:=s) ha (show yv "list"=some .lst from rfl)
 have end':∀{q:Bool},q=uy zs ds v→(zY false s (.bool q) s).post fun x t=>x=.bool (uy zs ds v)∧t=s:=fun{q} e=>by
  rw[zg yd,e];exact zD.mpr ⟨rfl,rfl⟩
 rw[post_eq,F.yZ,xP]
 refine⟨rfl,?_⟩
 show (zZ Φ T.gl [some (tpI zs),some (tpI ds),some v,none,none] _ s).post _
 refine vD (x_call (zA (zB rfl) (zA (zB rfl) zC)) (cN zs ds s hz hd)) ?_
 rcases gG ha hrf with⟨vs,rfl⟩|hn
 case inr=>
  rw[hn]at i1
  refine yI (ze (zO (zU (zA (zB rfl) (zA yw zC)) i1) zF)) (zX zE (end' ?_))
  cases v with
  |lst vs=>cases ha;cases hn
  |_=>rfl
 have e1:a=.lst:=by cases ha;rfl
 subst e1
 have hv':=hv vs rfl
 refine yH (ze (zO (zU (zA (zB rfl) (zA yw zC)) i1) zF)) (ye (zB rfl) ?_)
 refine zh.mpr (y4 (fun rest e s'=>s'=s∧∃ms o4,e=[some (tpI zs),some (tpI ds),some (.lst vs),some (tpI ms),o4]∧Dr zs ms∧(∀w∈rest,w.isD=true)∧uM zs ds vs=uM zs ms rest) vs (s1:=s) (u7 (zB rfl) rfl) ⟨rfl,ds,_,rfl,hd,hv',rfl⟩ ?_ ?_)
 . rintro x rest e s' ⟨rfl,ms,o4,rfl,hm,hr,hq⟩
   have hx:=hr x (.head _)
   have c1:=cI zs ms x s' hz hm.1 hx
   refine⟨_,rfl,?_⟩
   have ev:uM zs ds vs=(ue zs ms x&&uM zs (gS ms x) rest):=hq
   cases hb:ue zs ms x with
   |false=>
    rw[hb]at c1 ev
    exact yI (ze (zO (x_call (zA (zB rfl) (zA (zB rfl) (zA (zB rfl) zC))) c1) zF)) (zX zE (end' (show false=uM zs ds vs by rw[ev];rfl)))
   |true=>
    rw[hb]at c1 ev
    obtain⟨p,h,c,rfl,hp,hh,hnx⟩:=cC hb
    rw[hnx,Bool.true_and]at ev
    have hm32:=hm.1
    exact yH (ze (zO (x_call (zA (zB rfl) (zA (zB rfl) (zA (zB rfl) zC))) c1) zF)) (ye (x_call (zA (zB rfl) (zA (xO (zB rfl) zE rfl) (zA (xO (zB rfl) zE rfl) zC))) (cW ms p h s' hp (by omega))) (yt ⟨rfl,putL ms p h,_,rfl,hm.put hp hh,fun w hw=>hr w (.tail _ hw),ev⟩))
 . rintro e s' ⟨rfl,ms,o4,rfl,hm,hr,hq⟩
   exact zX zE (end' (show true=uM zs ds vs by rw[hq];rfl))
theorem uh{zs ms:List Int}{p h:Nat}:∀{k:Nat} {vs:List Val} {v:Val},vs[h-k]?=some v→k≤h→v.isN=false→xQ zs ms p h k vs=false
 |k,[],v,hg,_,_=>by cases hg
 |k,w::vs,v,hg,hk,hN=>by
  show ((if k=h then w.isN else ug zs ms p k w)&&xQ zs ms p h (k+1) vs)=false
  by_cases e:k=h
  . rw[e,Nat.sub_self]at hg
    cases hg
    rw[if_pos e,hN];rfl
  . rw[uh (k:=k+1) (vs:=vs) (v:=v) (by rw[←hg,show h-k=(h-(k+1))+1 by omega];rfl) (by omega) hN,Bool.and_false]
theorem ka(cN:tu Φ){G:Str→Option Val}{env:Env}{N:List Str}{vs:List Val}{i:Nat}(hi:env[i]?=some (some (.tup vs)))(hk:∀w∈vs,kindOf w≠none):evE Φ G env (.blt .all false (.cons (.comp false N [none] (.call "_law_whole" 0 (.cons (.var 0) .nil)) (.nm 0) (.val (.var i)) .nil) .nil)) s=.ok (.bool (vs.all zu)) s:=by
 have hc:evE Φ G env (.comp false N [none] (.call "_law_whole" 0 (.cons (.var 0) .nil)) (.nm 0) (.val (.var i)) .nil) s=.ok (.lst (vs.map fun x=>.bool (zu x))) s:=by
  rw[post_eq]
  refine vi (fun e=>∃a,e=[a]) (fun x=>[.bool (zu x)]) vs (s1:=s) (u7 (zB hi) rfl) ⟨_,rfl⟩ ?_ ?_
  . rintro x hx e ⟨a,rfl⟩
    refine⟨_,rfl,⟨_,rfl⟩,uZ.mpr ⟨rfl,?_⟩⟩
    rw[if_pos rfl,x_call (zA (zB rfl) zC) (cN x s (hk x hx))]
    exact zD.mpr ⟨rfl,rfl⟩
  . rw[oE]
    exact zD.mpr ⟨rfl,rfl⟩
 refine zU (zA hc zC) ?_
 show (match boolsOf (vs.map fun x=>Val.bool (zu x)) with|some bs=>Out.ok (Val.bool (bs.all id)) s|Option.none=>.stuck)=_
 rw[vI]
 show Out.ok (Val.bool ((vs.map zu).all id)) s=_
 rw[List.all_map];rfl
theorem pU(cN:tu Φ)(cB:qe Φ){zs ms:List Int}{p h:Nat}{v:Val}(hz:Sz zs)(hm:ms.length≤32)(hp:p<ms.length)(hh:h<zs.length)(hv:v.isD=true):run T Φ F25.z9 [tpI zs,tpI ms,.int p,.int h,v] s=.ok (.bool (xj zs ms p h v)) s:=by
 have hl:blt .len false [tpI zs] s=.ok (.int zs.length) s:=by rw[yU,List.length_map]
 obtain⟨a,ha⟩:=xb (xr hv)
 have i1:=xq (m:=false) (s:=s) ha (show yv "tuple"=some .tup from rfl)
 have end':∀{q:Bool},q=xj zs ms p h v→(zY false s (.bool q) s).post fun x t=>x=.bool (xj zs ms p h v)∧t=s:=fun{q} e=>by
  rw[zg yd,e];exact zD.mpr ⟨rfl,rfl⟩
 rw[post_eq,F25.z9,xP]
 refine⟨rfl,?_⟩
 show (zZ Φ T.gl [some (tpI zs),some (tpI ms),some (.int p),some (.int h),some v,none,none] _ s).post _
 rcases u9 ha with⟨vs,rfl⟩|hn
 case inr=>
  rw[hn]at i1
  refine yI (rJ (ze (zO (zU (zA (zB rfl) (zA yw zC)) i1) zF))) (zX zE (end' ?_))
  cases v with
  |tup vs=>cases ha;cases hn
  |_=>rfl
 have e1:a=.tup:=by cases ha;rfl
 subst e1
 have eR:xj zs ms p h (.tup vs)=(decide (vs.length=zs.length)&&xQ zs ms p h 0 vs):=rfl
 by_cases hlen:vs.length=zs.length
 case neg=>
  exact yI (vG (ze (zO (zU (zA (zB rfl) (zA yw zC)) i1) zF)) (yy (zO (zf (zU (zA (zB rfl) zC) yU) (zU (zA (zB rfl) zC) hl) ne_int) (by rw[zF,decide_eq_false (by omega)];rfl)))) (zX zE (end' (by rw[eR,decide_eq_false hlen];rfl)))
 rw[decide_eq_true hlen,Bool.true_and]at eR
 obtain⟨u,hu⟩:∃u,vs[h]?=some u:=⟨_,List.getElem?_eq_getElem (show h<vs.length by omega)⟩
 have T0:evT Φ T.gl [some (tpI zs),some (tpI ms),some (.int p),some (.int h),some (.tup vs),none,none] (.or (.not (.val (.blt .isi false (.cons (.var 4) (.cons (.ty "tuple" "tuple") .nil))))) (.cons (.val (.cmp .ne (.blt .len false (.cons (.var 4) .nil)) (.blt .len false (.cons (.var 0) .nil)))) (.cons (.val (.cmp .isNot (.ix (.var 4) (.var 3)) (.lit .none))) .nil))) s=.ok (!u.isN) s:=by
  refine vG (ze (zO (zU (zA (zB rfl) (zA yw zC)) i1) zF)) (yQ (zO (zf (zU (zA (zB rfl) zC) yU) (zU (zA (zB rfl) zC) hl) ne_int) (by rw[zF,decide_eq_true (by omega)];rfl)) ?_)
  have t:=zO (Φ:=Φ) (G:=T.gl) (env:=[some (tpI zs),some (tpI ms),some (.int p),some (.int h),some (.tup vs),none,none]) (zf (xO (zB (i:=4) rfl) (zB (i:=3) rfl) (sY (s:=s) hu)) zE is_none) zF
  cases hN:u.isN with
  |true=>rw[hN]at t;exact yQ t vE
  |false=>rw[hN]at t;exact yy t
 cases hN:u.isN with
 |false=>
  rw[hN]at T0
  exact yI T0 (zX zE (end' (by rw[eR,uh (k:=0) hu (Nat.zero_le _) hN])))
 |true=>
 rw[hN]at T0
 refine yH T0 ?_
 clear T0
 refine zh.mpr (y4 (fun rest e s'=>s'=s∧(∃o5 o6,e=[some (tpI zs),some (tpI ms),some (.int p),some (.int h),some (.tup vs),o5,o6])∧∃done todo,done++todo=vs∧rest=yC done.length todo∧xQ zs ms p h 0 vs=xQ zs ms p h done.length todo) (yC 0 vs) (s1:=s) (lb (zB rfl)) ⟨rfl,⟨_,_,rfl⟩,[],vs,rfl,rfl,rfl⟩ ?_ ?_)
 . rintro x' rest e s' ⟨rfl,⟨o5,o6,rfl⟩,done,todo,hdn,hr3,hv3⟩
   cases todo with
   |nil=>cases hr3
   |cons q todo=>
    injection hr3 with hx3 hr3
    subst hx3
    refine⟨_,rfl,?_⟩
    have hk:done.length<zs.length:=by rw[←hlen,←hdn,List.length_append,List.length_cons];omega
    have hq:q.isD=true:=by rw[Val.isD]at hv;exact yD hv (by rw[←hdn];exact List.mem_append_right _ (.head _))
    have ev:xQ zs ms p h 0 vs=((if done.length=h then q.isN else ug zs ms p done.length q)&&xQ zs ms p h (done.length+1) todo):=hv3
    have nx:(if done.length=h then q.isN else ug zs ms p done.length q)=true→∃done' todo',done'++todo'=vs∧rest=yC done'.length todo'∧xQ zs ms p h 0 vs=xQ zs ms p h done'.length todo':=fun hb=>⟨done++[q],todo,by rw[List.append_assoc];exact hdn,by rw[List.length_append,List.length_singleton];exact hr3,by rw[List.length_append,List.length_singleton,ev,hb,Bool.true_and]⟩
    by_cases e:done.length=h
    . rw[if_pos e]at nx
      have hqu:q=u:=by
       rw[←hdn,←e,List.getElem?_append_right (Nat.le_refl _),Nat.sub_self]at hu
       exact Option.some.inj hu
      exact yH (zO (zf (zB rfl) (zB rfl) ne_int) (by rw[zF,decide_eq_true (by omega)];rfl)) (yt ⟨rfl,⟨_,_,rfl⟩,nx (by rw[hqu];exact hN)⟩)
    . rw[if_neg e]at ev nx
      refine yI (zO (zf (zB rfl) (zB rfl) ne_int) (by rw[zF,decide_eq_false (by omega)];rfl)) ?_
      obtain⟨b,hb⟩:=xb (xr hq)
      have j1:=xq (m:=false) (s:=s') hb (show yv "tuple"=some .tup from rfl)
      rcases u9 hb with⟨ws,rfl⟩|hn
      case inr=>
       rw[hn]at j1
       refine yI (rJ (ze (zO (zU (zA (zB rfl) (zA yw zC)) j1) zF))) (zX zE (end' ?_))
       have:ug zs ms p done.length q=false:=by
        cases q with
        |tup vs=>cases hb;cases hn
        |_=>rfl
       rw[eR,ev,this];rfl
      have e1:b=.tup:=by cases hb;rfl
      subst e1
      have ew:=ka (s:=s') cN (G:=T.gl) (env:=[some (tpI zs),some (tpI ms),some (.int p),some (.int h),some (.tup vs),some (.int (done.length:Int)),some (.tup ws)]) (N:=["_law_number"]) (i:=6) rfl fun w hw=>xr (by rw[Val.isD]at hq;exact yD hq hw)
      have er:ug zs ms p done.length (.tup ws)=(ws.all zu&&qh (xN ms (zd zs done.length) p done.length) (.tup ws)):=rfl
      cases hw:ws.all zu with
      |false=>
       rw[hw]at ew er
       exact yI (vG (ze (zO (zU (zA (zB rfl) (zA yw zC)) j1) zF)) (yy (ze (zO ew zF)))) (zX zE (end' (by rw[eR,ev,er];rfl)))
      |true=>
       rw[hw]at ew er
       rw[Bool.true_and]at er
       refine yH (vG (ze (zO (zU (zA (zB rfl) (zA yw zC)) j1) zF)) (yQ (ze (zO ew zF)) vE)) ?_
       have cn:=(ip (rs:=xN ms (zd zs done.length) p done.length) (s:=s') hw).2
       cases hb2:qh (xN ms (zd zs done.length) p done.length) (.tup ws) with
       |false=>
        rw[hb2]at cn er
        exact yI (zO (zf (zB rfl) (x_call (zA (zB rfl) (zA (zB rfl) (zA (zB rfl) (zA (zB rfl) zC)))) (cB zs ms p done.length s' hz hm hp hk)) cn) zF) (zX zE (end' (by rw[eR,ev,er];rfl)))
       |true=>
        rw[hb2]at cn er
        exact yH (zO (zf (zB rfl) (x_call (zA (zB rfl) (zA (zB rfl) (zA (zB rfl) (zA (zB rfl) zC)))) (cB zs ms p done.length s' hz hm hp hk)) cn) zF) (yt (yt ⟨rfl,⟨_,_,rfl⟩,nx er⟩))
 . rintro e s' ⟨rfl,⟨o5,o6,rfl⟩,done,todo,hdn,hr3,hv3⟩
   have ht:todo=[]:=by cases todo with|nil=>rfl|cons _ _=>cases hr3
   subst ht
   exact zX zE (end' (by rw[eR,hv3];rfl))
theorem fL(cN:tu Φ)(cR:tm "_law_rows_are" Φ)(cP:iB Φ){zs ds:List Int}{v:Val}(hz:Sz zs)(hd:Dr zs ds)(hk:kindOf v≠none)(hrf:∀i,v≠.ref i)(hv:∀vs,v=.lst vs→∀w∈vs,w.isD=true):run T Φ F25.xR [tpI zs,tpI ds,v] s=.ok (.bool (uy zs ds v)) s:=by
 have hl:∀s,blt .len false [tpI zs] s=.ok (.int zs.length) s:=fun s=>by rw[yU,List.length_map]
 obtain⟨a,ha⟩:=xb hk
 have i1:=xq (m:=false) (s:=s) ha (show yv "list"=some .lst from rfl)
 have end':∀{q:Bool},q=uy zs ds v→(zY false s (.bool q) s).post fun x t=>x=.bool (uy zs ds v)∧t=s:=fun{q} e=>by
  rw[zg yd,e];exact zD.mpr ⟨rfl,rfl⟩
 rw[post_eq,F25.xR,xP]
 refine⟨rfl,?_⟩
 show (zZ Φ T.gl [some (tpI zs),some (tpI ds),some v,none,none,none,none] _ s).post _
 rcases gG ha hrf with⟨vs,rfl⟩|hn
 case inr=>
  rw[hn]at i1
  refine yI (ze (zO (zU (zA (zB rfl) (zA yw zC)) i1) zF)) (zX zE (end' ?_))
  cases v with
  |lst vs=>cases ha;cases hn
  |_=>rfl
 have e1:a=.lst:=by cases ha;rfl
 subst e1
 have hv':=hv vs rfl
 refine yH (ze (zO (zU (zA (zB rfl) (zA yw zC)) i1) zF)) ?_
 refine zh.mpr (y4 (fun rest e s'=>s'=s∧∃ms o3 o4 o5 o6,e=[some (tpI zs),some (tpI ms),some (.lst vs),o3,o4,o5,o6]∧Dr zs ms∧(∀w∈rest,w.isD=true)∧uM zs ds vs=uM zs ms rest) vs (s1:=s) (u7 (zB rfl) rfl) ⟨rfl,ds,_,_,_,_,rfl,hd,hv',rfl⟩ ?_ ?_)
 . rintro x rest e s' ⟨rfl,ms,o3,o4,o5,o6,rfl,hm,hr,hq⟩
   have hlm:blt .len false [tpI ms] s'=.ok (.int ms.length) s':=by rw[yU,List.length_map]
   have hx:=hr x (.head _)
   have ev:uM zs ds vs=(ue zs ms x&&uM zs (gS ms x) rest):=hq
   have no:ue zs ms x=false→(zY false s' (.bool false) s').post fun x t=>x=.bool (uy zs ds (.lst vs))∧t=s':=fun hb=>end' (show false=uM zs ds vs by rw[ev,hb];rfl)
   refine⟨_,rfl,?_⟩
   obtain⟨b,hb⟩:=xb (xr hx)
   have j1:=xq (m:=false) (s:=s') hb (show yv "tuple"=some .tup from rfl)
   rcases u9 hb with⟨ws,rfl⟩|hn
   case inr=>
    rw[hn]at j1
    refine yI (rJ (ze (zO (zU (zA (zB rfl) (zA yw zC)) j1) zF))) (zX zE (no ?_))
    cases x with
    |tup vs=>cases hb;cases hn
    |_=>rfl
   have e1:b=.tup:=by cases hb;rfl
   subst e1
   by_cases hlen:ws.length=3
   case neg=>
    exact yI (vG (ze (zO (zU (zA (zB rfl) (zA yw zC)) j1) zF)) (yy (zO (zf (zU (zA (zB rfl) zC) yU) zE ne_int) (by rw[zF,decide_eq_false (by omega)];rfl)))) (zX zE (no (pO hlen)))
   refine yH (vG (ze (zO (zU (zA (zB rfl) (zA yw zC)) j1) zF)) (yQ (zO (zf (zU (zA (zB rfl) zC) yU) zE ne_int) (by rw[zF,decide_eq_true (by omega)];rfl)) vE)) ?_
   obtain⟨y1,y2,y3,rfl⟩:=sW hlen
   have dd:∀w∈[y1,y2,y3],w.isD=true:=fun w hw=>by rw[Val.isD]at hx;exact yD hx hw
   have d1:=dd y1 (.head _)
   have d2:=dd y2 (.tail _ (.head _))
   have d3:=dd y3 (.tail _ (.tail _ (.head _)))
   refine pW (env':=[some (tpI zs),some (tpI ms),some (.lst vs),some (.tup [y1,y2,y3]),some y1,some y2,some y3]) (zB rfl) rfl ?_
   have eR:ue zs ms (.tup [y1,y2,y3])=(x9 ms y1&&(zl 0 ((zs.length:Int)-1) y2&&xj zs ms (toN y1) (toN y2) y3)):=rfl
   have c1:=cN y1 s' (xr d1)
   have c2:=cN y2 s' (xr d2)
   cases h1:zu y1 with
   |false=>
    rw[h1]at c1
    refine yI (rJ (ze (zO (x_call (zA (zB rfl) zC) c1) zF))) (zX zE (no ?_))
    rw[eR]
    cases y1 with
    |int i=>cases h1
    |_=>rfl
   |true=>
   rw[h1]at c1
   cases h2:zu y2 with
   |false=>
    rw[h2]at c2
    refine yI (vG (ze (zO (x_call (zA (zB rfl) zC) c1) zF)) (yy (ze (zO (x_call (zA (zB rfl) zC) c2) zF)))) (zX zE (no ?_))
    rw[eR]
    cases y2 with
    |int i=>cases h2
    |_=>exact Bool.and_false _
   |true=>
   rw[h2]at c2
   obtain⟨i,rfl⟩:∃i,y1=.int i:=by
    cases y1 with
    |int i=>exact⟨i,rfl⟩
    |_=>cases h1
   obtain⟨j,rfl⟩:∃j,y2=.int j:=by
    cases y2 with
    |int i=>exact⟨i,rfl⟩
    |_=>cases h2
   have hch1:=kI (Φ:=Φ) (G:=T.gl) (env:=[some (tpI zs),some (tpI ms),some (.lst vs),some (.tup [.int i,.int j,y3]),some (.int i),some (.int j),some y3]) (a:=.lit (.int 0)) (b:=.var 4) (c:=.blt .len false (.cons (.var 1) .nil)) (s:=s') zE (zB rfl) (zU (zA (zB rfl) zC) hlm)
   have hch2:=kI (Φ:=Φ) (G:=T.gl) (env:=[some (tpI zs),some (tpI ms),some (.lst vs),some (.tup [.int i,.int j,y3]),some (.int i),some (.int j),some y3]) (a:=.lit (.int 0)) (b:=.var 5) (c:=.blt .len false (.cons (.var 0) .nil)) (s:=s') zE (zB rfl) (zU (zA (zB rfl) zC) (hl s'))
   have out:∀{i:Int} {n:Nat},¬(0≤i∧i<(n:Int))→(decide (0≤i)&&decide (i<(n:Int)))=false∧(decide (0≤i)&&decide (i≤(n:Int)-1))=false:=fun{i n} h=>by
    by_cases h0:0≤i
    . rw[decide_eq_false (show ¬i<(n:Int) by omega),decide_eq_false (show ¬i≤(n:Int)-1 by omega),Bool.and_false]
      exact⟨rfl,rfl⟩
    . rw[decide_eq_false h0]
      exact⟨rfl,rfl⟩
   by_cases r1:0≤i∧i<(ms.length:Int)
   case neg=>
    rw[(out r1).1]at hch1
    refine yI (vG (ze (zO (x_call (zA (zB rfl) zC) c1) zF)) (yQ (ze (zO (x_call (zA (zB rfl) zC) c2) zF)) (yy (ze (zO hch1 zF))))) (zX zE (no ?_))
    rw[eR]
    show (((decide (0≤i)&&decide (i≤(ms.length:Int)-1))&&_)&&_)=false
    rw[(out r1).2];rfl
   rw[decide_eq_true r1.1,decide_eq_true r1.2]at hch1
   by_cases r2:0≤j∧j<(zs.length:Int)
   case neg=>
    rw[(out r2).1]at hch2
    refine yI (vG (ze (zO (x_call (zA (zB rfl) zC) c1) zF)) (yQ (ze (zO (x_call (zA (zB rfl) zC) c2) zF)) (yQ (ze (zO hch1 zF)) (yy (ze (zO hch2 zF)))))) (zX zE (no ?_))
    rw[eR,show zl 0 ((zs.length:Int)-1) (.int j)=(decide (0≤j)&&decide (j≤(zs.length:Int)-1)) from rfl,(out r2).2,Bool.false_and,Bool.and_false]
   rw[decide_eq_true r2.1,decide_eq_true r2.2]at hch2
   refine yH (vG (ze (zO (x_call (zA (zB rfl) zC) c1) zF)) (yQ (ze (zO (x_call (zA (zB rfl) zC) c2) zF)) (yQ (ze (zO hch1 zF)) (yQ (ze (zO hch2 zF)) vE)))) ?_
   clear hch1 hch2 c1 c2 j1
   obtain⟨p,rfl⟩:∃p:Nat,i=p:=⟨i.toNat,by omega⟩
   obtain⟨h,rfl⟩:∃h:Nat,j=h:=⟨j.toNat,by omega⟩
   have hp:p<ms.length:=by omega
   have hh:h<zs.length:=by omega
   have hix:=v7 (s:=s') (List.getElem?_eq_getElem hp)
   have e2:x9 ms (.int (p:Int))=decide (ms[p]=-1):=by
    show ((decide (0≤(p:Int))&&decide ((p:Int)≤(ms.length:Int)-1))&&decide (ms.getD (p:Int).toNat 0=-1))=_
    rw[decide_eq_true r1.1,decide_eq_true (show (p:Int)≤(ms.length:Int)-1 by omega),Int.toNat_natCast,List.getD_eq_getElem?_getD,List.getElem?_eq_getElem hp];rfl
   have e3:zl 0 ((zs.length:Int)-1) (.int (h:Int))=true:=x6 r2.1 (by omega)
   rw[e2,e3,Bool.true_and]at eR
   by_cases hm1:ms[p]=-1
   case neg=>
    exact yI (rJ (zO (zf (xO (zB rfl) (zB rfl) hix) (wH zE) ne_int) (by rw[zF,decide_eq_false hm1];rfl))) (zX zE (no (by rw[eR,decide_eq_false hm1];rfl)))
   rw[decide_eq_true hm1,Bool.true_and]at eR
   have hm32:=hm.1
   have c3:=cR zs ms p h y3 s' hz hm32 hp hh d3
   have eT:ue zs ms (.tup [.int (p:Int),.int (h:Int),y3])=xj zs ms p h y3:=by
    rw[eR]
    show xj zs ms (p:Int).toNat (h:Int).toNat y3=_
    rw[Int.toNat_natCast,Int.toNat_natCast]
   cases h3:xj zs ms p h y3 with
   |false=>
    rw[h3]at c3 eT
    exact yI (vG (zO (zf (xO (zB rfl) (zB rfl) hix) (wH zE) ne_int) (by rw[zF,decide_eq_true hm1];rfl)) (yy (ze (zO (x_call (zA (zB rfl) (zA (zB rfl) (zA (zB rfl) (zA (zB rfl) (zA (zB rfl) zC))))) c3) zF)))) (zX zE (no eT))
   |true=>
    rw[h3]at c3 eT
    rw[eT,Bool.true_and]at ev
    have hnx:gS ms (.tup [.int (p:Int),.int (h:Int),y3])=putL ms p h:=by
     show putL ms (p:Int).toNat (((h:Int).toNat:Nat):Int)=_
     rw[Int.toNat_natCast,Int.toNat_natCast]
    rw[hnx]at ev
    exact yH (vG (zO (zf (xO (zB rfl) (zB rfl) hix) (wH zE) ne_int) (by rw[zF,decide_eq_true hm1];rfl)) (yQ (ze (zO (x_call (zA (zB rfl) (zA (zB rfl) (zA (zB rfl) (zA (zB rfl) (zA (zB rfl) zC))))) c3) zF)) vE)) (ye (x_call (zA (zB rfl) (zA (zB rfl) (zA (zB rfl) zC))) (cP ms p (h:Int) s' hp (by omega))) (yt ⟨rfl,putL ms p h,_,_,_,_,rfl,hm.put hp hh,fun w hw=>hr w (.tail _ hw),ev⟩))
 . rintro e s' ⟨rfl,ms,o3,o4,o5,o6,rfl,hm,hr,hq⟩
   exact zX zE (end' (show true=uM zs ds vs by rw[hq];rfl))
end
end M
end
section
namespace M
open PySem
theorem oi{α:Type}{xs:List α}{lo st:Int}{n:Nat}{x:α}(h:x∈L2.zb xs lo st n):x∈xs:=by
 unfold L2.zb at h
 obtain⟨k,_,hk⟩:=List.mem_filterMap.mp h
 exact List.mem_of_getElem? hk
theorem oh{α:Type}{xs:List α}{lo st:Int}{n:Nat}:(L2.zb xs lo st n).length≤n:=by
 unfold L2.zb
 exact Nat.le_trans (List.length_filterMap_le _ _) (by rw[List.length_range];exact Nat.le_refl n)
theorem Xq:∀n,n≤5→(L2.yB n none none (-1)).2≤n:=by decide +kernel
theorem WZ:∀n,n≤32→(L2.xf n none none (-1)).2≤n:=by decide +kernel
theorem eF{f d:Nat}(h1:f<1000)(h2:d<1000):Da 1 202 (.tup [.int f,.int d]):=(u0 (k:=0) (w:=100) (n:=2) (vs:=[.int (f:Int),.int (d:Int)]) (fun v hv=>by
 simp only[List.mem_cons,List.not_mem_nil,or_false]at hv
 rcases hv with rfl|rfl<;>exact xH (by omega) (by omega)) (Nat.le_refl 2)).mono (by omega) (by omega)
theorem pk.da{r:Val}(h:pk r):Da 1 303 r:=by
 rcases h with rfl|⟨f,d,rfl,h1,h2⟩
 . exact vb.mono (by omega) (by omega)
 . exact(eF (by omega) (by omega)).mono (by omega) (by omega)
theorem uP{rows:List Val}(h:∀r∈rows,Da 1 303 r)(hl:rows.length≤5):Da 2 1520 (.tup rows)∧Da 2 1520 (.lst rows):=⟨(u0 (n:=5) h hl).mono (by omega) (by omega),(qv (n:=5) h hl).mono (by omega) (by omega)⟩
theorem qf.da{k:Nat}{v:Val}(hk:k≤4)(h:qf k v):Da 3 2000 v:=by
 obtain⟨p,h,rows,rfl,hp,hh,hl,hr⟩:=h
 exact(qw ((xH (by omega) (by omega)).mono (by omega) (Nat.le_refl _)) ((xH (by omega) (by omega)).mono (by omega) (Nat.le_refl _)) (uP (fun r hx=>(hr r hx).da) (by omega)).1).mono (by omega) (by omega)
theorem wJ{rs:List Val}(h:∀r∈rs,Da 3 2000 r)(hl:rs.length≤64):Da 4 300000 (.lst rs)∧Da 4 300000 (.tup rs):=⟨(qv (n:=64) h hl).mono (by omega) (by omega),(u0 (n:=64) h hl).mono (by omega) (by omega)⟩
section
variable {T:Tbl}{Φ:Calls}{G:Str→Option Val}{env:Env}{s s1:Sto}
theorem WA{a b:Ex}{x:Val}(h:evE Φ G env a s=.ok x s1)(t:truth s1 x=some true):evE Φ G env (.orE a (.cons b .nil)) s=.ok x s1:=bnd h (by rw[t])
theorem X9{a b:Ex}{x:Val}{r:Out Val}(h:evE Φ G env a s=.ok x s1)(t:truth s1 x=some false)(k:evE Φ G env b s1=r):evE Φ G env (.orE a (.cons b .nil)) s=r:=bnd h (by rw[t];exact k)
theorem pX{vs:List Val}{lo hi:Option Int}:wU false (.lst vs) lo hi none s=.ok (.lst (xu vs lo hi)) s:=rfl
theorem cV{a b:Val}:wU false (.tup [a,b]) none none (some (-1)) s=.ok (.tup [b,a]) s:=(if_pos ⟨by decide,show (L2.yB 2 none none (-1)).2≤zP by decide +kernel⟩).trans (by rw[show L2.yB ([a,b]:List Val).length none none (-1)=(1,2) from (by decide +kernel:L2.yB 2 none none (-1)=(1,2))];rfl)
def j8(Φ:Calls):Prop:=∀(p k:Nat) (rs:List Val) (s:Sto),xF s p→1≤k→k≤4→rs≠[]→rs.length≤32→(∀r∈rs,qf k r)→(Φ "_law_bent" 0 [.ref p,.lst rs] s).post fun u s'=>(∃us,u=.lst us∧us.length≤64∧∀r∈us,Da 3 2000 r)∧yR s p s'
theorem jm(cD:mx Φ){p k:Nat}{rs:List Val}(hp:xF s p)(hk:1≤k)(hk4:k≤4)(hne:rs≠[])(hrl:rs.length≤32)(hrs:∀r∈rs,qf k r):(run T Φ F25.yf [.ref p,.lst rs] s).post fun u s'=>(∃us,u=.lst us∧us.length≤64∧∀r∈us,Da 3 2000 r)∧yR s p s':=by
 have L1:∀n,n<100→n≤zP:=fun n h=>by unfold zP;omega
 have hpl:=hp.lt
 have hr0:0<rs.length:=List.length_pos_iff.mpr hne
 rw[F25.yf,xP]
 refine⟨rfl,?_⟩
 show (zZ Φ T.gl [some (.ref p),some (.lst rs),none,none,none,none,none,none,none,none,none,none,none] _ s).post _
 refine zh.mpr (gb.mpr (rB.mpr (xc (zA (zB rfl) (zA zE zC)) (zJ (cD p 9 s hp (by omega) (by omega)) ?_))))
 rintro u s1 ⟨way,rfl,hway,t1⟩
 refine rB.mpr (xc (zA (zB rfl) (zA (zU (zA (zB rfl) zC) Yv) zC)) (zJ (cD p rs.length s1 (t1.at_ hpl) (by omega) (by omega)) ?_))
 rintro u s2 ⟨at',rfl,hat,t2'⟩
 have t2:=t1.trans t2'
 refine rB.mpr (xc (zA (zB rfl) (zA zE zC)) (zJ (cD p 8 s2 (t2.at_ hpl) (by omega) (by omega)) ?_))
 rintro u s3 ⟨to,rfl,hto,t3'⟩
 have t3:=t2.trans t3'
 clear t1 t2 t2' t3'
 refine gZ.mpr (ly rfl ?_)
 have hat':at'<rs.length:=by omega
 obtain⟨pl,hu,rows,hra,hpl40,hhu,hrow,hrows⟩:=hrs _ (List.getElem_mem hat')
 have hge:rs[at']?=some (.tup [.int pl,.int hu,.tup rows]):=by rw[List.getElem?_eq_getElem hat',hra]
 show (zZ Φ T.gl [some (.ref p),some (.lst rs),some (.int way),some (.int at'),some (.int to),none,none,none,none,none,none,none,none] _ s3).post _
 refine pW (env':=[some (.ref p),some (.lst rs),some (.int way),some (.int at'),some (.int to),some (.int pl),some (.int hu),some (.tup rows),none,none,none,none,none]) (xO (zB rfl) (zB rfl) (sX hge)) rfl ?_
 refine vU (xc (zA (zB rfl) (zA (zU (zA (zB rfl) zC) yU) zC)) (zJ (cD p rows.length s3 (t3.at_ hpl) (by omega) (by omega)) ?_))
 rintro u s4 ⟨spot,rfl,hspot,t4'⟩
 have t4:=t3.trans t4'
 clear t3 t4'
 have hsp:spot<rows.length:=by omega
 show (zZ Φ T.gl [some (.ref p),some (.lst rs),some (.int way),some (.int at'),some (.int to),some (.int pl),some (.int hu),some (.tup rows),some (.int spot),none,none,none,none] _ s4).post _
 have hst:blt .str false [.int (pl:Int)] s4=.ok (.str (toString (pl:Int))) s4:=by
  simp only[blt]
  rw[if_pos]
  have:∀d:Nat,d<40→(d:Int).natAbs.log2<1920:=by decide +kernel
  exact this pl hpl40
 have l8:∀x∈[Val.none,.bool true,.int (-1),.str (toString (pl:Int)),.tup [.int (pl:Int)],.int ((pl:Int)+1),.int 0,.int (10 ^ 29)],Da 1 101 x:=fun x hx=>by
  simp only[List.mem_cons,List.not_mem_nil,or_false]at hx
  rcases hx with rfl|rfl|rfl|rfl|rfl|rfl|rfl|rfl
  . exact vb.mono (by omega) (by omega)
  . exact(lI _).mono (by omega) (by omega)
  . exact(xH (by decide) (by decide)).mono (by omega) (by omega)
  . exact(Z6 (by omega)).mono (by omega) (by omega)
  . exact(u0 (n:=1) (k:=0) (w:=100) (vs:=[.int (pl:Int)]) (fun v hv=>by rw[List.mem_singleton.mp hv];exact xH (by omega) (by omega)) (Nat.le_refl 1)).mono (by omega) (by omega)
  . exact(xH (by omega) (by omega)).mono (by omega) (by omega)
  . exact(xH (by decide) (by decide)).mono (by omega) (by omega)
  . exact(xH (by decide) (by decide)).mono (by omega) (by omega)
 obtain⟨od,hod⟩:∃y,[Val.none,.bool true,.int (-1),.str (toString (pl:Int)),.tup [.int (pl:Int)],.int ((pl:Int)+1),.int 0,.int (10 ^ 29)][to]?=some y:=⟨_,List.getElem?_eq_getElem (show to<8 by omega)⟩
 have dod:=l8 od (List.mem_of_getElem? hod)
 refine ye (xO (wO (zA zE (zA zE (zA (wH zE) (zA (zU (zA (zB rfl) zC) hst) (zA (z7 (zA (zB rfl) zC) (L1 1 (by omega))) (zA (zw (zB rfl) zE uN) (zA zE (zA (zw zE zE rfl) zC)))))))) (L1 8 (by omega))) (zB rfl) (sX hod)) ?_
 clear l8 hod hst
 show (zZ Φ T.gl [some (.ref p),some (.lst rs),some (.int way),some (.int at'),some (.int to),some (.int pl),some (.int hu),some (.tup rows),some (.int spot),some od,none,none,none] _ s4).post _
 obtain⟨f,d,hf,hd,hrw⟩:∃f d:Nat,f<100∧d<100∧evE Φ T.gl [some (.ref p),some (.lst rs),some (.int way),some (.int at'),some (.int to),some (.int pl),some (.int hu),some (.tup rows),some (.int spot),some od,none,none,none] (.orE (.ix (.var 7) (.var 8)) (.cons (.tup (.cons (.var 5) (.cons (.lit (.int 1)) .nil))) .nil)) s4=.ok (.tup [.int f,.int d]) s4:=by
  have hix:=sY (s:=s4) (List.getElem?_eq_getElem hsp)
  rcases hrows _ (List.getElem_mem hsp) with e|⟨f,d,e,h1,h2⟩
  . rw[e]at hix
    exact⟨pl,1,by omega,by omega,X9 (xO (zB rfl) (zB rfl) hix) kE (z7 (zA (zB rfl) (zA zE zC)) (L1 2 (by omega)))⟩
  . rw[e]at hix
    exact⟨f,d,by omega,by omega,WA (xO (zB rfl) (zB rfl) hix) fV⟩
 refine ye hrw ?_
 clear hrw
 show (zZ Φ T.gl [some (.ref p),some (.lst rs),some (.int way),some (.int at'),some (.int to),some (.int pl),some (.int hu),some (.tup rows),some (.int spot),some od,some (.tup [.int f,.int d]),none,none] _ s4).post _
 have dn:∀i:Nat,i<1000→Da 0 100 (.int (i:Int)):=fun i hi=>xH (by omega) (by omega)
 have two:∀{a b:Val},Da 0 100 a→Da 0 100 b→Da 1 303 (.tup [a,b])∧Da 1 303 (.lst [a,b]):=fun{a b} ha hb=>by
  have h:∀v∈[a,b],Da 0 100 v:=fun v hv=>by
   simp only[List.mem_cons,List.not_mem_nil,or_false]at hv
   rcases hv with rfl|rfl
   . exact ha
   . exact hb
  exact⟨(u0 (n:=3) h (show 2≤3 by omega)).mono (by omega) (by omega),(qv (n:=3) h (show 2≤3 by omega)).mono (by omega) (by omega)⟩
 have l8:∀x∈[Val.tup [.int (d:Int),.int (f:Int)],.tup [.int ((f:Int)+1),.int (d:Int)],.lst [.int (f:Int),.int (d:Int)],.tup [.int (f:Int),.int (d:Int),.int 1],.none,.tup [.bool true,.int (d:Int)],.tup [.int (f:Int),.int 0],.tup [.int 0,.int 1]],Da 1 303 x:=fun x hx=>by
  simp only[List.mem_cons,List.not_mem_nil,or_false]at hx
  rcases hx with rfl|rfl|rfl|rfl|rfl|rfl|rfl|rfl
  . exact(two (dn _ (by omega)) (dn _ (by omega))).1
  . exact(two (xH (by omega) (by omega)) (dn _ (by omega))).1
  . exact(two (dn _ (by omega)) (dn _ (by omega))).2
  . exact(qw (dn _ (by omega)) (dn _ (by omega)) (xH (by decide) (by decide))).mono (by omega) (by omega)
  . exact vb.mono (by omega) (by omega)
  . exact(two (lI _) (dn _ (by omega))).1
  . exact(two (dn _ (by omega)) (xH (by decide) (by decide))).1
  . exact(two (xH (by decide) (by decide)) (xH (by decide) (by decide))).1
 obtain⟨nw,hnw⟩:∃y,[Val.tup [.int (d:Int),.int (f:Int)],.tup [.int ((f:Int)+1),.int (d:Int)],.lst [.int (f:Int),.int (d:Int)],.tup [.int (f:Int),.int (d:Int),.int 1],.none,.tup [.bool true,.int (d:Int)],.tup [.int (f:Int),.int 0],.tup [.int 0,.int 1]][to]?=some y:=⟨_,List.getElem?_eq_getElem (show to<8 by omega)⟩
 have dnw:=l8 nw (List.mem_of_getElem? hnw)
 refine ye (wO (zA (rk (zB rfl) we we (vq (wH zE)) cV) (zA (z7 (zA (zw (xO (zB rfl) zE rfl) zE uN) (zA (xO (zB rfl) zE rfl) zC)) (L1 2 (by omega))) (zA (zU (zA (zB rfl) zC) rfl) (zA (zw (zB rfl) (z7 (zA zE zC) (L1 1 (by omega))) (vX (L1 3 (by omega)))) (zA zE (zA (z7 (zA zE (zA (xO (zB rfl) zE rfl) zC)) (L1 2 (by omega))) (zA (z7 (zA (xO (zB rfl) zE rfl) (zA zE zC)) (L1 2 (by omega))) (zA (z7 (zA zE (zA zE zC)) (L1 2 (by omega))) zC)))))))) (L1 8 (by omega))) ?_
 clear l8
 show (zZ Φ T.gl [some (.ref p),some (.lst rs),some (.int way),some (.int at'),some (.int to),some (.int pl),some (.int hu),some (.tup rows),some (.int spot),some od,some (.tup [.int f,.int d]),some (.lst [Val.tup [.int (d:Int),.int (f:Int)],.tup [.int ((f:Int)+1),.int (d:Int)],.lst [.int (f:Int),.int (d:Int)],.tup [.int (f:Int),.int (d:Int),.int 1],.none,.tup [.bool true,.int (d:Int)],.tup [.int (f:Int),.int 0],.tup [.int 0,.int 1]]),none] _ s4).post _
 generalize [Val.tup [.int (d:Int),.int (f:Int)],.tup [.int ((f:Int)+1),.int (d:Int)],.lst [.int (f:Int),.int (d:Int)],.tup [.int (f:Int),.int (d:Int),.int 1],.none,.tup [.bool true,.int (d:Int)],.tup [.int (f:Int),.int 0],.tup [.int 0,.int 1]]=NW at hnw ⊢
 have c1:xu rows none (some (spot:Int))=rows.take spot:=qu (by omega)
 have c2:xu rows (some ((spot:Int)+1)) none=rows.drop (spot+1):=by
  rw[show ((spot:Int)+1)=((spot+1:Nat):Int) by omega];exact qt (by omega)
 have l1:=List.length_take_le spot rows
 have l2:(rows.drop (spot+1)).length=rows.length-(spot+1):=List.length_drop
 have l3:(rows.take spot).length=spot:=by rw[List.length_take];omega
 have hnew:∀o,evE Φ T.gl [some (.ref p),some (.lst rs),some (.int way),some (.int at'),some (.int to),some (.int pl),some (.int hu),some (.tup rows),some (.int spot),some od,some (.tup [.int f,.int d]),some (.lst NW),o] (.bin false .add (.bin false .add (.sl false (.var 7) .no (.yes (.var 8)) .no) (.tup (.cons (.ix (.var 11) (.var 4)) .nil))) (.sl false (.var 7) (.yes (.bin false .add (.var 8) (.lit (.int 1)))) .no .no)) s4=.ok (.tup ((rows.take spot++[nw])++rows.drop (spot+1))) s4:=fun o=>by
  rw[←c1,←c2]
  exact zw (zw (rk (zB rfl) we (vq (zB rfl)) we pY) (z7 (zA (xO (zB rfl) (zB rfl) (sX hnw)) zC) (L1 1 (by omega))) (vX (by rw[c1];show _+1≤zP;unfold zP;omega))) (rk (zB rfl) (vq (zw (zB rfl) zE uN)) we we pY) (vX (by rw[c1,c2,List.length_append];show _+1+_≤zP;unfold zP;omega))
 have dW:Da 2 1520 (.tup ((rows.take spot++[nw])++rows.drop (spot+1))):=(uP (fun x hx=>by
  rcases List.mem_append.mp hx with hx|hx
  . rcases List.mem_append.mp hx with hx|hx
    . exact(hrows x (List.mem_of_mem_take hx)).da
    . rw[List.mem_singleton.mp hx];exact dnw
  . exact(hrows x (List.mem_of_mem_drop hx)).da) (by rw[List.length_append,List.length_append,List.length_singleton];omega)).1
 generalize (rows.take spot++[nw])++rows.drop (spot+1)=W at hnew dW
 have hrev:wU false (.tup rows) none none (some (-1)) s4=.ok (.tup (L2.zb rows (L2.yB rows.length none none (-1)).1 (-1) (L2.yB rows.length none none (-1)).2)) s4:=if_pos ⟨by decide,by have:=Xq rows.length (by omega);unfold zP;omega⟩
 have dR:Da 2 1520 (.tup (L2.zb rows (L2.yB rows.length none none (-1)).1 (-1) (L2.yB rows.length none none (-1)).2)):=(uP (fun x hx=>(hrows x (oi hx)).da) (Nat.le_trans oh (by have:=Xq rows.length (by omega);omega))).1
 generalize L2.zb rows (L2.yB rows.length none none (-1)).1 (-1) (L2.yB rows.length none none (-1)).2=R at hrev dR
 have dr:=uP (fun x hx=>(hrows x hx).da) (show rows.length≤5 by omega)
 have dm:Da 2 1520 (.tup (rows++[.none])):=(uP (fun x hx=>by
  rcases List.mem_append.mp hx with hx|hx
  . exact(hrows x hx).da
  . rw[List.mem_singleton.mp hx];exact vb.mono (by omega) (by omega)) (by rw[List.length_append,List.length_singleton];omega)).1
 have dp:=(dn pl (by omega)).mono (show 0≤2 by omega) (Nat.le_refl _)
 have dh:=(dn hu (by omega)).mono (show 0≤2 by omega) (Nat.le_refl _)
 have do2:=dod.mono (show 1≤2 by omega) (Nat.le_refl _)
 have m3:∀{a b c:Val},Da 2 101 a→Da 2 101 b→Da 2 1520 c→Da 3 2000 (.tup [a,b,c]):=fun ha hb hc=>(qw ha hb hc).mono (by omega) (by omega)
 have dp':=dp.mono (Nat.le_refl 2) (show 100≤101 by omega)
 have dh':=dh.mono (Nat.le_refl 2) (show 100≤101 by omega)
 have dwt:∀{v:Val},Da 2 1520 v→v.d.weight≤1520:=fun h=>h.t.lf.wt
 have l9:∀x∈[Val.tup [od,.int (hu:Int),.tup rows],.tup [.int (pl:Int),od,.tup rows],.tup [.int (pl:Int),.int (hu:Int),.tup W]]++[Val.tup [.int (pl:Int),.int (hu:Int),.tup W],.tup [.int (pl:Int),.int (hu:Int),.tup R]]++[Val.tup [.int (pl:Int),.int (hu:Int),.lst rows],.lst [.int (pl:Int),.int (hu:Int),.tup rows],.tup [.int (pl:Int),.int (hu:Int)],.tup [.int (pl:Int),.int (hu:Int),.tup (rows++[.none])]],Da 3 2000 x:=fun x hx=>by
  simp only[List.mem_append,List.mem_cons,List.not_mem_nil,or_false,or_assoc]at hx
  rcases hx with rfl|rfl|rfl|rfl|rfl|rfl|rfl|rfl|rfl
  . exact m3 do2 dh' dr.1
  . exact m3 dp' do2 dr.1
  . exact m3 dp' dh' dW
  . exact m3 dp' dh' dW
  . exact m3 dp' dh' dR
  . exact m3 dp' dh' dr.2
  . refine(aC (k:=2) (W:=2000) (vs:=[.int (pl:Int),.int (hu:Int),.tup rows]) (fun v hv=>?_) ?_).2
    . simp only[List.mem_cons,List.not_mem_nil,or_false]at hv
      rcases hv with rfl|rfl|rfl
      . exact⟨_,dp⟩
      . exact⟨_,dh⟩
      . exact⟨_,dr.1⟩
    . have h1:=dp.t.lf.wt
      have h2:=dh.t.lf.wt
      have h3:=dr.1.t.lf.wt
      rw[ds,ds,ds,ds,PyData.weightAll,PyData.weightAll,PyData.weightAll,PyData.weightAll];omega
  . exact(two (dn pl (by omega)) (dn hu (by omega))).1.mono (by omega) (by omega)
  . exact m3 dp' dh' dm
 obtain⟨y,hy⟩:∃y,([Val.tup [od,.int (hu:Int),.tup rows],.tup [.int (pl:Int),od,.tup rows],.tup [.int (pl:Int),.int (hu:Int),.tup W]]++[Val.tup [.int (pl:Int),.int (hu:Int),.tup W],.tup [.int (pl:Int),.int (hu:Int),.tup R]]++[Val.tup [.int (pl:Int),.int (hu:Int),.lst rows],.lst [.int (pl:Int),.int (hu:Int),.tup rows],.tup [.int (pl:Int),.int (hu:Int)],.tup [.int (pl:Int),.int (hu:Int),.tup (rows++[.none])]])[way]?=some y:=⟨_,List.getElem?_eq_getElem (show way<9 by omega)⟩
 have dy:=l9 y (List.mem_of_getElem? hy)
 clear l9
 refine ye (wO (zA (z7 (zA (zB rfl) (zA (zB rfl) (zA (zB rfl) zC))) (L1 3 (by omega))) (zA (z7 (zA (zB rfl) (zA (zB rfl) (zA (zB rfl) zC))) (L1 3 (by omega))) (zA (z7 (zA (zB rfl) (zA (zB rfl) (zA (hnew _) zC))) (L1 3 (by omega))) zC))) (L1 3 (by omega))) ?_
 refine ye (zw (zB rfl) (wO (zA (z7 (zA (zB rfl) (zA (zB rfl) (zA (hnew _) zC))) (L1 3 (by omega))) (zA (z7 (zA (zB rfl) (zA (zB rfl) (zA (rk (zB rfl) we we (vq (wH zE)) hrev) zC))) (L1 3 (by omega))) zC)) (L1 2 (by omega))) (rq (L1 5 (by omega)))) ?_
 refine ye (zw (zB rfl) (wO (zA (z7 (zA (zB rfl) (zA (zB rfl) (zA (zU (zA (zB rfl) zC) rfl) zC))) (L1 3 (by omega))) (zA (wO (zA (zB rfl) (zA (zB rfl) (zA (zB rfl) zC))) (L1 3 (by omega))) (zA (z7 (zA (zB rfl) (zA (zB rfl) zC)) (L1 2 (by omega))) (zA (z7 (zA (zB rfl) (zA (zB rfl) (zA (zw (zB rfl) (z7 (zA zE zC) (L1 1 (by omega))) (vX (by show _+1≤zP;unfold zP;omega))) zC))) (L1 3 (by omega))) zC)))) (L1 4 (by omega))) (rq (L1 9 (by omega)))) ?_
 have e1:xu rs none (some (at':Int))=rs.take at':=qu (by omega)
 have e2:xu rs (some ((at':Int)+1)) none=rs.drop (at'+1):=by
  rw[show ((at':Int)+1)=((at'+1:Nat):Int) by omega];exact qt (by omega)
 have g2:(rs.drop (at'+1)).length=rs.length-(at'+1):=List.length_drop
 have g3:(rs.take at').length=at':=by rw[List.length_take];omega
 refine zX (zw (zw (rk (zB rfl) we (vq (zB rfl)) we pX) (wO (zA (xO (zB rfl) (zB rfl) (sX hy)) zC) (L1 1 (by omega))) (rq (by rw[e1];show _+1≤zP;unfold zP;omega))) (rk (zB rfl) (vq (zw (zB rfl) zE uN)) we we pX) (rq (by rw[e1,e2,List.length_append];show _+1+_≤zP;unfold zP;omega))) ?_
 rw[e1,e2]
 have hall:∀x∈(rs.take at'++[y])++rs.drop (at'+1),Da 3 2000 x:=fun x hx=>by
  rcases List.mem_append.mp hx with hx|hx
  . rcases List.mem_append.mp hx with hx|hx
    . exact(hrs x (List.mem_of_mem_take hx)).da hk4
    . rw[List.mem_singleton.mp hx];exact dy
  . exact(hrs x (List.mem_of_mem_drop hx)).da hk4
 have hlen:((rs.take at'++[y])++rs.drop (at'+1)).length≤64:=by rw[List.length_append,List.length_append,List.length_singleton];omega
 show (zY false s _ s4).post _
 rw[se t4 (wJ hall hlen).1.t.nr]
 exact zD.mpr ⟨⟨_,rfl,hlen,hall⟩,t4⟩
end
end M
end
section
namespace M
open PySem Hd
noncomputable def uS(h:Heap):KF:=(List.range h.objs.size).filterMap fun a=>(h.get? a).map fun o=>(a,o)
theorem t7{g:Addr→Option Obj}{a:Addr}:∀{l:List Addr},a∈l→(l.filterMap fun b=>(g b).map fun o=>(b,o)).lookup a=g a
 |b::r,hm=>by
  rw[List.filterMap_cons]
  by_cases e:a=b
  . subst e
    cases hg:g a with
    |none=>
     show (r.filterMap _).lookup a=none
     by_cases m:a∈r
     . rw[t7 m,hg]
     . exact List.lookup_eq_none_iff.mpr fun p hp=>by
        obtain⟨c,hc,e⟩:=List.mem_filterMap.mp hp
        obtain⟨o,_,rfl⟩:=Option.map_eq_some_iff.mp e
        have z:a≠c:=fun z=>m (by rw[z];exact hc)
        simpa using z
    |some o=>show (List.lookup a ((a,o)::_))=_;rw[List.lookup_cons,beq_self_eq_true]
  . have m:a∈r:=(List.mem_cons.mp hm).resolve_left e
    cases hg:g b with
    |none=>exact t7 m
    |some o=>
     show (List.lookup a ((b,o)::_))=_
     rw[List.lookup_cons,beq_false_of_ne e]
     exact t7 m
theorem xI{h:Heap}{a:Addr}(o:Obj)(e:h.get? a=some o):(uS h).lookup a=some o:=by
 rw[←e]
 exact t7 (List.mem_range.mpr (Heap.lt_size e))
theorem ig{h:Heap}:(uS h).In h:=fun a o e=>by
 obtain⟨c,_,e⟩:=List.mem_filterMap.mp (sj e)
 obtain⟨o',e1,e2⟩:=Option.map_eq_some_iff.mp e
 cases e2
 exact e1
theorem sx{h:Heap}{x:Str}{v:Option Value}(e:nsH h x=some v):PySem.W.nsIn (uS h) mainGlobals x=some v:=by
 unfold nsH at e
 split at e
 . rename_i o ho
   unfold PySem.W.nsIn at e ⊢
   rw[xI o ho]
   exact e
 . cases e
theorem iS{h:Heap}{cd:Value}{x:Str}(e:iR h cd x=true):PySem.W.codeIn (uS h) cd x=true:=by
 unfold iR at e
 split at e
 . split at e
   . rename_i c o ho
     unfold PySem.W.codeIn at e ⊢
     dsimp only at e ⊢
     rw[List.lookup_cons,beq_self_eq_true]at e
     rw[xI o ho]
     exact e
   . cases e
 . cases e
theorem args_eq(st:Stmt):args st=L2.wy st∧body st=L2.xa st∧scope st=L2.zp st:=by cases st<;>exact⟨rfl,rfl,rfl⟩
theorem aG{h:Heap}{p:Str × Stmt}(e:dA h p.1=bE p):pj (uS h) p.1 p.2:=by
 obtain⟨a1,a2,a3⟩:=args_eq p.2
 unfold bE at e
 rw[a1,a2,a3]at e
 unfold dA at e
 split at e
 . rename_i f hf
   split at e
   . rename_i oc od fd osl ho
     split at e
     . rename_i hc
       have e':=Option.some.inj e
       obtain⟨n,q,ps,b,sc,g,cl,df,kw,dc,pm,an,cd,ct,bl⟩:=fd
       injection e' with e1 e2 e3 e4 e5 e6 e7 e8 _ _ _ _ _ _ e9
       subst e1 e2 e3 e4 e5 e6 e7 e8 e9
       exact aF (sx hf) (xI _ ho) (iS hc) (by unfold PySem.W.keepIn;dsimp only;rw[xI _ ho])
     . cases e
   . cases e
 . cases e
noncomputable def gv:G→Val
 |.int i=>.int i
 |.str x=>.str x
 |.ctup ns=>.ctup ns
theorem Yb{h:Heap}{x:Str}{v:G}(e:glB h x v=true):kK (uS h) x (gv v):=by
 cases v with
 |int i=>
  unfold glB at e;dsimp only at e
  split at e
  . rename_i hn;have:=of_decide_eq_true e;subst this;exact int_mk (sx hn)
  . cases e
 |str y=>
  unfold glB at e;dsimp only at e
  split at e
  . rename_i hn;have:=of_decide_eq_true e;subst this;exact str_mk (sx hn)
  . cases e
 |ctup ns=>
  unfold glB at e;dsimp only at e
  split at e
  . rename_i hn
    split at e
    . rename_i n od us k sl ho
      obtain⟨e1,e3⟩:=Bool.and_eq_true_iff.mp e
      obtain⟨e1,e2⟩:=Bool.and_eq_true_iff.mp e1
      have:=of_decide_eq_true e1;subst this
      exact eD (us:=us.toList) (sx hn) (xI _ ho) (of_decide_eq_true e2) (of_decide_eq_true e3)
    . cases e
  . cases e
theorem YT{h:Heap}{x:Str}(e:blB h x=true):PySem.W.nsIn (uS h) mainGlobals x=some none:=by
 unfold blB at e
 split at e
 . rename_i hn;exact sx hn
 . cases e
def bu(D:List (Str × Stmt))(glL:List (Str × Val))(K:KF)(h:Heap):Prop:=K.In h∧(∀p∈D,pj K p.1 p.2)∧(∀p∈glL,kK K p.1 p.2)∧∀x∈wX,PySem.W.nsIn K mainGlobals x=some none
theorem lM{h:Heap}:∀{D:List (Str × Stmt)},(D.map fun p=>dA h p.1)=D.map bE→∀p∈D,pj (uS h) p.1 p.2
 |p::D,e,q,hq=>by
  rw[List.map_cons,List.map_cons]at e
  obtain⟨e1,e2⟩:=List.cons.inj e
  rcases List.mem_cons.mp hq with rfl|hq
  . exact aG e1
  . exact lM e2 q hq
theorem cQ{D:List (Str × Stmt)}{gl:List (Str × G)}{s:Shared}(e:ZO D gl s=YJ D):∃K,bu D (gl.map fun p=>(p.1,gv p.2)) K s.heap:=by
 obtain⟨e1,e2⟩:=Prod.mk.inj e
 obtain⟨e2,e3⟩:=Bool.and_eq_true_iff.mp e2
 exact⟨uS s.heap,ig,lM e1,fun p hp=>(by obtain⟨p',h1,rfl⟩:=List.mem_map.mp hp;exact Yb (List.all_eq_true.mp e2 p' h1)),fun x hx=>YT (List.all_eq_true.mp e3 x hx)⟩
theorem close{l:PySem.W.OpenLaw}{q:Program}{d:DefRec}{fnL:List ((Str × Nat) × Fn)}{glL:List (Str × Val)}{gl:List (Str × G)}{D:List (Str × Stmt)}{F:Fn}{n N:Nat}{x:Str}
 (Z3:l.wellSaid=true) (left:PySem.W.LeftO l.row.prog q [] (fun s=>PySem.W.recOk l.row.records s) (ZO D gl) (fun _=>YJ D) N) (hgl:glL=gl.map fun p=>(p.1,gv p.2))
 (aM:PySem.W.defOf q l.row.name=some (d,[])) (hp:l.row.prog.theDef l.row.name=some (d.params,d.body,d.scope)) (hk:PySem.W.kwWritten? d.params.kwonlyargs d.params.kw_defaults=some [])
 (hwr:(!l.row.writes||l.row.records.isEmpty)=true) (ok:(PySem.W.chainsOk q&&PySem.W.opensWell l.row.prog&&(PySem.W.frees l.row.toRowW&&l.row.within.isEmpty))=true) (hb:l.row.prog.bare) (hw:l.row.toRowW.promised)
 (hn:l.most=some 63) (hdf:d.params.defaults=[]) (hr:L2.xG n callerA) (hF:(tbl fnL glL).fn d.name 0=some F) (hx:F.ps=[x]) (hc:kD fnL D=true)
 (HL:∀ns:List Int,ns.length≤63→∃s',zH (tbl fnL glL) n d.name 0 [.scr ns] []=.ok (.bool true) s'):l.Holds:=by
 refine PySem.W.holds_law Z3 fun said'=>PySem.W.holds_open (q:=q) (loose:=[]) (Xt:=fun s=>PySem.W.recOk l.row.records s) (XP:=fun _ _=>True) (YP:=fun _ h=>∃K,bu D glL K h) left (fun w s e=>hgl▸cQ e)
  (fun w h h' ⟨K,a,b⟩ k=>⟨K,a.keeps k,b⟩) (fun _ _=>trivial) (fun _ _ _ _ _=>trivial) aM hp hk (fun s e=>PySem.W.recFacts_of e) hwr said' ok hb hw ?_
 intro w s₀ s₁ mg mb G ⟨K,Y⟩
 exact walk (l:=l) (q:=q) (loose:=[]) (XP:=fun _ _=>True) (YP:=fun _ h=>bu D glL K h) (d:=d) (K:=fun _=>K) (T:=tbl fnL glL) hn hdf hr (fun _ _ y=>y.1) hF hx (fun w mg h X g=>YD X g Y.2.1 Y.2.2.1 Y.2.2.2 hc) HL w s₀ s₁ mg mb G Y
end M
end
section
namespace P25
open PySem M
noncomputable def xR:Fn:=F25.xR
noncomputable def y6:Fn:=F.y6
noncomputable def yf:Fn:=F25.yf
noncomputable def zx:Fn:=F.zx
noncomputable def yj:Fn:=F.yj
noncomputable def y7:Fn:=F.y7
noncomputable def yO:Fn:=F.yO
noncomputable def yg:Fn:=F25.yg
noncomputable def yX:Fn:=F25.yX
noncomputable def y8:Fn:=F.y8
noncomputable def yP:Fn:=F.yP
noncomputable def yY:Fn:=F.yY
noncomputable def x8:Fn:=F.x8
noncomputable def y9:Fn:=F.y9
noncomputable def z9:Fn:=F25.z9
noncomputable def yk:Fn:=F.yk
noncomputable def yl:Fn:=F31.yl
noncomputable def yZ:Fn:=F.yZ
noncomputable def yK:Fn:=F.yK
noncomputable def xA:Fn:=F.xA
noncomputable def ym:Fn:=F.ym
noncomputable def yL:Fn:=F.yL
noncomputable def wV:Fn:=F.wV
noncomputable def xS:Fn:=F.xS
noncomputable def xT:Fn:=F.xT
noncomputable def wW:Fn:=F.wW
noncomputable def yn:Fn:=F.yn
noncomputable def xB:Fn:=F.xB
noncomputable def xU:Fn:=F.xU
noncomputable def rn:Fn:=⟨["_law_script","_law_k","_law_pen_here","_law_sizes_here","_law_draft_here","_law_reasons","_law_things","_law_thing","_law_as_it_was","_law_turn","_law_found","_law_two"],["_law_script"],false,(.cons (.forS (.nm 1) (.range1 (.blt .max false (.cons (.lit (.int 1)) (.cons (.blt .min false (.cons (.blt .len false (.cons (.var 0) .nil)) (.cons (.lit (.int 4)) .nil))) .nil)))) (.cons (.asg 2 (.call "_law_pen" 1 (.cons (.call "_law_cell_at" 0 (.cons (.var 0) (.cons (.var 1) .nil))) .nil))) (.cons (.asg 3 (.call "_law_sizes" 0 (.cons (.var 2) .nil))) (.cons (.asg 4 (.call "_law_draft" 0 (.cons (.var 2) (.cons (.var 3) (.cons (.lit (.int 14)) (.cons (.lit (.int 8)) .nil)))))) (.cons (.asg 5 (.call "_law_made" 0 (.cons (.var 3) (.cons (.var 4) .nil)))) (.cons (.asg 6 (.lst false (.cons (.var 5) (.cons (.sl false (.var 5) .no (.yes (.neg (.lit (.int 1)))) .no) (.cons (.sl false (.var 5) .no .no (.yes (.neg (.lit (.int 1))))) (.cons (.bin false .add (.var 5) (.sl false (.var 5) .no (.yes (.lit (.int 1))) .no)) (.cons (.blt .tuple false (.cons (.var 5) .nil)) (.cons (.lit .none) (.cons .dct0 (.cons (.lst false (.cons (.lit .none) .nil)) .nil)))))))))) (.cons (.ifS (.val (.cmp .ne (.var 5) (.lst false .nil))) (.cons (.asg 6 (.bin false .add (.var 6) (.comp false ["_law_turn","_law_pen_here","_law_reasons"] [none,some 2,some 5] (.call "_law_bent" 0 (.cons (.var 1) (.cons (.var 2) .nil))) (.nm 0) (.range1 (.lit (.int 8))) .nil))) .nil) .nil) (.cons (.forS (.nm 7) (.val (.var 6)) (.cons (.asg 8 (.blt .repr false (.cons (.var 7) .nil))) (.cons (.forS (.nm 9) (.range1 (.lit (.int 2))) (.cons (.asg 10 (.call "are_reasons" 0 (.cons (.var 3) (.cons (.var 4) (.cons (.var 7) .nil))))) (.cons (.ifS (.or (.not (.val (.blt .isi false (.cons (.var 10) (.cons (.ty "bool" "bool") .nil))))) (.cons (.val (.cmp .ne (.var 10) (.call "_law_are" 0 (.cons (.var 3) (.cons (.var 4) (.cons (.var 7) .nil)))))) .nil)) (.cons (.ret (.lit (.bool false))) .nil) .nil) .nil))) (.cons (.ifS (.val (.cmp .ne (.blt .repr false (.cons (.var 7) .nil)) (.var 8))) (.cons (.ret (.lit (.bool false))) .nil) .nil) .nil)))) .nil)))))))) (.cons (.asg 11 (.lst false (.cons (.tup (.cons (.lit (.int 1)) (.cons (.lit (.int 1)) (.cons (.tup (.cons (.tup (.cons (.lit (.int 0)) (.cons (.lit (.int 1)) .nil))) (.cons (.lit .none) .nil))) .nil)))) (.cons (.tup (.cons (.lit (.int 2)) (.cons (.lit (.int 0)) (.cons (.tup (.cons (.lit .none) (.cons (.tup (.cons (.lit (.int 1)) (.cons (.lit (.int 1)) .nil))) .nil))) .nil)))) .nil)))) (.cons (.ifS (.or (.val (.cmp .isNot (.call "are_reasons" 0 (.cons (.tup (.cons (.lit (.int 2)) (.cons (.lit (.int 2)) .nil))) (.cons (.tup (.cons (.lit (.int 0)) (.cons (.neg (.lit (.int 1))) (.cons (.neg (.lit (.int 1))) .nil)))) (.cons (.var 11) .nil)))) (.lit (.bool true)))) (.cons (.val (.cmp .isNot (.call "are_reasons" 0 (.cons (.tup (.cons (.lit (.int 2)) (.cons (.lit (.int 2)) .nil))) (.cons (.tup (.cons (.lit (.int 0)) (.cons (.neg (.lit (.int 1))) .nil))) (.cons (.sl false (.var 11) .no (.yes (.lit (.int 1))) .no) .nil)))) (.lit (.bool true)))) .nil)) (.cons (.ret (.lit (.bool false))) .nil) .nil) (.cons (.ifS (.val (.cmp .isNot (.call "are_reasons" 0 (.cons (.tup (.cons (.lit (.int 2)) (.cons (.lit (.int 2)) .nil))) (.cons (.tup (.cons (.lit (.int 0)) (.cons (.neg (.lit (.int 1))) .nil))) (.cons (.lst false (.cons (.tup (.cons (.lit (.int 1)) (.cons (.lit (.int 1)) (.cons (.tup (.cons (.tup (.cons (.lit (.int 0)) (.cons (.lit (.int 1)) .nil))) (.cons (.tup (.cons (.lit (.int 0)) (.cons (.lit (.int 1)) .nil))) .nil))) .nil)))) .nil)) .nil)))) (.lit (.bool false)))) (.cons (.ret (.lit (.bool false))) .nil) .nil) (.cons (.ifS (.val (.cmp .isNot (.call "are_reasons" 0 (.cons (.tup (.cons (.lit (.int 2)) (.cons (.lit (.int 2)) .nil))) (.cons (.tup (.cons (.lit (.int 0)) (.cons (.neg (.lit (.int 1))) .nil))) (.cons (.lst false (.cons (.tup (.cons (.lit (.int 1)) (.cons (.lit (.int 1)) (.cons (.tup (.cons (.tup (.cons (.lit (.int 0)) (.cons (.lit (.bool true)) .nil))) (.cons (.lit .none) .nil))) .nil)))) .nil)) .nil)))) (.lit (.bool false)))) (.cons (.ret (.lit (.bool false))) .nil) .nil) (.cons (.ifS (.val (.cmp .isNot (.call "are_reasons" 0 (.cons (.tup (.cons (.lit (.int 2)) (.cons (.lit (.int 2)) .nil))) (.cons (.tup (.cons (.neg (.lit (.int 1))) (.cons (.neg (.lit (.int 1))) (.cons (.lit (.int 0)) .nil)))) (.cons (.lst false (.cons (.tup (.cons (.lit (.int 1)) (.cons (.lit (.int 1)) (.cons (.tup (.cons (.tup (.cons (.lit (.bool true)) (.cons (.lit (.int 1)) .nil))) (.cons (.lit .none) .nil))) .nil)))) .nil)) .nil)))) (.lit (.bool false)))) (.cons (.ret (.lit (.bool false))) .nil) .nil) (.cons (.ret (.andE (.cmp .is (.call "are_reasons" 0 (.cons (.tup (.cons (.lit (.int 2)) (.cons (.lit (.int 2)) .nil))) (.cons (.tup (.cons (.lit (.int 0)) (.cons (.neg (.lit (.int 1))) .nil))) (.cons (.lst false (.cons (.tup (.cons (.lit (.int 1)) (.cons (.lit (.int 0)) (.cons (.tup (.cons (.lit .none) (.cons (.tup (.cons (.lit (.int 0)) (.cons (.lit (.int 1)) .nil))) .nil))) .nil)))) .nil)) .nil)))) (.lit (.bool false))) (.cons (.cmp .is (.call "are_reasons" 0 (.cons (.tup (.cons (.lit (.int 3)) .nil)) (.cons (.tup (.cons (.neg (.lit (.int 1))) .nil)) (.cons (.lst false .nil) .nil)))) (.lit (.bool true))) .nil))) .nil)))))))⟩
noncomputable def xC:Fn:=F.xC
noncomputable def yo:Fn:=F.yo
noncomputable def ya:Fn:=F.ya
noncomputable def xD:Fn:=F.xD
noncomputable def yp:Fn:=F.yp
noncomputable def yq:Fn:=F.yq
noncomputable def xy:Fn:=F.xy
noncomputable def xV:Fn:=F.xV
noncomputable def fnL:List ((Str × Nat) × Fn):=((("_law_are":Str),(0:Nat)),xR)::((("_law_bars":Str),(0:Nat)),y6)::((("_law_bent":Str),(0:Nat)),yf)::((("_law_cell_at":Str),(0:Nat)),zx)::((("_law_draft":Str),(0:Nat)),yj)::((("_law_draw":Str),(0:Nat)),y7)::((("_law_ended":Str),(0:Nat)),yO)::((("_law_made":Str),(0:Nat)),yg)::((("_law_narrow":Str),(0:Nat)),yX)::((("_law_open":Str),(0:Nat)),y8)::((("_law_pen":Str),(1:Nat)),yP)::((("_law_places":Str),(0:Nat)),yY)::((("_law_put":Str),(0:Nat)),x8)::((("_law_rows":Str),(0:Nat)),y9)::((("_law_rows_are":Str),(0:Nat)),z9)::((("_law_sizes":Str),(0:Nat)),yk)::((("_law_whole":Str),(0:Nat)),yl)::((("are_reasons":Str),(0:Nat)),yZ)::((("are_rows_for":Str),(0:Nat)),yK)::((("are_sizes":Str),(0:Nat)),xA)::((("are_wholes":Str),(0:Nat)),ym)::((("barring_rows":Str),(0:Nat)),yL)::((("is_bar":Str),(0:Nat)),wV)::((("is_blank":Str),(0:Nat)),xS)::((("is_draft":Str),(0:Nat)),xT)::((("is_hue":Str),(0:Nat)),wW)::((("is_one_hue":Str),(0:Nat)),yn)::((("is_reason":Str),(0:Nat)),xB)::((("is_whole":Str),(0:Nat)),xU)::((("law":Str),(0:Nat)),rn)::((("most_step":Str),(0:Nat)),xC)::((("need_draft":Str),(0:Nat)),yo)::((("need_length":Str),(0:Nat)),ya)::((("need_size":Str),(0:Nat)),xD)::((("need_sizes":Str),(0:Nat)),yp)::((("need_whole":Str),(0:Nat)),yq)::((("rows_at":Str),(0:Nat)),xy)::((("with_hue":Str),(0:Nat)),xV)::[]
noncomputable def glL:List (Str × Val):=[("MOST_PLACES",.int 40),("LEAST_SIZE",.int 2),("MOST_SIZE",.int 8),("HUES",.ctup [0,1,2,3]),("BLANK",.int (-1))]
noncomputable def T:Tbl:=tbl fnL glL
set_option maxHeartbeats 0 in
theorem Z9:kD fnL D=true:=by decide +kernel
end P25
end
section
namespace P25
open PySem M
structure Cs(Φ:Calls):Prop where
 cell:bG Φ
 pen:YN Φ
 sizes:m7 Φ
 draft:m6 Φ
 made:iD Φ
 bent:j8 Φ
 are:qd "are_reasons" Φ
 lare:qd "_law_are" Φ
def TR(v:Val):Prop:=v=.dct0∨Da 4 300000 v
theorem TR.kd{v:Val}(h:TR v):kindOf v≠none:=by
 rcases h with rfl|h
 . exact nofun
 . exact h.t.kd
theorem TR.Y2{v:Val}(h:TR v)(i:Nat):v≠.ref i:=by
 rcases h with rfl|h
 . exact nofun
 . intro e
   have:=h.d
   rw[e,Val.isD]at this
   cases this
theorem TR.it{v:Val}(h:TR v)(vs:List Val)(e:v=.lst vs)(w:Val)(hw:w∈vs):w.isD=true:=by
 subst e
 rcases h with h|h
 . cases h
 . have:=h.d
   rw[Val.isD]at this
   exact yD this hw
theorem TR.shown{v:Val}(h:TR v):∃x,∀s,blt .repr false [v] s=.ok (.str x) s:=by
 rcases h with rfl|h
 . refine⟨(PyData.dict []).shown,fun s=>?_⟩
   simp only[blt]
   rw[show zr s .dct0=.dct0 from rfl,show Val.dct0.isR=true by rw[Val.isR],show Val.dct0.d=.dict [] by rw[Val.d],show tG (.dict [])=true by decide +kernel]
   rfl
 . exact⟨_,fun s=>cT h.t h.d (by omega) (by omega)⟩
section
variable {Φ:Calls}{s:Sto}
theorem gK(c:Cs Φ)(ns:List Int):(run T Φ rn [.scr ns] []).post fun v _=>v=.bool true:=by
 have L1:∀n,n<100→n≤zP:=fun n h=>by unfold zP;omega
 have two:∀(env:M.Env) (s:Sto),yT Φ T.gl env (.range1 (.lit (.int 2))) s=.ok ⟨zi 0 2,none⟩ s:=fun env s=>rfl
 rw[rn,xP]
 refine⟨rfl,?_⟩
 refine zh.mpr (y4 (fun rest e s'=>(∃o1 o2 o3 o4 o5 o6 o7 o8 o9 o10,e=[some (.scr ns),o1,o2,o3,o4,o5,o6,o7,o8,o9,o10,none])∧∀x∈rest,∃k:Nat,x=.int k) (zi 0 (max 1 (min ns.length 4))) (s1:=[]) (iW (K:=4) rfl (by omega)) ⟨⟨_,_,_,_,_,_,_,_,_,_,rfl⟩,?_⟩ ?_ ?_)
 . intro x hx
   obtain⟨k,_,rfl⟩:=w8 hx
   exact⟨k,by congr 1;omega⟩
 . rintro x rest e s' ⟨⟨o1,o2,o3,o4,o5,o6,o7,o8,o9,o10,rfl⟩,hr⟩
   obtain⟨k,rfl⟩:=hr x (.head _)
   have hr':∀x∈rest,∃k:Nat,x=.int k:=fun x hx=>hr x (.tail _ hx)
   refine⟨_,rfl,?_⟩
   obtain⟨cv,hcell⟩:=c.cell ns k s'
   obtain⟨a,b,hpen,hb⟩:=c.pen cv s'
   refine ye (x_call (zA (x_call (zA (zB rfl) (zA (zB rfl) zC)) hcell) zC) hpen) ?_
   have hP:xF (s'++[vn a b]) s'.length:=⟨a,b,by simp,hb⟩
   generalize s'++[vn a b]=s0 at hP ⊢
   generalize s'.length=p at hP ⊢
   refine vU (xc (zA (zB rfl) zC) (zJ (c.sizes p _ hP) ?_))
   rintro v s2 ⟨zs,rfl,hz,t2⟩
   refine vU (xc (zA (zB rfl) (zA (zB rfl) (zA zE (zA zE zC)))) (zJ (c.draft p zs 14 8 s2 (t2.at_ hP.lt) hz (by omega) (by omega)) ?_))
   rintro v s3 ⟨ds,rfl,hd,t3'⟩
   have t3:=t2.trans t3'
   have hP3:=t3.at_ hP.lt
   clear t3 t3' t2 hP hpen hcell
   show (zZ Φ T.gl [some (.scr ns),some (.int k),some (.ref p),some (tpI zs),some (tpI ds),o5,o6,o7,o8,o9,o10,none] _ s3).post _
   refine vU (xc (zA (zB rfl) (zA (zB rfl) zC)) (zJ (c.made zs ds s3 hz hd) ?_))
   rintro v s4 ⟨rfl,rs,rfl,hrl,hrs⟩
   have hz1:=hz.1
   have hz4:=hz.2.1
   have hrd:∀r∈rs,Da 3 2000 r:=fun r h=>(hrs r h).da hz4
   have hpc:wU false (.lst rs) none none (some (-1)) s4=.ok (.lst (L2.zb rs (L2.xf rs.length none none (-1)).1 (-1) (L2.xf rs.length none none (-1)).2)) s4:=by
    simp only[wU,yN]
    rw[if_pos (by decide)]
    rfl
   have c1:=lG (xs:=rs) (lo:=none) (hi:=some (-1))
   have c2:=lG (xs:=rs) (lo:=none) (hi:=some 1)
   have d8:∀x∈[Val.lst rs,.lst (xu rs none (some (-1))),.lst (L2.zb rs (L2.xf rs.length none none (-1)).1 (-1) (L2.xf rs.length none none (-1)).2),.lst (rs++xu rs none (some 1)),.tup rs,.none,.dct0,.lst [.none]],TR x:=fun x hx=>by
    simp only[List.mem_cons,List.not_mem_nil,or_false]at hx
    rcases hx with rfl|rfl|rfl|rfl|rfl|rfl|rfl|rfl
    . exact .inr (wJ hrd (by omega)).1
    . exact .inr (wJ (fun r h=>hrd r (lH h)) (by omega)).1
    . exact .inr (wJ (fun r h=>hrd r (oi h)) (Nat.le_trans oh (by have:=WZ rs.length hrl;omega))).1
    . exact .inr (wJ (fun r h=>(List.mem_append.mp h).elim (hrd r) fun h=>hrd r (lH h)) (by rw[List.length_append];omega)).1
    . exact .inr (wJ hrd (by omega)).2
    . exact .inr (vb.mono (by omega) (by omega))
    . exact .inl rfl
    . exact .inr (wJ (rs:=[.none]) (fun r h=>by rw[List.mem_singleton.mp h];exact vb.mono (by omega) (by omega)) (show 1≤64 by omega)).1
   refine ye (wO (zA (zB rfl) (zA (rk (zB rfl) we (vq (wH zE)) we pX) (zA (rk (zB rfl) we we (vq (wH zE)) hpc) (zA (zw (zB rfl) (rk (zB rfl) we (vq zE) we pX) (rq (by unfold zP;omega))) (zA (zU (zA (zB rfl) zC) rfl) (zA zE (zA rfl (zA (wO (zA zE zC) (L1 1 (by omega))) zC)))))))) (L1 8 (by omega))) ?_
   have l8:[Val.lst rs,.lst (xu rs none (some (-1))),.lst (L2.zb rs (L2.xf rs.length none none (-1)).1 (-1) (L2.xf rs.length none none (-1)).2),.lst (rs++xu rs none (some 1)),.tup rs,.none,.dct0,.lst [.none]].length=8:=rfl
   generalize [Val.lst rs,.lst (xu rs none (some (-1))),.lst (L2.zb rs (L2.xf rs.length none none (-1)).1 (-1) (L2.xf rs.length none none (-1)).2),.lst (rs++xu rs none (some 1)),.tup rs,.none,.dct0,.lst [.none]]=V8 at d8 l8 ⊢
   clear hpc c1 c2
   show (zZ Φ T.gl [some (.scr ns),some (.int k),some (.ref p),some (tpI zs),some (tpI ds),some (.lst rs),some (.lst V8),o7,o8,o9,o10,none] _ s4).post _
   have hne:zT .ne (.lst rs) (.lst []) s4=.ok (.bool !rs.isEmpty) s4:=ne_nil (by have:=lZ fun r h=>(hrd r h).d;rw[Val.isD]at this;exact this)
   refine Xr (b:=!rs.isEmpty) (J:=fun e s'=>xF s' p∧∃us,e=[some (.scr ns),some (.int k),some (.ref p),some (tpI zs),some (tpI ds),some (.lst rs),some (.lst us),o7,o8,o9,o10,none]∧∀u∈us,TR u) (zO (zf (zB rfl) (wO zC (L1 0 (by omega))) hne) zF) (fun hN=>?_) (fun _=>⟨hP3,V8,rfl,d8⟩) ?_
   . have hnil:rs≠[]:=by rintro rfl;cases hN
     refine vU (bQ.mpr ?_)
     rw[zB (v:=.lst V8) rfl]
     refine zD.mpr (pK (fun rest e s' acc=>xF s' p∧(∃o,e=[o,some (.ref p),some (.lst rs)])∧(∀u∈acc,TR u)∧acc.length+rest.length=8) ?_)
     refine⟨⟨zi 0 8,none⟩,s4,rfl,⟨hP3,⟨_,rfl⟩,nofun,rfl⟩,fun _ _ _ _ _=>rfl,?_,?_⟩
     . rintro y rest e s' acc ⟨hP',⟨o,rfl⟩,ha,hal⟩
       refine⟨_,rfl,uZ.mpr ?_⟩
       rw[if_pos rfl]
       refine xc (zA (zB rfl) (zA (zB rfl) zC)) (zJ (c.bent p zs.length rs s' hP' hz1 hz4 hnil hrl hrs) ?_)
       rintro u s8 ⟨⟨us,rfl,hul,hus⟩,t8⟩
       refine⟨t8.at_ hP'.lt,⟨_,rfl⟩,fun w hw=>?_,by rw[List.length_append,List.length_singleton];rw[List.length_cons]at hal;omega⟩
       rcases List.mem_append.mp hw with hw|hw
       . exact ha w hw
       . rw[List.mem_singleton.mp hw];exact .inr (wJ hus hul).1
     . rintro e s' acc ⟨hP',⟨o,rfl⟩,ha,hal⟩
       refine zD.mpr ?_
       rw[rq (by rw[List.length_nil]at hal;unfold zP;omega)]
       refine zD.mpr (yt ⟨_,rfl,hP',V8++acc,rfl,fun u hu=>?_⟩)
       rcases List.mem_append.mp hu with hu|hu
       . exact d8 u hu
       . exact ha u hu
   . rintro e s8 ⟨hP8,us,rfl,hus⟩
     refine zh.mpr (y4 (fun rest3 e s'=>(∃o7 o8 o9 o10,e=[some (.scr ns),some (.int k),some (.ref p),some (tpI zs),some (tpI ds),some (.lst rs),some (.lst us),o7,o8,o9,o10,none])∧∀x∈rest3,TR x) us (s1:=s8) (u7 (zB rfl) rfl) ⟨⟨_,_,_,_,rfl⟩,hus⟩ ?_ ?_)
     . rintro x rest3 e s9 ⟨⟨o7,o8,o9,o10,rfl⟩,hr3⟩
       have hx:=hr3 x (.head _)
       have hr3':∀x∈rest3,TR x:=fun x hx=>hr3 x (.tail _ hx)
       obtain⟨sh,hsh⟩:=hx.shown
       refine⟨_,rfl,?_⟩
       refine ye (zU (zA (zB rfl) zC) (hsh s9)) ?_
       refine zh.mpr (y4 (fun rest4 e s'=>s'=s9∧∃o9 o10,e=[some (.scr ns),some (.int k),some (.ref p),some (tpI zs),some (tpI ds),some (.lst rs),some (.lst us),some x,some (.str sh),o9,o10,none]) (zi 0 2) (s1:=s9) (two _ _) ⟨rfl,_,_,rfl⟩ ?_ ?_)
       . rintro y rest4 e s10 ⟨rfl,o9,o10,rfl⟩
         refine⟨_,rfl,?_⟩
         have q4:zT .ne (.bool (uy zs ds x)) (.bool (uy zs ds x)) s10=.ok (.bool false) s10:=by
          cases uy zs ds x<;>rfl
         refine ye (x_call (zA (zB rfl) (zA (zB rfl) (zA (zB rfl) zC))) (c.are zs ds x s10 hz hd hx.kd hx.Y2 hx.it)) ?_
         refine yH (vG (ze (zO (zU (zA (zB rfl) (zA yw zC)) (show blt .isi false [.bool (uy zs ds x),.ty "bool"] s10=.ok (.bool true) s10 from rfl)) zF)) (yQ (zO (zf (zB rfl) (x_call (zA (zB rfl) (zA (zB rfl) (zA (zB rfl) zC))) (c.lare zs ds x s10 hz hd hx.kd hx.Y2 hx.it)) q4) zF) vE)) ?_
         exact yt ⟨rfl,_,_,rfl⟩
       . rintro e s10 ⟨rfl,o9,o10,rfl⟩
         have q6:zT .ne (.str sh) (.str sh) s10=.ok (.bool false) s10:=by rw[ne_str,decide_eq_true rfl];rfl
         exact yH (zO (zf (zU (zA (zB rfl) zC) (hsh s10)) (zB rfl) q6) zF) (yt ⟨⟨_,_,_,_,rfl⟩,hr3'⟩)
     . rintro e s9 ⟨⟨o7,o8,o9,o10,rfl⟩,hr3⟩
       exact yt ⟨⟨_,_,_,_,_,_,_,_,_,_,rfl⟩,hr'⟩
 . rintro e s' ⟨⟨o1,o2,o3,o4,o5,o6,o7,o8,o9,o10,rfl⟩,hr⟩
   have ask:∀(zs ds:List Int) (vs:List Val) (b:Bool),((((1≤zs.length∧zs.length≤4)∧∀x∈zs,2≤x∧x≤8)∧ds.length≤32)∧∀x∈ds,-1≤x∧x<zs.length)∧(xh vs=true∧uy zs ds (.lst vs)=b)→∀s,Φ "are_reasons" 0 [tpI zs,tpI ds,.lst vs] s=.ok (.bool b) s:=fun zs ds vs b h s=>by
    have:=c.are zs ds (.lst vs) s ⟨h.1.1.1.1.1,h.1.1.1.1.2,h.1.1.1.2⟩ ⟨h.1.1.2,h.1.2⟩ nofun nofun (fun us e w hw=>by cases e;exact yD h.2.1 hw)
    rw[h.2.2]at this;exact this
   have b1:=ask [2,2] [0,-1,-1] [.tup [.int 1,.int 1,.tup [.tup [.int 0,.int 1],.none]],.tup [.int 2,.int 0,.tup [.none,.tup [.int 1,.int 1]]]] true (by decide +kernel)
   have b2:=ask [2,2] [0,-1] [.tup [.int 1,.int 1,.tup [.tup [.int 0,.int 1],.none]]] true (by decide +kernel)
   have b3:=ask [2,2] [0,-1] [.tup [.int 1,.int 1,.tup [.tup [.int 0,.int 1],.tup [.int 0,.int 1]]]] false (by decide +kernel)
   have b4:=ask [2,2] [0,-1] [.tup [.int 1,.int 1,.tup [.tup [.int 0,.bool true],.none]]] false (by decide +kernel)
   have b5:=ask [2,2] [-1,-1,0] [.tup [.int 1,.int 1,.tup [.tup [.bool true,.int 1],.none]]] false (by decide +kernel)
   have b6:=ask [2,2] [0,-1] [.tup [.int 1,.int 0,.tup [.none,.tup [.int 0,.int 1]]]] false (by decide +kernel)
   have b7:=ask [3] [-1] [] true (by decide +kernel)
   have z2:∀(env:M.Env) (s:Sto) (a b:Int),evE Φ T.gl env (.tup (.cons (.lit (.int a)) (.cons (.lit (.int b)) .nil))) s=.ok (.tup [.int a,.int b]) s:=fun env s a b=>z7 (zA zE (zA zE zC)) (L1 2 (by omega))
   have d2:∀(env:M.Env) (s:Sto) (a:Int),evE Φ T.gl env (.tup (.cons (.lit (.int a)) (.cons (.neg (.lit (.int 1))) .nil))) s=.ok (tpI [a,-1]) s:=fun env s a=>z7 (zA zE (zA (wH zE) zC)) (L1 2 (by omega))
   have pr:∀{env:M.Env} {s:Sto} {e1 e2:Ex} {v1 v2:Val},evE Φ T.gl env e1 s=.ok v1 s→evE Φ T.gl env e2 s=.ok v2 s→evE Φ T.gl env (.tup (.cons e1 (.cons e2 .nil))) s=.ok (.tup [v1,v2]) s:=fun h1 h2=>z7 (zA h1 (zA h2 zC)) (L1 2 (by omega))
   have r3:∀{env:M.Env} {s:Sto} {a b:Int} {e:Ex} {v:Val},evE Φ T.gl env e s=.ok v s→evE Φ T.gl env (.tup (.cons (.lit (.int a)) (.cons (.lit (.int b)) (.cons e .nil)))) s=.ok (.tup [.int a,.int b,v]) s:=fun h=>z7 (zA zE (zA zE (zA h zC))) (L1 3 (by omega))
   have o1:∀{env:M.Env} {s:Sto} {e:Ex} {v:Val},evE Φ T.gl env e s=.ok v s→evE Φ T.gl env (.lst false (.cons e .nil)) s=.ok (.lst [v]) s:=fun h=>wO (zA h zC) (L1 1 (by omega))
   refine ye (wO (zA (r3 (pr (z2 _ _ _ _) zE)) (zA (r3 (pr zE (z2 _ _ _ _))) zC)) (L1 2 (by omega))) ?_
   refine yH (vG (zO (zf (x_call (zA (z2 _ _ _ _) (zA (z7 (zA zE (zA (wH zE) (zA (wH zE) zC))) (L1 3 (by omega))) (zA (zB rfl) zC))) (b1 _)) zE rfl) zF) (yQ (zO (zf (x_call (zA (z2 _ _ _ _) (zA (d2 _ _ _) (zA (rk (zB rfl) we (vq zE) we rfl) zC))) (b2 _)) zE rfl) zF) vE)) ?_
   refine yH (zO (zf (x_call (zA (z2 _ _ _ _) (zA (d2 _ _ _) (zA (o1 (r3 (pr (z2 _ _ _ _) (z2 _ _ _ _)))) zC))) (b3 _)) zE rfl) zF) ?_
   refine yH (zO (zf (x_call (zA (z2 _ _ _ _) (zA (d2 _ _ _) (zA (o1 (r3 (pr (pr zE zE) zE))) zC))) (b4 _)) zE rfl) zF) ?_
   refine yH (zO (zf (x_call (zA (z2 _ _ _ _) (zA (z7 (zA (wH zE) (zA (wH zE) (zA zE zC))) (L1 3 (by omega))) (zA (o1 (r3 (pr (pr zE zE) zE))) zC))) (b5 _)) zE rfl) zF) ?_
   refine zX (v:=.bool true) (rP (zf (x_call (zA (z2 _ _ _ _) (zA (d2 _ _ _) (zA (o1 (r3 (pr zE (z2 _ _ _ _)))) zC))) (b6 _)) zE rfl) (zf (x_call (zA (z7 (zA zE zC) (L1 1 (by omega))) (zA (z7 (zA (wH zE) zC) (L1 1 (by omega))) (zA (wO zC (L1 0 (by omega))) zC))) (b7 _)) zE rfl)) ?_
   show (zY false [] _ _).post _
   rw[leave_top yd]
   exact zD.mpr rfl
end
theorem cs:At T 9 Cs:=fun n hn=>by
 obtain⟨n,rfl⟩:∃m,n=m+9:=⟨n-9,by omega⟩
 have g:Gls T:=⟨rfl,rfl,rfl,rfl,rfl⟩
 have whole:∀m,ur (zH T (m+1)):=fun m v l k s h=>by rw[zQ (F:=F.xU) rfl];exact jt h
 have wholes:∀m,tw (zH T (m+2)):=fun m vs l k s h=>by rw[zQ (F:=F.ym) rfl];exact mW (whole m) h
 have needWhole:∀m,vw (zH T (m+2)):=fun m i l k s h1 h2=>by rw[zQ (F:=F.yq) rfl];exact rY (whole m) h1 h2
 have needSize:∀m,rm (zH T (m+3)):=fun m i s h1 h2=>by rw[zQ (F:=F.xD) rfl];exact pV g (needWhole m) h1 h2
 have needLength:∀m,tN (zH T (m+3)):=fun m i s h1 h2=>by rw[zQ (F:=F.ya) rfl];exact rE g (needWhole m) h1 h2
 have most:∀m,bH (zH T (m+1)):=fun m a b d s h1 h2 h3=>by rw[zQ (F:=F.xC) rfl];exact fN h1 h2 h3
 have one:∀m,bj (zH T (m+1)):=fun m a b d e s h1 h2 h3 h4=>by rw[zQ (F:=F.yn) rfl];exact cJ h1 h2 h3 h4
 have rat:∀m,CAt (zH T (m+4)):=fun m a b d s h1 h2 h3 h4=>by rw[zQ (F:=F.xy) rfl];exact Z1 (whole (m+2)) (needLength m) (needSize m) (most (m+2)) h1 h2 h3 h4
 have areSizes:∀m,rl (zH T (m+3)):=fun m zs s h=>by rw[zQ (F:=F.xA) rfl];exact pT g (wholes m) h
 have needSizes:∀m,sE (zH T (m+4)):=fun m zs s h=>by rw[zQ (F:=F.yp) rfl];exact rX (areSizes m) h
 have isDraft:∀m,ph (zH T (m+5)):=fun m zs ns s h hd=>by rw[zQ (F:=F.xT) rfl];exact nB g (needSizes m) (wholes (m+2)) h hd
 have needDraft:∀m,sD (zH T (m+6)):=fun m zs ns s h hd=>by rw[zQ (F:=F.yo) rfl];exact rW (isDraft m) h hd
 have wth:∀m,lA (zH T (m+1)):=fun m ns p h s h1 h2=>by rw[zQ (F:=F.xV) rfl];exact nC h1 h2
 have barring:∀m,pf (zH T (m+5)):=fun m zs ns p h s h1 h2 h3 h4=>by rw[zQ (F:=F.yL) rfl];exact nA (wth (m+3)) (rat m) (one (m+3)) h1 h2 h3 h4
 have cell:∀m,bG (zH T (m+1)):=fun m ns k s=>by
  obtain⟨c,h⟩:=fI (T:=T) (Φ:=zH T m) (s:=s) ns k
  exact⟨c,by rw[zQ (F:=F.zx) rfl];exact h⟩
 have pen:∀m,YN (zH T (m+1)):=fun m c s=>by
  obtain⟨a,b,h,h2⟩:=cK (T:=T) (Φ:=zH T m) (s:=s) c
  exact⟨a,b,by rw[zQ (F:=F.yP) rfl];exact h,h2⟩
 have draw:∀m,mx (zH T (m+1)):=fun m p k s h1 h2 h3=>by rw[zQ (F:=F.y7) rfl];exact fJ h1 h2 h3
 have sizes:∀m,m7 (zH T (m+2)):=fun m p s h=>by rw[zQ (F:=F.yk) rfl];exact mR (draw m) h
 have ended:∀m,j9 (zH T (m+1)):=fun m zs fs q h s h1 h2 h3 h4=>by rw[zQ (F:=F.yO) rfl];exact jn h1 h2 h3 h4
 have draft:∀m,m6 (zH T (m+2)):=fun m p zs a b s h1 h2 h3 h4=>by rw[zQ (F:=F.yj) rfl];exact mQ (draw m) (ended m) h1 h2 h3 h4
 have lrows:∀m,iC (zH T (m+1)):=fun m a b s h1 h2 h3=>by rw[zQ (F:=F.y9) rfl];exact jr h1 h2 h3
 have places:∀m,m9 (zH T (m+1)):=fun m r z s h1 h2=>by rw[zQ (F:=F.yY) rfl];exact mU h1 h2
 have lbars:∀m,qe (zH T (m+2)):=fun m zs ns p h s h1 h2 h3 h4=>by rw[zQ (F:=F.y6) rfl];exact jo (lrows m) (places m) h1 h2 h3 h4
 have lput:∀m,iB (zH T (m+1)):=fun m ns p h s h1 h2=>by rw[zQ (F:=F.x8) rfl];exact fM h1 h2
 have blank:∀m,mw (zH T (m+2)):=fun m ds b s h=>by rw[zQ (F:=F.xS) rfl];exact mM rfl (whole m) h
 have zu:∀m,tu (zH T (m+1)):=fun m v s h=>by rw[zQ (F:=F31.yl) rfl];exact mV h
 have isHue:∀m,mz (zH T (m+2)):=fun m zs b s h=>by rw[zQ (F:=F.wW) rfl];exact mO (whole m) h
 have isBar:∀m,my (zH T (m+6)):=fun m zs ms p o v s h1 h2 h3 h4 h5=>by rw[zQ (F:=F.wV) rfl];exact mN g (wholes (m+3)) (barring m) h1 h2 h3 h4 h5
 have aRows:∀m,tm "are_rows_for" (zH T (m+7)):=fun m zs ms p h v s h1 h2 h3 h4 h5=>by rw[zQ (F:=F.yK) rfl];exact mL (isBar m) h1 h2 h3 h5
 have isRea:∀m,m5 (zH T (m+8)):=fun m zs ms v s h1 h2 h3=>by rw[zQ (F:=F.xB) rfl];exact mP (blank (m+5)) (isHue (m+5)) (aRows m) h1 h2 h3
 have are:∀m,qd "are_reasons" (zH T (m+9)):=fun m zs ds v s h1 h2 h3 h4 h5=>by rw[zQ (F:=F.yZ) rfl];exact jk (needDraft (m+2)) (isRea m) (wth (m+7)) h1 h2 h3 h4 h5
 have lrowsA:∀m,tm "_law_rows_are" (zH T (m+3)):=fun m zs ms p h v s h1 h2 h3 h4 h5=>by rw[zQ (F:=F25.z9) rfl];exact pU (zu (m+1)) (lbars m) h1 h2 h3 h4 h5
 have lare:∀m,qd "_law_are" (zH T (m+4)):=fun m zs ds v s h1 h2 h3 h4 h5=>by rw[zQ (F:=F25.xR) rfl];exact fL (zu (m+2)) (lrowsA m) (lput (m+2)) h1 h2 h3 h4 h5
 have lopen:∀m,iA (zH T (m+3)):=fun m zs ns p s h1 h2 h3=>by rw[zQ (F:=F.y8) rfl];exact jq (lbars m) h1 h2 h3
 have narrow:∀m,m8 (zH T (m+4)):=fun m zs ds s h1 h2=>by rw[zQ (F:=F25.yX) rfl];exact mT (lopen m) h1 h2
 have made:∀m,iD (zH T (m+5)):=fun m zs ds s h1 h2=>by rw[zQ (F:=F25.yg) rfl];exact js (narrow m) (lbars (m+2)) (lput (m+3)) h1 h2
 have bent:∀m,j8 (zH T (m+2)):=fun m p k rs s h1 h2 h3 h4 h5 h6=>by rw[zQ (F:=F25.yf) rfl];exact jm (draw m) h1 h2 h3 h4 h5 h6
 exact⟨cell (n+8),pen (n+8),sizes (n+7),draft (n+7),made (n+4),bent (n+7),are n,lare (n+5)⟩
theorem ZM(ns:List Int):∃s',zH T 10 "law" 0 [.scr ns] []=.ok (.bool true) s':=by
 obtain⟨v,s',h,rfl⟩:=gK (cs 9 (by omega)) ns
 exact⟨s',by rw[zQ (F:=rn) rfl];exact h⟩
end P25
end
section
open PySem PySem.W PyProof.Rows
theorem P25.hx:P25.rn.ps=[("_law_script":Str)]:=by kernel_rfl
theorem P25.hF:(M.tbl P25.fnL P25.glL).fn P25.dd.name 0=some P25.rn:=by kernel_rfl
theorem P25.hgl:P25.glL=P25.gl.map fun p=>(p.1,M.gv p.2):=by kernel_rfl
theorem PySem.Challenge.cw_evenhues_k25_reasons_looked_at_holds : PySem.Challenge.rw_evenhues_k25_reasons_looked_at.Holds := by
 exact M.close (n:=10) P25.Z3 P25.left P25.hgl P25.aM P25.hp P25.hk P25.hwr P25.ok P25.bare P25.hw (by kernel_rfl) P25.hdf ⟨rfl,by decide,by decide,rfl⟩ P25.hF P25.hx P25.Z9 (fun ns _=>P25.ZM ns)
end
