import PyProof.Rows.All
import Wide.All
import OpenK.AllK
import Wide.FinOn
import Lean
import PyProof.EqAt
import PyProof.EqKinds
import PyProof.TupleCall
import PyProof.P3Eq
import PyProof.NeData
import PyProof.P3In
import PyProof.Rows.EnumRows
import PyProof.ZipIter
import PySem.Challenge.RW_evenhues_k31_papers_looked_at
set_option genSizeOf false
set_option genSizeOfSpec false
set_option bootstrap.genMatcherCode false
set_option Elab.async false
set_option linter.all false
set_option maxRecDepth 100000
set_option maxHeartbeats 4000000
section
namespace Hd
open PySem
inductive G where
 |int (i:Int)|str (x:Str)|ctup (ns:List Int)
noncomputable def args(s:Stmt):Arguments:=match s with
 |.FunctionDef _ a _ _ _ _ _ _ _ _=>a
 |_=>{posonlyargs:=[],args:=[],vararg:=none,kwonlyargs:=[],kw_defaults:=[],kwarg:=none,defaults:=[]}
noncomputable def body(s:Stmt):List Stmt:=match s with
 |.FunctionDef _ _ b _ _ _ _ _ _ _=>b
 |_=>[]
noncomputable def scope(s:Stmt):Scope:=match s with
 |.FunctionDef _ _ _ _ _ _ sc _ _ _=>sc
 |_=>{kind:=.function,names:=[],isGenerator:=false,isCoroutine:=false}
noncomputable def posOf(s:Stmt):Pos:=match s with
 |.FunctionDef _ _ _ _ _ _ _ _ _ p=>p
 |_=>⟨0,0,0,0⟩
noncomputable def aZ(x:Str)(st:Stmt):DefRec:=⟨x,args st,body st,scope st,posOf st⟩
noncomputable def Wu:List Str:=["len","all","any","tuple","list","sorted","repr","max","min","sum","int","isinstance","divmod","str","bool","dict","set","range","enumerate","zip"]
noncomputable def oU:List Value→Option (List Int)
 |[]=>some []
 |.int i _::r=>(oU r).map (i::·)
 |_=>none
noncomputable def nsH(h:Heap)(x:Str):Option (Option Value):=match h.get? mainGlobals with
 |some o=>PySem.W.nsIn [(mainGlobals,o)] mainGlobals x
 |none=>none
noncomputable def Y1(fd:FuncData):FuncData:={fd with kwdefaults:=.none,doc:=.none,pyModule:=.none,annotations:=none,code:=.none,closureTuple:=.none}
noncomputable def il(h:Heap)(cd:Value)(x:Str):Bool:=match cd with
 |.ref c=>(match h.get? c with
  |some o=>PySem.W.codeIn [(c,o)] (.ref c) x
  |none=>false)
 |_=>false
noncomputable def dy(h:Heap)(x:Str):Option FuncData:=match nsH h x with
 |some (some (.ref f))=>(match h.get? f with
  |some ⟨_,_,.func fd,_⟩=>if il h fd.code x then some (Y1 fd) else none
  |_=>none)
 |_=>none
noncomputable def bX(p:Str × Stmt):Option FuncData:=some (PySem.W.fnOf p.1 p.1 (args p.2) (body p.2) (scope p.2) .none .none .none .none none .none .none)
noncomputable def glB(h:Heap)(x:Str):G→Bool
 |.int i=>(match nsH h x with|some (some (.int j _))=>decide (i=j)|_=>false)
 |.str y=>(match nsH h x with|some (some (.str z _))=>decide (y=z)|_=>false)
 |.ctup ns=>(match nsH h x with
  |some (some (.ref a))=>(match h.get? a with
   |some ⟨.type n,_,.seq us _,_⟩=>decide (n="tuple")&&decide (us.toList.length≤1000)&&decide (oU us.toList=some ns)
   |_=>false)
  |_=>false)
noncomputable def blB(h:Heap)(x:Str):Bool:=match nsH h x with|some none=>true|_=>false
noncomputable def Zo(D:List (Str × Stmt))(gl:List (Str × G))(s:Shared):List (Option FuncData) × Bool:=(D.map fun p=>dy s.heap p.1,gl.all (fun p=>glB s.heap p.1 p.2)&&Wu.all fun x=>blB s.heap x)
noncomputable def Yp(D:List (Str × Stmt)):List (Option FuncData) × Bool:=(D.map bX,true)
end Hd
end
section
set_option maxHeartbeats 0
open PySem PySem.W PyProof.Rows
namespace P31
noncomputable def top(i:Nat):Stmt:=PySem.Challenge.pw_evenhues_k31_papers_looked_at.main.body.getD i (.Pass ⟨0,0,0,0⟩)
noncomputable def D:List (Str × Stmt):=(("is_whole":Str),top 8)::(("are_wholes":Str),top 9)::(("most_step":Str),top 11)::(("is_one_hue":Str),top 14)::(("are_sizes":Str),top 16)::(("need_sizes":Str),top 17)::(("is_draft":Str),top 20)::(("need_draft":Str),top 21)::(("is_blank":Str),top 22)::(("with_hue":Str),top 23)::(("is_paper":Str),top 27)::(("shows":Str),top 28)::(("is_wrong_row":Str),top 29)::(("are_cases":Str),top 30)::(("_law_cell_at":Str),top 32)::(("_law_pen":Str),top 33)::(("_law_draw":Str),top 34)::(("_law_rows":Str),top 35)::(("_law_places":Str),top 36)::(("_law_wrong":Str),top 37)::(("_law_few":Str),top 38)::(("_law_ended":Str),top 39)::(("_law_knot":Str),top 40)::(("_law_whole":Str),top 41)::(("_law_shows":Str),top 42)::(("_law_made":Str),top 43)::(("_law_bent":Str),top 44)::(("law":Str),top 45)::[]
noncomputable def gl:List (Str × Hd.G):=[("MOST_PLACES",.int 40),("LEAST_SIZE",.int 2),("MOST_SIZE",.int 8),("HUES",.ctup [0,1,2,3]),("BLANK",.int (-1)),("ROW",.str "row"),("CASES",.str "cases")]
noncomputable def q:Program:={PySem.Challenge.pw_evenhues_k31_papers_looked_at with main:={PySem.Challenge.pw_evenhues_k31_papers_looked_at.main with body:=[1,2,3,5,6,7,8,9,11,12,14,16,17,19,20,21,22,23,25,26,27,28,29,30,32,33,34,35,36,37,38,39,40,41,42,43,44,45].map top}}
noncomputable def dd:DefRec:=Hd.aZ "law" (top 45)
theorem left:PySem.W.LeftO PySem.Challenge.rw_evenhues_k31_papers_looked_at.row.prog q [] (fun s=>PySem.W.recOk PySem.Challenge.rw_evenhues_k31_papers_looked_at.row.records s) (Hd.Zo D gl) (fun _=>Hd.Yp D) 100000:=by
 intro w
 kernel_rfl
theorem YY:PySem.Challenge.rw_evenhues_k31_papers_looked_at.wellSaid=true:=by kernel_rfl
theorem aq:PySem.W.defOf q PySem.Challenge.rw_evenhues_k31_papers_looked_at.row.name=some (dd,[]):=by kernel_rfl
theorem hp:PySem.Challenge.rw_evenhues_k31_papers_looked_at.row.prog.theDef PySem.Challenge.rw_evenhues_k31_papers_looked_at.row.name=some (dd.params,dd.body,dd.scope):=by kernel_rfl
theorem hk:PySem.W.kwWritten? dd.params.kwonlyargs dd.params.kw_defaults=some []:=by kernel_rfl
theorem hwr:(!PySem.Challenge.rw_evenhues_k31_papers_looked_at.row.writes||PySem.Challenge.rw_evenhues_k31_papers_looked_at.row.records.isEmpty)=true:=by kernel_rfl
theorem ok:(PySem.W.chainsOk q&&PySem.W.opensWell PySem.Challenge.rw_evenhues_k31_papers_looked_at.row.prog&&(PySem.W.frees PySem.Challenge.rw_evenhues_k31_papers_looked_at.row.toRowW&&PySem.Challenge.rw_evenhues_k31_papers_looked_at.row.within.isEmpty))=true:=by kernel_rfl
theorem hdf:dd.params.defaults=[]:=by kernel_rfl
theorem bare:PySem.Challenge.rw_evenhues_k31_papers_looked_at.row.prog.bare:=⟨rfl,rfl,rfl,rfl,rfl,by decide +kernel⟩
theorem hw:PySem.Challenge.rw_evenhues_k31_papers_looked_at.row.toRowW.promised:=by w_witness2
end P31
end
section
namespace L2
open PySem PySem.Spec PyProof.Rows
noncomputable abbrev Key:=Sum Int Str
noncomputable def b0:Key→Value→Bool
 |.inl k,v=>Value.isInt k v
 |.inr x,v=>Value.isStrOf x v
noncomputable def W0(w:World):Key→Int
 |.inl k=>hashInt k
 |.inr x=>hashStr w x
theorem yE:∀{k:Key} {v:Value},b0 k v=true→(∃i t,k=Sum.inl i∧v=Value.int i t)∨(∃x t,k=Sum.inr x∧v=Value.str x t)
 |.inl i,v,h=>by
  obtain⟨t,e⟩:=Value.isInt_shape (k:=i) (v:=v) h
  exact .inl ⟨i,t,rfl,e⟩
 |.inr x,v,h=>by
  obtain⟨t,e⟩:=Value.isStrOf_shape (x:=x) (v:=v) h
  exact .inr ⟨x,t,rfl,e⟩
theorem Zf(a b:Int):decide ((Sum.inl a:Key)=Sum.inl b)=(a == b):=by
 by_cases e:a=b
 . subst e;simp
 . have h:¬(Sum.inl a:Key)=Sum.inl b:=fun q=>e (Sum.inl.inj q)
   rw[decide_eq_false h]
   exact(beq_eq_false_iff_ne.mpr e).symm
theorem Zi(a b:Str):decide ((Sum.inr a:Key)=Sum.inr b)=decide (a=b):=by
 by_cases e:a=b
 . subst e;simp
 . have h:¬(Sum.inr a:Key)=Sum.inr b:=fun q=>e (Sum.inr.inj q)
   rw[decide_eq_false h,decide_eq_false e]
theorem Zg(a:Int)(b:Str):decide ((Sum.inl a:Key)=Sum.inr b)=false:=decide_eq_false (fun q=>nomatch q)
theorem Zh(a:Str)(b:Int):decide ((Sum.inr a:Key)=Sum.inl b)=false:=decide_eq_false (fun q=>nomatch q)
noncomputable def pU(prog:Program)(w:World):PySem.KeyKind prog w Key where
 is:=b0
 hash:=W0 w
 inj:=fun v a b ha hb=>by
  rcases yE ha with⟨i,t,rfl,rfl⟩|⟨x,t,rfl,rfl⟩
  . rcases yE hb with⟨j,u,rfl,e⟩|⟨y,u,rfl,e⟩
    . injection e with e1 _;rw[e1]
    . exact nomatch e
  . rcases yE hb with⟨j,u,rfl,e⟩|⟨y,u,rfl,e⟩
    . exact nomatch e
    . injection e with e1 _;rw[e1]
 byValue:=fun k v h=>by
  rcases yE h with⟨i,t,rfl,rfl⟩|⟨x,t,rfl,rfl⟩<;>rfl
 pyHash:=fun hv h=>by
  rcases yE hv with⟨i,t,rfl,rfl⟩|⟨x,t,rfl,rfl⟩
  . exact wpAny_pyHash_int h
  . exact wpAny_pyHash_str h
 eqBool:=fun hu hv h=>by
  rcases yE hu with⟨i,t,rfl,rfl⟩|⟨x,t,rfl,rfl⟩
  . rcases yE hv with⟨j,u,rfl,rfl⟩|⟨y,u,rfl,rfl⟩
    . rw[Zf]at h;exact wpAny_eqBool_int h
    . rw[Zg]at h;exact SeqAt.EqAt.int_str i t y u _ _ _ _ h
  . rcases yE hv with⟨j,u,rfl,rfl⟩|⟨y,u,rfl,rfl⟩
    . rw[Zh]at h;exact SeqAt.EqAt.str_int x t j u _ _ _ _ h
    . rw[Zi]at h;exact wpAny_eqBool_str h
 «strs»:=fun k x t v h=>by
  rcases yE h with⟨i,u,rfl,e⟩|⟨y,u,rfl,e⟩
  . exact nomatch e
  . injection e with e1 _
    subst e1
    cases v<;>rfl
end L2
namespace L2
open PySem PySem.Spec PyProof.Rows
inductive V where
 |non|bl (b:Bool)|int (i:Int)|str (x:Str)|byt (b:Array UInt8)|flt (b:UInt64)|ref (a:Addr)|ty (n:String)
 deriving DecidableEq
noncomputable def RelV:V→Value→Prop
 |.non,u=>u=Value.none
 |.bl b,u=>u=Value.bool b
 |.int i,u=>∃t,u=Value.int i t
 |.str x,u=>∃t,u=Value.str x t
 |.byt b,u=>∃t,u=Value.bytes b t
 |.flt b,u=>∃t,u=Value.float b t
 |.ref a,u=>u=Value.ref a
 |.ty n,u=>u=Value.type n
noncomputable abbrev Vals:List V→List Value→Prop:=Paired RelV
theorem Vals.length{xs:List V}{us:List Value}(r:Vals xs us):xs.length=us.length:=Paired.length r
theorem Vals.get:∀{xs:List V} {us:List Value} {i:Nat} {x:V},Vals xs us→xs[i]?=some x→∃u,us[i]?=some u∧RelV x u
 |_,_,_,_,.nil,e=>by simp at e
 |_,_,0,_,.cons r _,e=>by simp at e;subst e;exact⟨_,rfl,r⟩
 |_,_,i+1,x,.cons _ t,e=>by
  obtain⟨u,h1,h2⟩:=Vals.get (i:=i) (x:=x) t (by simpa using e)
  exact⟨u,by simpa using h1,h2⟩
theorem Vals.set{x:V}{u:Value}(r:RelV x u):∀{xs:List V} {us:List Value} (i:Nat),Vals xs us→Vals (xs.set i x) (us.set i u)
 |_,_,_,.nil=>.nil
 |_,_,0,.cons _ t=>.cons r t
 |_,_,i+1,.cons q t=>.cons q (Vals.set r i t)
theorem Vals.append:∀{xs ys:List V} {us ws:List Value},Vals xs us→Vals ys ws→Vals (xs++ys) (us++ws)
 |_,_,_,_,.nil,s=>s
 |_,_,_,_,.cons r t,s=>.cons r (Vals.append t s)
theorem Vals.take:∀{xs:List V} {us:List Value} (n:Nat),Vals xs us→Vals (xs.take n) (us.take n)
 |_,_,0,_=>.nil
 |_,_,_+1,.nil=>.nil
 |_,_,n+1,.cons r t=>.cons r (Vals.take n t)
theorem Vals.drop:∀{xs:List V} {us:List Value} (n:Nat),Vals xs us→Vals (xs.drop n) (us.drop n)
 |_,_,0,r=>r
 |_,_,_+1,.nil=>.nil
 |_,_,n+1,.cons _ t=>Vals.drop n t
theorem Vals.none_of:∀{xs:List V} {us:List Value} {i:Nat},Vals xs us→xs[i]?=none→us[i]?=none:=fun{xs us i} r e=>by
 have h1:=r.length
 have h2:xs.length≤i:=List.getElem?_eq_none_iff.mp e
 exact List.getElem?_eq_none_iff.mpr (by omega)
noncomputable def aQ:Option V→Option Value→Prop
 |some v,some u=>RelV v u
 |none,none=>True
 |_,_=>False
noncomputable def KV{κ:Type}:List (κ × V)→List (κ × Value)→Prop:=Paired fun(p:κ × V) (q:κ × Value)=>p.1=q.1∧RelV p.2 q.2
noncomputable def kV:Key→V
 |.inl i=>.int i
 |.inr x=>.str x
inductive HO where
 /-- a list -/
 |lst (xs:List V)
 /-- a tuple (never changes) -/
 |tup (xs:List V)
 /-- a dict whose keys are ints and texts;one whose keys are tuples of ints and texts (the empty one is both) -/
 |dK (kvs:List (Key × V))|dT (kvs:List (List Key × V))
 /-- a set of ints: its members,its size -/
 |set (S:Int→Bool) (n:Nat)
 /-- an instance of the class at C,its dict at dx,its attributes -/
 |ins (C dx:Addr) (fs:List (Str × V))
 /-- the dict of the instance at x -/
 |own (x:Addr)
 /-- the dict of an exception -/
 |xd (fs:List (Str × V))
 /-- a bound method,f of x -/
 |met (f x:Addr)
 /-- a range object lo,lo+1,.. below hi -/
 |rng (lo hi:Int)
 /-- a thing that is known to the object (the script;a dict while a loop walks it): read,never written while it is so -/
 |frz (o:Obj) (u:HO)
 /-- a code object's table -/
 |tbl (ps:Array Value)
 /-- any other thing,by what is true of its one object (a def of one's own: SetO a S n:=HO.ext fun h=>..) -/
 |ext (φ:Heap→Prop)
noncomputable abbrev Hp:=Addr→Option HO
noncomputable def ur(h:Heap)(a:Addr)(items:Array Value):Prop:=∃o,h.get? a=some o∧o.cls=.type "tuple"∧∃n,o.data=.seq items n∧o.dict=none
theorem ur.tup{h:Heap}{a:Addr}{items:Array Value}(x:ur h a items):IsTup h a items:=let ⟨o,e,c,n,d,_⟩:=x;⟨o,e,c,n,d⟩
theorem ur.lt{h:Heap}{a:Addr}{items:Array Value}(x:ur h a items):a<h.objs.size:=let ⟨_,e,_⟩:=x;Heap.lt_size e
theorem ur.new(h:Heap)(items:Array Value):ur (h.push {cls:=.type "tuple",data:=.seq items}) h.objs.size items:=⟨_,Heap.get?_push_size _ rfl,rfl,_,rfl,rfl⟩
noncomputable def upd(H:Hp)(a:Addr)(o:HO):Hp:=fun b=>if b=a then some o else H b
theorem z8{H:Hp}{a:Addr}{o:HO}:upd H a o a=some o:=by unfold upd;rw[if_pos rfl]
theorem zS{H:Hp}{a b:Addr}{o:HO}(h:b≠a):upd H a o b=H b:=by unfold upd;rw[if_neg h]
theorem zY{H:Hp}{a b:Addr}{o:HO}(h:H a=some o)(h':H b=none):a≠b:=by
 intro e;subst e;rw[h]at h';cases h'
section
variable (P:Program)(w:World)
noncomputable def z5(H:Hp)(h:Heap)(a:Addr):HO→Prop
 |.lst xs=>xs.length≤sizeLine∧∃(its:List Value) (n:Nat),Vals xs its∧h.get? a=some {cls:=.type "list",data:=.seq its.toArray n}
 |.tup xs=>xs.length≤sizeLine∧∃its:List Value,Vals xs its∧ur h a its.toArray
 |.dK kvs=>kvs.length≤sizeLine∧(a == sysModules)=false∧∃vs,KV kvs vs∧h.DictOf (pU P w) a vs
 |.dT kvs=>kvs.length≤sizeLine∧(a == sysModules)=false∧∃xs:List (List Key × Addr × Value),
  Paired (fun(p:List Key × V) (q:List Key × Addr × Value)=>p.1=q.1∧H q.2.1=some (.tup (p.1.map kV))∧RelV p.2 q.2.2) kvs xs ∧
  ∃o es ep,h.get? a=some o∧o.ExactDict∧o.data=.dict es ep∧es.toList=xs.map (entryOfKey (tupleKind (pU P w)))∧(xs.map (·.1)).Nodup
 |.set S n=>h.SetOf (intKind P w) a S n
 |.ins C dx fs=>H dx=some (.own a)∧fs.length≤1000∧dx≠a∧h.get? a=some (PySem.W.instObj C dx) ∧
  ∃mA,h.Ns1 dx mA∧(∀f,aQ (fs.lookup f) (mA f))∧PySem.Within mA (fs.map (·.1))
 |.own _=>∃o,h.get? a=some o
 |.xd fs=>∃mA,h.Ns1 a mA∧∀f,aQ (fs.lookup f) (mA f)
 |.rng lo hi=>∃t u v,h.get? a=some {cls:=.type "range",data:=.fields #[.int lo t,.int hi u,.int 1 v]}
 |.frz o u=>h.get? a=some o∧z5 H h a u
 |.tbl ps=>h.get? a=some {cls:=.none,data:=.fields ps}
 |.met f x=>h.get? a=some (PySem.W.methodObj (.ref f) (.ref x))
 |.ext φ=>φ h∧(∃o,h.get? a=some o)∧∀h1 h2:Heap,φ h1→(∀o,h1.get? a=some o→h2.get? a=some o)→φ h2
noncomputable def HOk(H:Hp)(h:Heap):Prop:=∀a o,H a=some o→z5 P w H h a o
end
section
variable {P:Program}{w:World}{H H':Hp}{h h':Heap}{a:Addr}{o:HO}
theorem z5.lt(x:z5 P w H h a o):a<h.objs.size:=by
 cases o with
 |lst xs=>obtain⟨_,_,_,_,e⟩:=x;exact Heap.lt_size e
 |tup xs=>obtain⟨_,_,_,p⟩:=x;exact p.lt
 |dK kvs=>obtain⟨_,_,_,_,o,_,_,e,_⟩:=x;exact Heap.lt_size e
 |dT kvs=>obtain⟨_,_,_,_,o,_,_,e,_⟩:=x;exact Heap.lt_size e
 |set S n=>obtain⟨o,_,_,_,e,_⟩:=x;exact Heap.lt_size e
 |ins C dx fs=>obtain⟨_,_,_,e,_⟩:=x;exact Heap.lt_size e
 |own y=>obtain⟨_,e⟩:=x;exact Heap.lt_size e
 |xd fs=>obtain⟨_,⟨_,_,_,e,_⟩,_⟩:=x;exact Heap.lt_size e
 |rng lo hi=>obtain⟨_,_,_,e⟩:=x;exact Heap.lt_size e
 |frz ob u=>obtain⟨e,_⟩:=x;exact Heap.lt_size e
 |tbl ps=>exact Heap.lt_size (show h.get? a=some _ from x)
 |met f y=>exact Heap.lt_size (show h.get? a=some _ from x)
 |ext φ=>obtain⟨_,⟨_,e⟩,_⟩:=x;exact Heap.lt_size e
theorem Paired.Xf{α β:Type}{F G:α→β→Prop}:∀{l₁:List α} {l₂:List β},Paired F l₁ l₂→(∀a b,F a b→G a b)→Paired G l₁ l₂
 |_,_,.nil,_=>.nil
 |_,_,.cons r t,f=>.cons (f _ _ r) (Paired.Xf t f)
theorem z5.m5(x:z5 P w H h a o)(k:∀b u,(b=a∨H b=some (.own a))→h.get? b=some u→h'.get? b=some u)
 (ho:∀b,H b=some (.own a)→H' b=some (.own a)) (ht:∀b xs,H b=some (.tup xs)→H' b=some (.tup xs)):z5 P w H' h' a o:=by
 induction o with
 |lst xs=>obtain⟨z,its,n,r,e⟩:=x;exact⟨z,its,n,r,k _ _ (.inl rfl) e⟩
 |tup xs=>obtain⟨z,its,r,ob,e,c⟩:=x;exact⟨z,its,r,ob,k _ _ (.inl rfl) e,c⟩
 |dK kvs=>obtain⟨z,y,vs,r,ob,es,ep,e,c⟩:=x;exact⟨z,y,vs,r,ob,es,ep,k _ _ (.inl rfl) e,c⟩
 |dT kvs=>
  obtain⟨z,y,xs,r,ob,es,ep,e,c⟩:=x
  exact⟨z,y,xs,Paired.Xf r fun p q z=>⟨z.1,ht _ _ z.2.1,z.2.2⟩,ob,es,ep,k _ _ (.inl rfl) e,c⟩
 |set S n=>obtain⟨ob,es,ep,t,e,c⟩:=x;exact⟨ob,es,ep,t,k _ _ (.inl rfl) e,c⟩
 |ins C dx fs=>
  obtain⟨d,z,ne,e,mA,⟨od,es,ep,e2,c⟩,r⟩:=x
  exact⟨ho _ d,z,ne,k _ _ (.inl rfl) e,mA,⟨od,es,ep,k _ _ (.inr d) e2,c⟩,r⟩
 |own y=>obtain⟨ob,e⟩:=x;exact⟨ob,k _ _ (.inl rfl) e⟩
 |xd fs=>obtain⟨mA,⟨od,es,ep,e,c⟩,r⟩:=x;exact⟨mA,⟨od,es,ep,k _ _ (.inl rfl) e,c⟩,r⟩
 |rng lo hi=>obtain⟨t,u,v,e⟩:=x;exact⟨t,u,v,k _ _ (.inl rfl) e⟩
 |frz ob u ih=>obtain⟨e,q⟩:=x;exact⟨k _ _ (.inl rfl) e,ih q⟩
 |tbl ps=>
  have e:h.get? a=some {cls:=.none,data:=.fields ps}:=x
  show h'.get? a=some {cls:=.none,data:=.fields ps}
  exact k a _ (.inl rfl) e
 |met f y=>
  have e:h.get? a=some (PySem.W.methodObj (.ref f) (.ref y)):=x
  show h'.get? a=some (PySem.W.methodObj (.ref f) (.ref y))
  exact k a _ (.inl rfl) e
 |ext φ=>obtain⟨p,⟨o,e⟩,st⟩:=x;exact⟨st _ _ p fun o q=>k _ _ (.inl rfl) q,⟨o,k _ _ (.inl rfl) e⟩,st⟩
theorem HOk.lt(x:HOk P w H h)(e:H a=some o):a<h.objs.size:=(x a o e).lt
theorem HOk.fresh(x:HOk P w H h)(e:h.objs.size≤a):H a=none:=by
 cases q:H a with
 |none=>rfl
 |some u=>exact absurd (Nat.lt_of_lt_of_le (x.lt q) e) (Nat.lt_irrefl _)
theorem HOk.kept(x:HOk P w H h)(k:∀b u,h.get? b=some u→h'.get? b=some u):HOk P w H h':=fun a o e=>
 (x a o e).m5 (fun b u _ q=>k b u q) (fun _ q=>q) fun _ _ q=>q
theorem HOk.laid(x:HOk P w H h)(k:∀b u,h.get? b=some u→h'.get? b=some u)(hp:h.objs.size≤a)(new:z5 P w (upd H a o) h' a o):HOk P w (upd H a o) h':=fun b u e=>by
 have hn:=x.fresh hp
 by_cases hb:b=a
 . subst hb;rw[z8]at e;cases e;exact new
 . rw[zS hb]at e
   exact(x b u e).m5 (fun c v _ q=>k c v q) (fun c q=>by rw[zS (zY q hn)];exact q) fun c xs q=>by rw[zS (zY q hn)];exact q
end
noncomputable def Rd(H:Hp)(a:Addr)(u:HO):Prop:=H a=some u∨∃o,H a=some (.frz o u)
theorem Rd.ok{P:Program}{w:World}{H:Hp}{h:Heap}{a:Addr}{u:HO}(r:Rd H a u)(x:HOk P w H h):z5 P w H h a u:=by
 rcases r with r|⟨o,r⟩
 . exact x a u r
 . obtain⟨_,q⟩:=x a _ r
   exact q
noncomputable def Mut:Option HO→Prop
 |some (.lst _)=>True
 |some (.dK _)=>True
 |some (.dT _)=>True
 |some (.set _ _)=>True
 |some (.ins _ _ _)=>True
 |some (.ext _)=>True
 |_=>False
section
variable {P:Program}{w:World}{H:Hp}{h h':Heap}{x e:Addr}{o':HO}
theorem HOk.write(ok:HOk P w H h)(mu:Mut (H x))(he:e=x∨H e=some (.own x))(k:∀b u,b≠e→h.get? b=some u→h'.get? b=some u)(heo:∃u,h'.get? e=some u)
 (new:z5 P w (upd H x o') h' x o'):HOk P w (upd H x o') h':=fun b u q=>by
 have nown:∀c y,H c=some (.own y)→c≠x:=fun c y r z=>by subst z;rw[r]at mu;exact mu
 have ntup:∀c xs,H c=some (.tup xs)→c≠x:=fun c xs r z=>by subst z;rw[r]at mu;exact mu
 by_cases hb:b=x
 . subst hb;rw[z8]at q;cases q;exact new
 . rw[zS hb]at q
   by_cases hbe:b=e
   . have q':H b=some (.own x):=by
      rcases he with z|z
      . exact absurd (hbe.trans z) hb
      . rw[hbe];exact z
     rw[q]at q';cases q'
     obtain⟨v,hv⟩:=heo
     exact⟨v,by rw[hbe];exact hv⟩
   . refine(ok b u q).m5 (fun c v hc r=>k c v ?_ r) (fun c r=>by rw[zS (nown c b r)];exact r) fun c xs r=>by rw[zS (ntup c xs r)];exact r
     rcases hc with rfl|hc
     . exact hbe
     . rintro rfl
       rcases he with z|z
       . exact nown c b hc z
       . rw[hc]at z;cases z;exact hb rfl
end
structure Un(fs ex:List Addr)(H H':Hp)(h h':Heap):Prop where
 keep:∀b o,h.get? b=some o→H b=none→b ∉ fs→b ∉ ex→h'.get? b=some o
 slot:∀b o,h.get? b=some o→H b=none→b∈fs→b ∉ ex→∃sl,h'.get? b=some {o with slots:=sl}
 free:∀b o,h.get? b=some o→H b=none→b ∉ ex→H' b=none
 there:∀b o,h.get? b=some o→b ∉ ex→∃o',h'.get? b=some o'
 rh:∀b xs,H b=some (.tup xs)→H' b=some (.tup xs)
 frzs:∀b o u,H b=some (.frz o u)→H' b=some (.frz o u)
 tbls:∀b ps,H b=some (.tbl ps)→∃more,H' b=some (.tbl (ps++more))
section
variable {fs fs' ex ex':List Addr}{H H1 H2:Hp}{h h1 h2 h':Heap}{a x e:Addr}{o:HO}
theorem Un.any(u:Un fs ex H H1 h h1){b:Addr}{ob:Obj}(q:h.get? b=some ob)(n:H b=none)(hx:b ∉ ex):∃sl,h1.get? b=some {ob with slots:=sl}:=by
 by_cases hb:b∈fs
 . exact u.slot b ob q n hb hx
 . exact⟨ob.slots,u.keep b ob q n hb hx⟩
theorem Un.kept(k:∀b u,h.get? b=some u→h'.get? b=some u):Un fs ex H H h h':=
 ⟨fun b ob q _ _ _=>k b ob q,fun b ob q _ _ _=>⟨ob.slots,k b ob q⟩,fun _ _ _ n _=>n,fun b ob q _=>⟨ob,k b ob q⟩,fun _ _ q=>q,fun _ _ _ q=>q,fun _ ps q=>⟨#[],by rw[q];simp⟩⟩
theorem Un.refl:Un fs ex H H h h:=Un.kept fun _ _ q=>q
theorem Un.laid(k:∀b u,h.get? b=some u→h'.get? b=some u)(hp:h.objs.size≤a)(hn:H a=none):Un fs ex H (upd H a o) h h' where
 keep:=fun b u q _ _ _=>k b u q
 slot:=fun b u q _ _ _=>⟨u.slots,k b u q⟩
 free:=fun b u q n _=>by rw[zS (Nat.ne_of_lt (Nat.lt_of_lt_of_le (Heap.lt_size q) hp))];exact n
 there:=fun b u q _=>⟨u,k b u q⟩
 rh:=fun b xs q=>by rw[zS (zY q hn)];exact q
 frzs:=fun b u xs q=>by rw[zS (zY q hn)];exact q
 tbls:=fun b ps q=>⟨#[],by rw[zS (zY q hn),q];simp⟩
theorem Un.write(mu:Mut (H x))(he:e=x∨H e=some (.own x))(k:∀b u,b≠e→h.get? b=some u→h'.get? b=some u)(heo:∃u,h'.get? e=some u):Un fs ex H (upd H x o) h h':=by
 have hx:∀b,H b=none→b≠x:=fun b n z=>by subst z;rw[n]at mu;exact mu
 have hb:∀b,H b=none→b≠e:=fun b n z=>by
  subst z
  rcases he with r|r
  . exact hx b n r
  . rw[n]at r;cases r
 have hm:∀b u,H b=some u→¬Mut (some u)→b≠x:=fun b u q nm z=>by subst z;rw[q]at mu;exact nm mu
 refine⟨fun b u q n _ _=>k b u (hb b n) q,fun b u q n _ _=>⟨u.slots,k b u (hb b n) q⟩,fun b u q n _=>by rw[zS (hx b n)];exact n,fun b u q _=>?_,
  fun b xs q=>by rw[zS (hm b _ q fun z=>z)];exact q,fun b u xs q=>by rw[zS (hm b _ q fun z=>z)];exact q,fun b ps q=>⟨#[],by rw[zS (hm b _ q fun z=>z),q];simp⟩⟩
 by_cases hbe:b=e
 . subst hbe;exact heo
 . exact⟨u,k b u hbe q⟩
end
noncomputable def trk(h:Heap)(H:Hp):List Addr:=(List.range h.objs.size).filter fun a=>(H a).isSome
noncomputable def pN(h:Heap)(H:Hp):Heap:=PySem.W.hideAll h (trk h H)
theorem k7(h:Heap)(H:Hp):(pN h H).objs.size=h.objs.size:=PySem.W.hideAll_size _ _
theorem hV{h:Heap}{H:Hp}{b:Addr}{o:Obj}(e:h.get? b=some o)(n:H b=none):(pN h H).get? b=some o:=
 PySem.W.hideAll_get _ e fun hm=>by
  have q:(H b).isSome=true:=(List.mem_filter.mp hm).2
  rw[n]at q;simp at q
theorem d7{h:Heap}{H:Hp}{b:Addr}{o:Obj}(e:(pN h H).get? b=some o):h.get? b=some o∧H b=none:=by
 have e':h.get? b=some o:=PySem.W.of_hideAll (trk h H) e
 refine⟨e',?_⟩
 cases q:H b with
 |none=>rfl
 |some x=>
  have hm:b∈trk h H:=List.mem_filter.mpr ⟨List.mem_range.mpr (Heap.lt_size e'),by simp[q]⟩
  have z:(pN h H).get? b=none:=PySem.W.hideAll_none (trk h H) hm
  rw[z]at e;cases e
end L2
namespace L2
open PySem PySem.Spec PyProof.Rows
structure Mod(K:PySem.W.Frag)(mg:Str→Option Value)(base:Heap):Prop where
 kin:K.In base
 glob:base.Ns mainGlobals mg
 blt:∃mb,base.Ns builtinsNs mb∧∀x:Str,x≠"__name__"→mb x=bootBuiltins x
 nolimit:base.NoLimit
structure Cx where
 prog:Program
 w:World
 K:PySem.W.Frag
 mg:Str→Option Value
 base:Heap
 A:Around
 N:List Str
 s₀:Shared
 H₀:Hp
 env:Env
 outer:List Env
 stack:List Env
 ex:List Addr
 fn:Str→Bool
 calm:Bool
 pn:List (Addr × Obj)
 xe:Value→Shared→Prop
noncomputable def frs(l:List Env):List Addr:=l.filterMap (·.frame)
noncomputable abbrev Cx.fs(X:Cx):List Addr:=frs X.outer
noncomputable def Vis(sc:Scope)(x:Str):Prop:=sc.names.lookup x=some .local∨sc.names.lookup x=some .cell∨sc.names.lookup x=some .free
noncomputable def Loc(sc:Scope)(x:Str):Prop:=sc.names.lookup x=some .local∨sc.names.lookup x=some .cell
noncomputable def Look(env:Env)(h:Heap)(m:Str→Option Value)(x:Str)(u:Value):Prop:=
 (env.kindOf x=some .local∧m x=some u)∨((env.kindOf x=some .cell∨env.kindOf x=some .free)∧∃c,env.cells.lookup x=some c∧h.IsCell c (some u))
structure Cx.Ok(X:Cx):Prop where
 mod:Mod X.K X.mg X.base
 kind:X.env.scope.kind=.function
 glob:X.env.globals=mainGlobals
 blt:X.env.builtins=builtinsNs
 above:X.s₀.heap.objs.size≤X.env.locals
 inj:∀x y c,X.env.cells.lookup x=some c→X.env.cells.lookup y=some c→x=y
 has:∀x,(X.env.kindOf x=some .cell∨X.env.kindOf x=some .free)→∃c,X.env.cells.lookup x=some c
 cab:∀x c,X.fn x=true→X.env.cells.lookup x=some c→X.s₀.heap.objs.size≤c
 hd:X.calm=true→X.A.handled=none
 frames:X.A.frames=some X.stack
 stk:X.stack=X.outer∨(X.stack=X.env::X.outer∧X.env.frame=some X.env.locals)
 exf:∀b∈X.ex,b≠X.env.locals∧∀x c,X.env.cells.lookup x=some c→c≠b
 bs:∀b o,X.base.get? b=some o→X.s₀.heap.get? b=some o∧X.H₀ b=none
 bsz:X.base.objs.size≤X.s₀.heap.objs.size
 noex:∀b o,X.base.get? b=some o→b ∉ X.ex
 exfs:∀b∈X.ex,b ∉ X.fs
 sZ:X.s₀.heap.FunFrames X.base X.outer
 frf:∀b∈X.fs,X.H₀ b=none
structure Inv(X:Cx)(pins:List (Addr × Obj))(σ:List (Option V))(H:Hp)(s:Shared):Prop where
 ok:X.Ok
 os:s.os=X.s₀.os
 bare:AllBare s.gens
 base:Un X.fs X.ex X.H₀ H X.s₀.heap s.heap
 loc:∃m,s.heap.Ns X.env.locals m∧∀(i:Nat) (x:Str) (v:V),X.N[i]?=some x→σ[i]?=some (some v)→Vis X.env.scope x→∃u,RelV v u∧Look X.env s.heap m x u
 cell:∀x c,X.env.cells.lookup x=some c→∃v,s.heap.IsCell c v
 free:H X.env.locals=none
 freeC:∀x c,X.env.cells.lookup x=some c→H c=none
 pin:∀p∈X.pn++pins,s.heap.get? p.1=some p.2∧H p.1=none∧p.1≠X.env.locals∧p.1 ∉ X.fs∧∀v,p.2.data≠.cell v
 hok:HOk X.prog X.w H s.heap
 len:σ.length=X.N.length
section
variable {X:Cx}{pins:List (Addr × Obj)}{σ:List (Option V)}{H H':Hp}{s:Shared}{h':Heap}
theorem Cx.Ok.W2(ok:X.Ok){b:Addr}{o:Obj}(e:X.base.get? b=some o):b ∉ X.fs:=fun hb=>by
 have:=(ok.sZ.mem hb).1
 rw[e]at this;cases this
theorem Inv.bs(I:Inv X pins σ H s):∀b o,X.base.get? b=some o→s.heap.get? b=some o∧H b=none:=fun b o e=>
 ⟨I.base.keep b o (I.ok.bs b o e).1 (I.ok.bs b o e).2 (I.ok.W2 e) (I.ok.noex b o e),I.base.free b o (I.ok.bs b o e).1 (I.ok.bs b o e).2 (I.ok.noex b o e)⟩
theorem Inv.bk(I:Inv X pins σ H s):∀b o,X.base.get? b=some o→s.heap.get? b=some o:=fun b o e=>(I.bs b o e).1
theorem Inv.mod(I:Inv X pins σ H s):Mod X.K X.mg X.base:=I.ok.mod
theorem Inv.kIn(I:Inv X pins σ H s):X.K.In s.heap:=I.ok.mod.kin.keeps I.bk
theorem Inv.lt(I:Inv X pins σ H s):X.env.locals<s.heap.objs.size:=let ⟨_,hn,_⟩:=I.loc;hn.lt
theorem Inv.sz(I:Inv X pins σ H s):X.s₀.heap.objs.size≤s.heap.objs.size:=Nat.le_trans I.ok.above (Nat.le_of_lt I.lt)
theorem Inv.W3(I:Inv X pins σ H s){a:Addr}(h:s.heap.objs.size≤a):a ∉ X.fs:=fun hb=>by
 obtain⟨_,o,ho,_⟩:=I.ok.sZ.mem hb
 exact absurd (Nat.lt_of_lt_of_le (Heap.lt_size ho) (Nat.le_trans I.sz h)) (Nat.lt_irrefl _)
theorem Inv.cne(I:Inv X pins σ H s):∀x c,X.env.cells.lookup x=some c→c≠X.env.locals:=fun x c e z=>by
 obtain⟨v,o,ho,hd⟩:=I.cell x c e
 obtain⟨m,⟨o',es,ep,ho',hd',_⟩,_⟩:=I.loc
 rw[z,ho']at ho;cases ho;rw[hd']at hd;cases hd
theorem Inv.sZ(I:Inv X pins σ H s):s.heap.FunFrames X.base X.outer:=by
 have all:∀(l:List Env),(∀b∈frs l,b∈X.fs)→X.s₀.heap.FunFrames X.base l→s.heap.FunFrames X.base l:=by
  intro l
  induction l with
  |nil=>intro _ _;trivial
  |cons env r ih=>
   intro hs hl
   obtain⟨hk,⟨L,o,hf,hn,ho,hd⟩,hr⟩:=hl
   have hL:L∈X.fs:=hs L (by unfold frs;rw[List.filterMap_cons,hf];exact List.mem_cons_self)
   obtain⟨sl,e⟩:=I.base.slot L o ho (I.ok.frf L hL) hL fun z=>I.ok.exfs L z hL
   exact⟨hk,⟨L,_,hf,hn,e,hd⟩,ih (fun b hb=>hs b (by unfold frs;rw[List.filterMap_cons,hf];exact List.mem_cons_of_mem _ hb)) hr⟩
 exact all X.outer (fun _ hb=>hb) I.ok.sZ
theorem Inv.stack(I:Inv X pins σ H s):s.heap.FunFrames X.base X.stack:=by
 rcases I.ok.stk with e|⟨e,hf⟩
 . rw[e];exact I.sZ
 . rw[e]
   obtain⟨m,hn,_⟩:=I.loc
   refine .cons (by rw[I.ok.kind];decide) hf hn ?_ I.sZ
   exact Heap.get?_none_of_le (Nat.le_trans I.ok.bsz I.ok.above)
theorem Inv.m6(I:Inv X pins σ H s):∀b∈frs X.stack,b∈X.env.locals::X.fs:=fun b hb=>by
 rcases I.ok.stk with e|⟨e,hf⟩
 . rw[e]at hb;exact List.mem_cons_of_mem _ hb
 . rw[e]at hb
   unfold frs at hb
   rw[List.filterMap_cons,hf]at hb
   exact hb
theorem Inv.kZ(I:Inv X pins σ H s):∀b∈frs X.stack,H b=none:=fun b hb=>by
 rcases List.mem_cons.mp (I.m6 b hb) with e|hb
 . rw[e];exact I.free
 . obtain⟨_,o,ho,_⟩:=I.ok.sZ.mem hb
   exact I.base.free b o ho (I.ok.frf b hb) fun z=>I.ok.exfs b z hb
theorem Inv.step{g':Array GenState}{t':Nat}{d':Drawn}{ch:List Addr}(I:Inv X pins σ H s)
 (hch:∀b∈ch,(b∈X.ex∨X.s₀.heap.objs.size≤b)∧b≠X.env.locals∧(∀x c,X.env.cells.lookup x=some c→c≠b)∧∀p∈X.pn++pins,p.1≠b)
 (keep:∀b o,b≠X.env.locals→b ∉ X.fs→b ∉ ch→s.heap.get? b=some o→H b=none→h'.get? b=some o)
 (slot:∀b o,b≠X.env.locals→b∈X.fs→b ∉ ch→s.heap.get? b=some o→H b=none→∃sl,h'.get? b=some {o with slots:=sl}) (free:∀b o,b ∉ ch→s.heap.get? b=some o→H b=none→H' b=none)
 (there:∀b o,b ∉ ch→s.heap.get? b=some o→∃o',h'.get? b=some o')
 (rh:∀b xs,H b=some (.tup xs)→H' b=some (.tup xs)) (frzs:∀b o u,H b=some (.frz o u)→H' b=some (.frz o u)) (tbls:∀b ps,H b=some (.tbl ps)→∃more,H' b=some (.tbl (ps++more)))
 (ns:∀m,s.heap.Ns X.env.locals m→h'.Ns X.env.locals m) (hok:HOk X.prog X.w H' h') (hg:AllBare g') :
 Inv X pins σ H' {s with heap:=h',gens:=g',drawn:=d',toks:=t'}:=by
 have neL:∀b o,X.s₀.heap.get? b=some o→b≠X.env.locals:=fun b o e=>Nat.ne_of_lt (Nat.lt_of_lt_of_le (Heap.lt_size e) I.ok.above)
 have neC:∀b o,X.s₀.heap.get? b=some o→b ∉ X.ex→b ∉ ch:=fun b o e hx hb=>by
  rcases (hch b hb).1 with z|z
  . exact hx z
  . exact absurd (Nat.lt_of_lt_of_le (Heap.lt_size e) z) (Nat.lt_irrefl _)
 have cellK:∀x c,X.env.cells.lookup x=some c→∀v,s.heap.IsCell c v→h'.IsCell c v:=fun x c e v ⟨o,ho,hd⟩=>by
  have nch:c ∉ ch:=fun z=>(hch c z).2.2.1 x c e rfl
  by_cases hc:c∈X.fs
  . obtain⟨sl,q⟩:=slot c o (I.cne x c e) hc nch ho (I.freeC x c e)
    exact⟨_,q,hd⟩
  . exact⟨o,keep c o (I.cne x c e) hc nch ho (I.freeC x c e),hd⟩
 refine⟨I.ok,I.os,hg,⟨fun b o e n hb hx=>?_,fun b o e n hb hx=>?_,fun b o e n hx=>?_,fun b o e hx=>?_,fun b xs e=>rh b xs (I.base.rh b xs e),fun b o xs e=>frzs b o xs (I.base.frzs b o xs e),fun b ps e=>?_⟩,?_,fun x c e=>?_,?_,fun x c e=>?_,fun p hp=>?_,hok,I.len⟩
 . exact keep b o (neL b o e) hb (neC b o e hx) (I.base.keep b o e n hb hx) (I.base.free b o e n hx)
 . obtain⟨sl,e1⟩:=I.base.slot b o e n hb hx
   obtain⟨sl',e2⟩:=slot b _ (neL b o e) hb (neC b o e hx) e1 (I.base.free b o e n hx)
   exact⟨sl',e2⟩
 . obtain⟨o',e1⟩:=I.base.there b o e hx
   exact free b o' (neC b o e hx) e1 (I.base.free b o e n hx)
 . obtain⟨o',e1⟩:=I.base.there b o e hx
   exact there b o' (neC b o e hx) e1
 . obtain⟨m1,e1⟩:=I.base.tbls b ps e
   obtain⟨m2,e2⟩:=tbls b _ e1
   exact⟨m1++m2,by rw[e2,Array.append_assoc]⟩
 . obtain⟨m,hn,hl⟩:=I.loc
   refine⟨m,ns m hn,fun i x v e1 e2 e3=>?_⟩
   obtain⟨u,r,l⟩:=hl i x v e1 e2 e3
   refine⟨u,r,?_⟩
   rcases l with l|⟨k,c,e,z⟩
   . exact .inl l
   . exact .inr ⟨k,c,e,cellK x c e _ z⟩
 . obtain⟨v,z⟩:=I.cell x c e
   exact⟨v,cellK x c e v z⟩
 . obtain⟨m,⟨o,_,_,ho,_⟩,_⟩:=I.loc
   exact free _ o (fun z=>(hch _ z).2.1 rfl) ho I.free
 . obtain⟨v,o,ho,hd⟩:=I.cell x c e
   exact free c o (fun z=>(hch c z).2.2.1 x c e rfl) ho (I.freeC x c e)
 . obtain⟨e,n,ne,nf,d⟩:=I.pin p hp
   have nch:p.1 ∉ ch:=fun z=>(hch p.1 z).2.2.2 p hp rfl
   exact⟨keep p.1 p.2 ne nf nch e n,free p.1 p.2 nch e n,ne,nf,d⟩
theorem Inv.un{t':Nat}(I:Inv X pins σ H s)(u:Un X.fs [] H H' s.heap h')(hok:HOk X.prog X.w H' h'):Inv X pins σ H' {s with heap:=h',toks:=t'}:=by
 obtain⟨m,⟨o,es,ep,ho,r⟩,_⟩:=id I.loc
 obtain⟨sl,hL⟩:=u.any ho I.free (by simp)
 exact I.step (g':=s.gens) (d':=s.drawn) (ch:=[]) (fun _ z=>nomatch z) (fun b o _ hb _ e n=>u.keep b o e n hb (by simp)) (fun b o _ hb _ e n=>u.slot b o e n hb (by simp)) (fun b o _ e n=>u.free b o e n (by simp)) (fun b o _ e=>u.there b o e (by simp)) u.rh u.frzs u.tbls (fun m' hm=>by
  obtain⟨o',es',ep',ho',r'⟩:=hm
  rw[ho]at ho';cases ho'
  exact⟨_,es',ep',hL,r'⟩) hok I.bare
theorem Inv.call{g':Array GenState}{t':Nat}{d':Drawn}{ch:List Addr}(I:Inv X pins σ H s)(u:Un (frs X.stack) ch H H' s.heap h')(hok:HOk X.prog X.w H' h')(hg:AllBare g')
 (hch:∀b∈ch,(b∈X.ex∨X.s₀.heap.objs.size≤b)∧b≠X.env.locals∧(∀x c,X.env.cells.lookup x=some c→c≠b)∧∀p∈X.pn++pins,p.1≠b) :
 Inv X pins σ H' {s with heap:=h',gens:=g',drawn:=d',toks:=t'}:=by
 obtain⟨m,⟨o,es,ep,ho,r⟩,_⟩:=id I.loc
 obtain⟨sl,hL⟩:=u.any ho I.free fun z=>(hch _ z).2.1 rfl
 exact I.step (ch:=ch) hch (fun b o hL hb hc e n=>u.keep b o e n (fun z=>(List.mem_cons.mp (I.m6 b z)).elim hL hb) hc) (fun b o _ _ hc e n=>u.any e n hc) (fun b o hc e n=>u.free b o e n hc) (fun b o hc e=>u.there b o e hc) u.rh u.frzs u.tbls (fun m' hm=>by
  obtain⟨o',es',ep',ho',r'⟩:=hm
  rw[ho]at ho';cases ho'
  exact⟨_,es',ep',hL,r'⟩) hok hg
theorem Inv.turned{t':Nat}{it:Addr}(I:Inv X pins σ H s)(k:∀b o,b≠it→s.heap.get? b=some o→h'.get? b=some o)(hn:H it=none)(hL:it≠X.env.locals)
 (h1:it∈X.ex∨X.s₀.heap.objs.size≤it) (h2:∀x c,X.env.cells.lookup x=some c→c≠it) (h3:∀p∈X.pn++pins,p.1≠it):Inv X pins σ H {s with heap:=h',toks:=t'}:=by
 have nit:∀b u,H b=some u→b≠it:=fun b u e z=>by rw[z,hn]at e;cases e
 refine I.step (g':=s.gens) (d':=s.drawn) (ch:=[it]) (fun b hb=>?_) (fun b o _ _ hc e _=>k b o (fun z=>hc (by simp[z])) e) (fun b o _ _ hc e _=>⟨o.slots,k b o (fun z=>hc (by simp[z])) e⟩) (fun _ _ _ _ n=>n)
  (fun b o hc e=>⟨o,k b o (fun z=>hc (by simp[z])) e⟩) (fun _ _ e=>e) (fun _ _ _ e=>e) (fun b ps e=>⟨#[],by rw[e];simp⟩) (fun m hm=>?_) (fun b u e=>?_) I.bare
 . have e:b=it:=by simpa using hb
   subst e
   exact⟨h1,hL,h2,h3⟩
 . obtain⟨o,es,ep,ho,r⟩:=hm
   exact⟨o,es,ep,k _ o (Ne.symm hL) ho,r⟩
 . refine(I.hok b u e).m5 (fun c v hc q=>k c v ?_ q) (fun _ q=>q) fun _ _ q=>q
   rcases hc with z|z
   . rw[z];exact nit b u e
   . exact nit c _ z
theorem Inv.tok(I:Inv X pins σ H s)(t:Nat):Inv X pins σ H {s with toks:=t}:=I.un (h':=s.heap) (t':=t) Un.refl I.hok
theorem Inv.kept{t':Nat}(I:Inv X pins σ H s)(k:∀b u,s.heap.get? b=some u→h'.get? b=some u):Inv X pins σ H {s with heap:=h',toks:=t'}:=I.un (Un.kept k) (I.hok.kept k)
theorem Inv.laid{a:Addr}{o:HO}{t':Nat}(I:Inv X pins σ H s)(k:∀b u,s.heap.get? b=some u→h'.get? b=some u)(hp:s.heap.objs.size≤a)(new:z5 X.prog X.w (upd H a o) h' a o) :
 Inv X pins σ (upd H a o) {s with heap:=h',toks:=t'}:=I.un (Un.laid k hp (I.hok.fresh hp)) (I.hok.laid k hp new)
theorem Inv.write{x e:Addr}{o:HO}{t':Nat}(I:Inv X pins σ H s)(mu:Mut (H x))(he:e=x∨H e=some (.own x))(k:∀b u,b≠e→s.heap.get? b=some u→h'.get? b=some u)(heo:∃u,h'.get? e=some u)
 (new:z5 X.prog X.w (upd H x o) h' x o):Inv X pins σ (upd H x o) {s with heap:=h',toks:=t'}:=I.un (Un.write mu he k heo) (I.hok.write mu he k heo new)
theorem Inv.kQ{pins':List (Addr × Obj)}(I:Inv X pins σ H s)(h:∀p∈pins',s.heap.get? p.1=some p.2∧H p.1=none∧p.1≠X.env.locals∧p.1 ∉ X.fs∧∀v,p.2.data≠.cell v):Inv X pins' σ H s:=
 ⟨I.ok,I.os,I.bare,I.base,I.loc,I.cell,I.free,I.freeC,fun p hp=>(List.mem_append.mp hp).elim (fun z=>I.pin p (List.mem_append_left _ z)) (h p),I.hok,I.len⟩
theorem oj{N:List Str}(hN:N.Nodup){i j:Nat}{x:Str}(a:N[i]?=some x)(b:N[j]?=some x):i=j:=by
 obtain⟨h1,e1⟩:=List.getElem?_eq_some_iff.mp a
 obtain⟨h2,e2⟩:=List.getElem?_eq_some_iff.mp b
 exact(List.getElem_inj hN).mp (e1.trans e2.symm)
theorem qm{M:Model}{A:Around}{E:Value→Shared→Prop}{i:Nat}{x:Str}{v:V}{u:Value}{Q:Unit→Shared→Prop}(I:Inv X pins σ H s)(hN:X.N.Nodup)(hi:X.N[i]?=some x)(hx:Loc X.env.scope x)(r:RelV v u)
 (h:∀s',Inv X pins (σ.set i (some v)) H s'→(∃a,Heap.SameBut a s.heap s'.heap∧(a=X.env.locals∨X.env.cells.lookup x=some a))→Q () s') (hf:X.fn x=true∨X.env.scope.names.lookup x=some .local:=by first|exact .inl rfl|exact .inr rfl|assumption):wpAny M A (storeName X.env x u) Q E s:=by
 obtain⟨m,hn,hl⟩:=id I.loc
 have hcls:(X.env.scope.kind == .class||(X.env.scope.kind == .module&&X.env.locals != X.env.globals))=false:=by rw[I.ok.kind];rfl
 have hiσ:i<σ.length:=by rw[I.len];exact(List.getElem?_eq_some_iff.mp hi).1
 have cne:=I.cne
 have tracked:∀{a:Addr} {h':Heap},(∃o,s.heap.get? a=some o∧H a=none)→Heap.SameBut a s.heap h'→HOk X.prog X.w H h':=fun{a h'} ha hs b ob e=>by
  obtain⟨_,_,hfree⟩:=ha
  refine(I.hok b ob e).m5 (fun c w' hc q=>(hs.2 c ?_).trans q) (fun _ q=>q) fun _ _ q=>q
  rintro rfl
  rcases hc with rfl|hc
  . rw[hfree]at e;cases e
  . rw[hfree]at hc;cases hc
 rcases hx with hk|hk
 . refine wpAny_storeName_local hk hn (fun h' hn' hs=>?_) hcls
   obtain⟨oL,_,_,hoL,_⟩:=id hn
   refine h _ ⟨I.ok,I.os,I.bare,⟨fun b o e n hb hx=>?_,fun b o e n hb hx=>?_,I.base.free,fun b o e hx=>?_,I.base.rh,I.base.frzs,I.base.tbls⟩,⟨_,hn',fun j y v' e1 e2 e3=>?_⟩,fun y c e=>?_,I.free,I.freeC,fun p hp=>?_,tracked ⟨oL,hoL,I.free⟩ hs,by simpa using I.len⟩ ⟨_,hs,.inl rfl⟩
   . exact(hs.2 b (Nat.ne_of_lt (Nat.lt_of_lt_of_le (Heap.lt_size e) I.ok.above))).trans (I.base.keep b o e n hb hx)
   . obtain⟨sl,e1⟩:=I.base.slot b o e n hb hx
     exact⟨sl,(hs.2 b (Nat.ne_of_lt (Nat.lt_of_lt_of_le (Heap.lt_size e) I.ok.above))).trans e1⟩
   . obtain⟨o',e1⟩:=I.base.there b o e hx
     exact⟨o',(hs.2 b (Nat.ne_of_lt (Nat.lt_of_lt_of_le (Heap.lt_size e) I.ok.above))).trans e1⟩
   . by_cases hj:j=i
     . subst hj
       rw[hi]at e1;cases e1
       rw[List.getElem?_set_self hiσ]at e2
       cases e2
       exact⟨u,r,.inl ⟨hk,by simp⟩⟩
     . rw[List.getElem?_set_ne (Ne.symm hj)]at e2
       obtain⟨u',r',q⟩:=hl j y v' e1 e2 e3
       refine⟨u',r',?_⟩
       rcases q with⟨k,e⟩|⟨k,c,e,z⟩
       . refine .inl ⟨k,?_⟩
         have:y≠x:=fun e=>hj (oj hN e1 (e▸hi))
         simp[this,e]
       . exact .inr ⟨k,c,e,z.sameBut hs (cne y c e)⟩
   . obtain⟨w',z⟩:=I.cell y c e
     exact⟨w',z.sameBut hs (cne y c e)⟩
   . obtain⟨e,n,ne,nf,d⟩:=I.pin p hp
     exact⟨(hs.2 p.1 ne).trans e,n,ne,nf,d⟩
 . have hfn:X.fn x=true:=by
    rcases hf with z|z
    . exact z
    . rw[z]at hk;cases hk
   obtain⟨c,hc⟩:=I.ok.has x (.inl hk)
   obtain⟨w',z⟩:=I.cell x c hc
   refine wpAny_storeName_cell I.ok.kind hk hc z (fun h' hc' hs=>?_)
   obtain⟨oc,hoc,hocd⟩:=id z
   refine h {s with heap:=h'} ⟨I.ok,I.os,I.bare,⟨fun b o e n hb hx=>?_,fun b o e n hb hx=>?_,I.base.free,fun b o e hx=>?_,I.base.rh,I.base.frzs,I.base.tbls⟩,⟨m,hn.sameBut hs (Ne.symm (cne x c hc)),fun j y v' e1 e2 e3=>?_⟩,fun y c' e=>?_,I.free,I.freeC,fun p hp=>?_,tracked ⟨oc,hoc,I.freeC x c hc⟩ hs,by simpa using I.len⟩ ⟨c,hs,.inr hc⟩
   . exact(hs.2 b (Nat.ne_of_lt (Nat.lt_of_lt_of_le (Heap.lt_size e) (I.ok.cab x c hfn hc)))).trans (I.base.keep b o e n hb hx)
   . obtain⟨sl,e1⟩:=I.base.slot b o e n hb hx
     exact⟨sl,(hs.2 b (Nat.ne_of_lt (Nat.lt_of_lt_of_le (Heap.lt_size e) (I.ok.cab x c hfn hc)))).trans e1⟩
   . obtain⟨o',e1⟩:=I.base.there b o e hx
     exact⟨o',(hs.2 b (Nat.ne_of_lt (Nat.lt_of_lt_of_le (Heap.lt_size e) (I.ok.cab x c hfn hc)))).trans e1⟩
   . by_cases hj:j=i
     . subst hj
       rw[hi]at e1;cases e1
       rw[List.getElem?_set_self hiσ]at e2
       cases e2
       exact⟨u,r,.inr ⟨.inl hk,c,hc,hc'⟩⟩
     . rw[List.getElem?_set_ne (Ne.symm hj)]at e2
       obtain⟨u',r',q⟩:=hl j y v' e1 e2 e3
       refine⟨u',r',?_⟩
       rcases q with q|⟨k,c',e,z'⟩
       . exact .inl q
       . refine .inr ⟨k,c',e,z'.sameBut hs ?_⟩
         rintro rfl
         exact hj (oj hN e1 (I.ok.inj _ _ _ e hc▸hi))
   . by_cases hcc:c'=c
     . subst hcc;exact⟨_,hc'⟩
     . obtain⟨w2,z2⟩:=I.cell y c' e
       exact⟨w2,z2.sameBut hs hcc⟩
   . obtain⟨e,n,ne,nf,d⟩:=I.pin p hp
     refine⟨(hs.2 p.1 ?_).trans e,n,ne,nf,d⟩
     intro q
     rw[q,hoc]at e
     have q':oc=p.2:=Option.some.inj e
     exact d w' (by rw[←q'];exact hocd)
theorem xn{M:Model}{A:Around}{E:Value→Shared→Prop}{i:Nat}{x:Str}{v:V}{u:Value}{Q:Unit→Shared→Prop}(I:Inv X pins σ H s)(hN:X.N.Nodup)(hi:X.N[i]?=some x)(hx:Loc X.env.scope x)(r:RelV v u)
 (h:∀s',Inv X pins (σ.set i (some v)) H s'→Q () s') (hf:X.fn x=true∨X.env.scope.names.lookup x=some .local:=by first|exact .inl rfl|exact .inr rfl|assumption):wpAny M A (storeName X.env x u) Q E s:=
 qm I hN hi hx r (fun s' I' _=>h s' I') hf
theorem Inv.Y4{s':Shared}{ch:List Addr}(I:Inv X pins σ H s)(ho:s'.os=s.os)(u:Un (frs X.stack) ch H H' s.heap s'.heap)(hok:HOk X.prog X.w H' s'.heap)(hg:AllBare s'.gens)
 (hch:∀b∈ch,(b∈X.ex∨X.s₀.heap.objs.size≤b)∧b≠X.env.locals∧(∀x c,X.env.cells.lookup x=some c→c≠b)∧∀p∈X.pn++pins,p.1≠b):Inv X pins σ H' s':=by
 obtain⟨h',g',d',t',o'⟩:=s'
 have e:o'=s.os:=ho
 subst e
 exact I.call (g':=g') (t':=t') (d':=d') u hok hg hch
end
noncomputable abbrev XK:=Value→Option Addr→Hp→Prop
noncomputable abbrev St:=List (Option V)
noncomputable abbrev VK:=V→Hp→Prop
noncomputable abbrev TE:=St→Hp→VK→Prop
noncomputable abbrev TT:=St→Hp→(Bool→Hp→Prop)→Prop
noncomputable abbrev TA:=St→Hp→(List V→Hp→Prop)→Prop
structure Ends where
 nx:St→Hp→Prop
 rt:VK
 bk:St→Hp→Prop:=fun _ _=>False
 ct:St→Hp→Prop:=fun _ _=>False
noncomputable abbrev TS:=Ends→St→Hp→Prop
noncomputable def EP(X:Cx)(pins:List (Addr × Obj))(σ:St)(Q:VK)(u:Value)(s':Shared):Prop:=∃v H',Inv X pins σ H' s'∧RelV v u∧Q v H'
noncomputable def TP(X:Cx)(pins:List (Addr × Obj))(σ:St)(Q:Bool→Hp→Prop)(b:Bool)(s':Shared):Prop:=∃H',Inv X pins σ H' s'∧Q b H'
noncomputable def AP(X:Cx)(pins:List (Addr × Obj))(σ:St)(Q:List V→Hp→Prop)(us:List Value)(s':Shared):Prop:=∃vs H',Inv X pins σ H' s'∧Vals vs us∧Q vs H'
noncomputable def SP(X:Cx)(pins:List (Addr × Obj))(D:Ends)(f:Flow)(s':Shared):Prop:=
 match f with
 |.next=>∃σ' H',Inv X pins σ' H' s'∧D.nx σ' H'
 |.brk=>∃σ' H',Inv X pins σ' H' s'∧D.bk σ' H'
 |.cont=>∃σ' H',Inv X pins σ' H' s'∧D.ct σ' H'
 |.ret u=>∃v σ' H',Inv X pins σ' H' s'∧RelV v u∧D.rt v H'
noncomputable def PE(X:Cx)(e:Expr)(t:TE):Prop:=
 ∀(pins:List (Addr × Obj)) (s:Shared) (σ:St) (H:Hp) (Q:VK),Inv X pins σ H s→t σ H Q→wpAny (model X.prog X.w) X.A (eval e X.env) (EP X pins σ Q) X.xe s
noncomputable def PT(X:Cx)(e:Expr)(t:TT):Prop:=
 ∀(pins:List (Addr × Obj)) (s:Shared) (σ:St) (H:Hp) (Q:Bool→Hp→Prop),Inv X pins σ H s→t σ H Q→wpAny (model X.prog X.w) X.A (isTrue e X.env (eval e X.env)) (TP X pins σ Q) X.xe s
noncomputable def PW(X:Cx)(e:Expr)(t:TT):Prop:=
 ∀(whole:Sem Value) (pins:List (Addr × Obj)) (s:Shared) (σ:St) (H:Hp) (Q:Bool→Hp→Prop),Inv X pins σ H s→t σ H Q→wpAny (model X.prog X.w) X.A (isTrue e X.env whole) (TP X pins σ Q) X.xe s
theorem PW.pt{X:Cx}{e:Expr}{t:TT}(h:PW X e t):PT X e t:=h _
noncomputable def PA(X:Cx)(es:List Expr)(t:TA):Prop:=
 ∀(pos:Pos) (pins:List (Addr × Obj)) (s:Shared) (σ:St) (H:Hp) (Q:List V→Hp→Prop),Inv X pins σ H s→t σ H Q→wpAny (model X.prog X.w) X.A (spliced (backTo pos (starEach es X.env))) (AP X pins σ Q) X.xe s
noncomputable def PS(X:Cx)(st:Stmt)(t:TS):Prop:=
 ∀(pins:List (Addr × Obj)) (s:Shared) (σ:St) (H:Hp) (D:Ends),Inv X pins σ H s→t D σ H→wpAny (model X.prog X.w) X.A (exec st X.env) (SP X pins D) X.xe s
noncomputable def PSs(X:Cx)(st:List Stmt)(t:TS):Prop:=
 ∀(pins:List (Addr × Obj)) (s:Shared) (σ:St) (H:Hp) (D:Ends),Inv X pins σ H s→t D σ H→wpAny (model X.prog X.w) X.A (execs st X.env) (SP X pins D) X.xe s
theorem thn{α:Type}{t:Sem α}{Q Q':α→Shared→Prop}{M:Model}{A:Around}{E:Value→Shared→Prop}{s:Shared}(h:wpAny M A t Q E s)(hQ:∀a s,Q a s→Q' a s):wpAny M A t Q' E s:=wpAny_mono h hQ fun _ _ x=>x
end L2
namespace L2
open PySem PySem.Spec PyProof.Rows
section
variable {X:Cx}
theorem bin{a b:Expr}{ta tb:TE}(ha:PE X a ta)(hb:PE X b tb){pins:List (Addr × Obj)}{s:Shared}{σ:St}{H:Hp}{R:V→V→Hp→Prop}(I:Inv X pins σ H s)(h:ta σ H fun x H1=>tb σ H1 fun y H2=>R x y H2)
 {α:Type} {Q:α→Shared→Prop} {f:Value→Value→Sem α}
 (hf:∀v u s2 x y H2,Inv X pins σ H2 s2→RelV x v→RelV y u→R x y H2→wpAny (model X.prog X.w) X.A (f v u) Q X.xe s2) :
 wpAny (model X.prog X.w) X.A (eval a X.env) (fun v s₁=>wpAny (model X.prog X.w) X.A (eval b X.env) (fun u s₂=>wpAny (model X.prog X.w) X.A (f v u) Q X.xe s₂) X.xe s₁) X.xe s:=by
 refine thn (ha pins s σ H _ I h) fun v s1 ⟨x,H1,I1,r1,q1⟩=>?_
 refine thn (hb pins s1 σ H1 _ I1 q1) fun u s2 ⟨y,H2,I2,r2,q2⟩=>?_
 exact hf v u s2 x y H2 I2 r1 r2 q2
noncomputable def VR(i:Nat):TE:=fun σ H Q=>∃v,σ[i]?=some (some v)∧Q v H
noncomputable def tC(v:V):TE:=fun _ H Q=>Q v H
theorem YM{i:Nat}{x:Str}{pos:Pos}(hN:X.N[i]?=some x)(hv:Vis X.env.scope x)(hd:(x == ("__debug__":Str))=false:=by decide)(hcd:(x == ("__classdict__":Str))=false:=by decide):PE X (.Name x pos) (VR i):=by
 intro pins s σ H Q I h
 obtain⟨v,e,h⟩:=h
 obtain⟨m,hn,hl⟩:=I.loc
 obtain⟨u,r,l⟩:=hl i x v hN e hv
 have fin:EP X pins σ Q u s:=⟨v,H,I,r,h⟩
 rcases l with⟨hk,hm⟩|⟨hk,c,hc,hcell⟩
 . exact wpAny_Name (wpAny_loadName_local I.ok.kind hk hn hm fin) hd
 . rcases hk with hk|hk
   . exact wpAny_Name (wpAny_loadName_cell I.ok.kind hk hc hcell fin) hd
   . exact wpAny_Name (wpAny_loadName_free I.ok.kind hk hc hcell fin hcd) hd
theorem YG{i j pos}:PE X (.Constant (.int i) j pos) (tC (.int i)):=fun _ _ _ H _ I h=>wpAny_Constant_int ⟨.int i,H,I.tok _,⟨_,rfl⟩,h⟩
theorem X6{b j pos}:PE X (.Constant (.bool b) j pos) (tC (.bl b)):=fun _ _ _ H _ I h=>Constant_bool ⟨.bl b,H,I,rfl,h⟩
theorem YI{j pos}:PE X (.Constant .none j pos) (tC .non):=fun _ _ _ H _ I h=>Constant_none ⟨.non,H,I,rfl,h⟩
theorem YK{x j pos}:PE X (.Constant (.str x) j pos) (tC (.str x)):=fun _ _ _ H _ I h=>Calls.Constant_str ⟨.str x,H,I.tok _,⟨_,rfl⟩,h⟩
noncomputable def Gl(X:Cx)(x:Str):Prop:=X.env.kindOf x=some .globalImplicit
theorem pS{E:Value→Shared→Prop}{pins:List (Addr × Obj)}{s:Shared}{σ:St}{H:Hp}{x:Str}{u:Value}{pos:Pos}{Q:Value→Shared→Prop}(I:Inv X pins σ H s)(hg:Gl X x)(hm:X.mg x=some u)(h:Q u s)
 (hd:(x == ("__debug__":Str))=false:=by decide):wpAny (model X.prog X.w) X.A (eval (.Name x pos) X.env) Q E s:=
 Calls.Name_function_global I.ok.kind hg (Calls.loadGlobal_global (by rw[I.ok.glob];exact I.mod.glob.keeps I.bk) hm h) hd
theorem u6{E:Value→Shared→Prop}{pins:List (Addr × Obj)}{s:Shared}{σ:St}{H:Hp}{x:Str}{u:Value}{pos:Pos}{Q:Value→Shared→Prop}(I:Inv X pins σ H s)(hg:Gl X x)(hm:X.mg x=none)(hv:bootBuiltins x=some u)(h:Q u s)
 (hn:x≠"__name__":=by decide) (hd:(x == ("__debug__":Str))=false:=by decide):wpAny (model X.prog X.w) X.A (eval (.Name x pos) X.env) Q E s:=by
 obtain⟨mb,h1,h2⟩:=I.mod.blt
 exact Calls.Name_function_global I.ok.kind hg (Calls.loadGlobal_builtin (by rw[I.ok.glob];exact I.mod.glob.keeps I.bk) hm (by rw[I.ok.blt];exact h1.keeps I.bk) ((h2 x hn).trans hv) h) hd
theorem cZ{x:Str}{v:V}{u:Value}{pos:Pos}(hg:Gl X x)(hm:X.mg x=some u)(r:RelV v u)(hd:(x == ("__debug__":Str))=false:=by decide):PE X (.Name x pos) (tC v):=
 fun _ _ _ H _ I h=>pS I hg hm ⟨v,H,I,r,h⟩ hd
theorem cV{x:Str}{v:V}{u:Value}{pos:Pos}(hg:Gl X x)(hm:X.mg x=none)(hv:bootBuiltins x=some u)(r:RelV v u)(hn:x≠"__name__":=by decide)(hd:(x == ("__debug__":Str))=false:=by decide):PE X (.Name x pos) (tC v):=
 fun _ _ _ H _ I h=>u6 I hg hm hv ⟨v,H,I,r,h⟩ hn hd
variable {a b:Expr}{ta tb:TE}{pos:Pos}
variable {tA tB':TT}{rest:List Expr}
noncomputable def VL(t:TT):TT:=fun σ H Q=>t σ H fun c H1=>Q (!c) H1
theorem YU(ha:PT X a tA):PT X (.UnaryOp .Not a pos) (VL tA):=by
 intro pins s σ H Q I h
 exact isTrue_not (ha pins s σ H (fun c H1=>Q (!c) H1) I h)
noncomputable def Wa(ta tb:TE):TE:=fun σ H Q=>ta σ H fun x H1=>∃c,x=.bl c∧if c=true then tb σ H1 Q else Q (.bl false) H1
noncomputable def VM(ta tb:TE):TE:=fun σ H Q=>ta σ H fun x H1=>∃c,x=.bl c∧if c=true then Q (.bl true) H1 else tb σ H1 Q
noncomputable def Wd(ta:TE):TE:=fun σ H Q=>ta σ H fun x H1=>∃c,x=.bl c∧Q (.bl (!c)) H1
theorem mZ{op}{t:TE}(h:PE X a t):PE X (.BoolOp op [a] pos) t:=fun pins s σ H Q I hw=>BoolOp_one (h pins s σ H Q I hw)
theorem YF(ha:PE X a ta)(hb:PE X (.BoolOp .And (b::rest) pos) tb):PE X (.BoolOp .And (a::b::rest) pos) (Wa ta tb):=by
 intro pins s σ H Q I h
 refine BoolOp_and (thn (ha pins s σ H _ I h) fun v s1 ⟨x,H1,I1,r1,q1⟩=>?_)
 obtain⟨c,rfl,q1⟩:=q1
 cases r1
 refine wpAny_truthy_bool ?_
 cases c with
 |true=>exact hb pins s1 σ H1 Q I1 q1
 |false=>exact⟨.bl false,H1,I1,rfl,q1⟩
theorem WA(ha:PE X a ta)(hb:PE X (.BoolOp .Or (b::rest) pos) tb):PE X (.BoolOp .Or (a::b::rest) pos) (VM ta tb):=by
 intro pins s σ H Q I h
 refine BoolOp_or (thn (ha pins s σ H _ I h) fun v s1 ⟨x,H1,I1,r1,q1⟩=>?_)
 obtain⟨c,rfl,q1⟩:=q1
 cases r1
 refine wpAny_truthy_bool ?_
 cases c with
 |false=>exact hb pins s1 σ H1 Q I1 q1
 |true=>exact⟨.bl true,H1,I1,rfl,q1⟩
theorem YJ(ha:PE X a ta):PE X (.UnaryOp .Not a pos) (Wd ta):=by
 intro pins s σ H Q I h
 refine UnaryOp_ (thn (ha pins s σ H _ I h) fun v s1 ⟨x,H1,I1,r1,q1⟩=>?_)
 obtain⟨c,rfl,q1⟩:=q1
 cases r1
 exact not_of (wpAny_truthy_bool ⟨.bl (!c),H1,I1,rfl,q1⟩)
end
end L2
namespace L2
open PySem PySem.Spec PyProof.Rows
noncomputable def SqL(K:PySem.W.Frag)(H:Hp)(a:Addr)(xs:List V):Prop:=
 Rd H a (.lst xs) ∨
  ∃(o:Obj) (its:Array Value) (n:Nat),K.lookup a=some o∧o.cls=.type "list"∧o.dict=none∧o.data=.seq its n∧its.size≤sizeLine∧Vals xs its.toList
noncomputable def SqT(K:PySem.W.Frag)(H:Hp)(a:Addr)(xs:List V):Prop:=
 Rd H a (.tup xs) ∨
  ∃(o:Obj) (its:Array Value) (n:Nat),K.lookup a=some o∧o.cls=.type "tuple"∧o.data=.seq its n∧its.size≤sizeLine∧Vals xs its.toList
noncomputable def Ws:Value→Option V
 |.none=>some .non
 |.bool b=>some (.bl b)
 |.int i _=>some (.int i)
 |.str x _=>some (.str x)
 |.bytes b _=>some (.byt b)
 |.float b _=>some (.flt b)
 |.ref a=>some (.ref a)
 |.type n=>some (.ty n)
 |_=>none
theorem RelV.abs{x:V}{u:Value}(r:RelV x u):Ws u=some x:=by
 cases x with
 |non=>cases r;rfl
 |bl _=>cases r;rfl
 |int _=>obtain⟨t,rfl⟩:=r;rfl
 |str _=>obtain⟨t,rfl⟩:=r;rfl
 |byt _=>obtain⟨t,rfl⟩:=r;rfl
 |flt _=>obtain⟨t,rfl⟩:=r;rfl
 |ref _=>cases r;rfl
 |ty _=>cases r;rfl
theorem RelV.inj{x y:V}{u:Value}(r:RelV x u)(q:RelV y u):x=y:=Option.some.inj (r.abs.symm.trans q.abs)
theorem Vals.inj:∀{xs ys:List V} {us:List Value},Vals xs us→Vals ys us→xs=ys
 |_,_,_,.nil,.nil=>rfl
 |_,_,_,.cons r t,.cons r' t'=>by rw[r.inj r',Vals.inj t t']
section
variable {X:Cx}{pins:List (Addr × Obj)}{σ:St}{H:Hp}{s:Shared}{a:Addr}{xs ys:List V}
theorem SqL.of{K:PySem.W.Frag}(h:H a=some (.lst xs)):SqL K H a xs:=.inl (.inl h)
theorem SqT.of{K:PySem.W.Frag}(h:H a=some (.tup xs)):SqT K H a xs:=.inl (.inl h)
theorem Inv.list(I:Inv X pins σ H s)(h:SqL X.K H a xs):∃its:List Value,Vals xs its∧PlainL s.heap a its.toArray∧xs.length≤sizeLine:=by
 rcases h with h|⟨o,its,n,hk,hc,hd,hs,hz,r⟩
 . obtain⟨z,its,n,r,e⟩:=h.ok I.hok
   exact⟨its,r,⟨_,n,e,rfl,rfl,rfl⟩,z⟩
 . refine⟨its.toList,r,⟨o,n,I.kIn a o hk,hc,hd,by simpa using hs⟩,?_⟩
   have e:=r.length
   simp only[Array.length_toList]at e
   omega
theorem Inv.tuple(I:Inv X pins σ H s)(h:SqT X.K H a xs):∃its:List Value,Vals xs its∧IsTup s.heap a its.toArray∧xs.length≤sizeLine:=by
 rcases h with h|⟨o,its,n,hk,hc,hs,hz,r⟩
 . obtain⟨z,its,r,p⟩:=h.ok I.hok
   exact⟨its,r,p.tup,z⟩
 . refine⟨its.toList,r,⟨o,I.kIn a o hk,hc,n,by simpa using hs⟩,?_⟩
   have e:=r.length
   simp only[Array.length_toList]at e
   omega
theorem Inv.oZ(I:Inv X pins σ H s)(h:SqL X.K H a xs)(h':SqL X.K H a ys):xs=ys:=by
 obtain⟨its,r,⟨o,n,e,_,_,d⟩,_⟩:=I.list h
 obtain⟨its',r',⟨o',n',e',_,_,d'⟩,_⟩:=I.list h'
 rw[e]at e';cases e'
 rw[d]at d'
 injection d' with d1 _
 have:its=its':=by simpa using congrArg Array.toList d1
 subst this
 exact r.inj r'
theorem Inv.qr(I:Inv X pins σ H s)(h:SqT X.K H a xs)(h':SqT X.K H a ys):xs=ys:=by
 obtain⟨its,r,⟨o,e,_,n,d⟩,_⟩:=I.tuple h
 obtain⟨its',r',⟨o',e',_,n',d'⟩,_⟩:=I.tuple h'
 rw[e]at e';cases e'
 rw[d]at d'
 injection d' with d1 _
 have:its=its':=by simpa using congrArg Array.toList d1
 subst this
 exact r.inj r'
end
noncomputable abbrev Cx.qB(X:Cx)(E:Value→Shared→Prop):Cx:={X with xe:=E}
noncomputable abbrev Cx.nox(X:Cx):Cx:=X.qB fun _ _=>False
theorem Cx.Ok.qB{X:Cx}(ok:X.Ok)(E:Value→Shared→Prop):(X.qB E).Ok:=
 ⟨ok.mod,ok.kind,ok.glob,ok.blt,ok.above,ok.inj,ok.has,ok.cab,ok.hd,ok.frames,ok.stk,ok.exf,ok.bs,ok.bsz,ok.noex,ok.exfs,ok.sZ,ok.frf⟩
theorem Cx.Ok.vX{X:Cx}{E:Value→Shared→Prop}(ok:(X.qB E).Ok):X.Ok:=
 ⟨ok.mod,ok.kind,ok.glob,ok.blt,ok.above,ok.inj,ok.has,ok.cab,ok.hd,ok.frames,ok.stk,ok.exf,ok.bs,ok.bsz,ok.noex,ok.exfs,ok.sZ,ok.frf⟩
section
variable {X:Cx}{pins:List (Addr × Obj)}{σ:St}{H:Hp}{s:Shared}{E:Value→Shared→Prop}
theorem Inv.qB(I:Inv X pins σ H s)(E:Value→Shared→Prop):Inv (X.qB E) pins σ H s:=⟨I.ok.qB E,I.os,I.bare,I.base,I.loc,I.cell,I.free,I.freeC,I.pin,I.hok,I.len⟩
theorem Inv.vX(I:Inv (X.qB E) pins σ H s):Inv X pins σ H s:=⟨I.ok.vX,I.os,I.bare,I.base,I.loc,I.cell,I.free,I.freeC,I.pin,I.hok,I.len⟩
theorem SP.vX{D:Ends}{f:Flow}{s':Shared}(h:SP (X.qB E) pins D f s'):SP X pins D f s':=by
 cases f with
 |next=>obtain⟨σ',H',I,q⟩:=h;exact⟨σ',H',I.vX,q⟩
 |brk=>obtain⟨σ',H',I,q⟩:=h;exact⟨σ',H',I.vX,q⟩
 |cont=>obtain⟨σ',H',I,q⟩:=h;exact⟨σ',H',I.vX,q⟩
 |ret u=>obtain⟨v,σ',H',I,r,q⟩:=h;exact⟨v,σ',H',I.vX,r,q⟩
theorem PSs.nox{st:List Stmt}{t:TS}(h:PSs X.nox st t):PSs X st t:=fun pins s σ H D I hw=>
 wpAny_mono (h pins s σ H D (I.qB _) hw) (fun _ _ q=>q.vX) fun _ _ z=>False.elim z
end
section
variable {X:Cx}{st:Stmt}{rest:List Stmt}{t u:TS}{e:Expr}{te:TE}{pos:Pos}
noncomputable def Wc:TS:=fun D σ H=>D.nx σ H
noncomputable def VO(t u:TS):TS:=fun D σ H=>t {D with nx:=u D} σ H
theorem cy:PSs X [] Wc:=fun _ _ σ H _ I h=>wpAny_execs_nil ⟨σ,H,I,h⟩
theorem fV(h1:PS X st t)(h2:PSs X rest u):PSs X (st::rest) (VO t u):=by
 intro pins s σ H D I h
 refine wpAny_execs_cons (thn (h1 pins s σ H {D with nx:=u D} I h) fun f s1 q=>?_)
 cases f with
 |next=>
  obtain⟨σ',H',I',q⟩:=q
  exact h2 pins s1 σ' H' D I' q
 |ret v=>exact q
 |brk=>exact q
 |cont=>exact q
theorem Inv.quiet{pins:List (Addr × Obj)}{σ:St}{H:Hp}{s:Shared}(I:Inv X pins σ H s):interactive X.env=false:=by simp[interactive,I.ok.kind]
noncomputable def Wb(te:TE):TS:=fun D σ H=>te σ H fun _ H1=>D.nx σ H1
theorem cw(he:PE X e te)(hs:swapsWith e none pos.line X.env=pure false:=by rfl):PS X (.Expr e pos) (Wb te):=by
 intro pins s σ H D I h
 exact wpAny_Expr_any (thn (he pins s σ H _ I h) fun v s1 ⟨x,H1,I1,r1,q1⟩=>⟨σ,H1,I1,q1⟩) I.quiet hs
noncomputable def VN(te:TE):TS:=fun D σ H=>te σ H D.rt
theorem YT(he:PE X e te):PS X (.Return (some e) pos) (VN te):=by
 intro pins s σ H D I h
 exact wpAny_Return_some (thn (he pins s σ H _ I h) fun v s1 ⟨x,H1,I1,r1,q1⟩=>⟨x,σ,H1,I1,r1,q1⟩)
noncomputable def VI(c:TT)(t u:TS):TS:=fun D σ H=>c σ H fun b H1=>if b=true then t D σ H1 else u D σ H1
theorem WH{c:Expr}{a b:List Stmt}{tc:TT}(hc:PT X c tc)(ha:PSs X a t)(hb:PSs X b u):PS X (.If c a b pos) (VI tc t u):=by
 intro pins s σ H D I h
 refine wpAny_If (thn (hc pins s σ H _ I h) fun d s1 ⟨H1,I1,q1⟩=>?_)
 cases d with
 |true=>exact ha pins s1 σ H1 D I1 q1
 |false=>exact hb pins s1 σ H1 D I1 q1
end
noncomputable abbrev TG:=V→St→Hp→(St→Hp→Prop)→Prop
noncomputable abbrev TGs:=List V→St→Hp→(St→Hp→Prop)→Prop
noncomputable def PG(X:Cx)(target:Expr)(t:TG):Prop:=
 ∀(pins:List (Addr × Obj)) (s:Shared) (σ:St) (H:Hp) (v:V) (u:Value) (Q:St→Hp→Prop),Inv X pins σ H s→RelV v u→t v σ H Q →
  wpAny (model X.prog X.w) X.A (assign target X.env u) (fun _ s'=>∃σ' H',Inv X pins σ' H' s'∧Q σ' H') X.xe s
noncomputable def PGs(X:Cx)(ts:List Expr)(t:TGs):Prop:=
 ∀(pins:List (Addr × Obj)) (s:Shared) (σ:St) (H:Hp) (vs:List V) (us:List Value) (Q:St→Hp→Prop),Inv X pins σ H s→Vals vs us→t vs σ H Q →
  wpAny (model X.prog X.w) X.A (assignInOrder ((assignEach ts X.env).map (·.2)) us) (fun _ s'=>∃σ' H',Inv X pins σ' H' s'∧Q σ' H') X.xe s
noncomputable abbrev aS:=V→V→V→Hp→(Hp→Prop)→Prop
noncomputable def Yy(X:Cx)(t:aS):Prop:=
 ∀(pins:List (Addr × Obj)) (s:Shared) (σ:St) (H:Hp) (o i v:V) (ov iv u:Value) (Q:Hp→Prop),Inv X pins σ H s→RelV o ov→RelV i iv→RelV v u→t o i v H Q →
  wpAny (model X.prog X.w) X.A (setItem ov iv u) (fun _ s'=>∃H',Inv X pins σ H' s'∧Q H') X.xe s
noncomputable abbrev TIp:=V→V→Hp→VK→Prop
noncomputable def PIp(X:Cx)(op:Operator)(t:TIp):Prop:=
 ∀(pins:List (Addr × Obj)) (s:Shared) (σ:St) (H:Hp) (x y:V) (v u:Value) (Q:VK),Inv X pins σ H s→RelV x v→RelV y u→t x y H Q →
  wpAny (model X.prog X.w) X.A (inplaceOp op v u) (EP X pins σ Q) X.xe s
section
variable {X:Cx}{pos:Pos}
noncomputable def uS(i:Nat):TG:=fun v σ H Q=>Q (σ.set i (some v)) H
theorem cb{i:Nat}{x:Str}(hN:X.N.Nodup)(hi:X.N[i]?=some x)(hx:Loc X.env.scope x)(hf:X.fn x=true∨X.env.scope.names.lookup x=some .local:=by first|exact .inl rfl|exact .inr rfl|assumption):PG X (.Name x pos) (uS i):=by
 intro pins s σ H v u Q I r h
 exact wpAny_assign_Name (xn I hN hi hx r (fun s' I'=>⟨_,H,I',h⟩) hf)
noncomputable def Y9:TGs:=fun vs σ H Q=>vs=[]∧Q σ H
noncomputable def bu(t:TG)(u:TGs):TGs:=fun vs σ H Q=>∃v r,vs=v::r∧t v σ H fun σ' H'=>u r σ' H' Q
theorem cg:PGs X [] Y9:=by
 intro pins s σ H vs us Q I r h
 obtain⟨e,h⟩:=h
 subst e
 cases r
 exact assignInOrder_nil ⟨σ,H,I,h⟩
theorem fL{e:Expr}{es:List Expr}{t:TG}{u:TGs}(h1:PG X e t)(h2:PGs X es u)
 (hs:(assignEach (e::es) X.env).map (·.2)=assign e X.env::(assignEach es X.env).map (·.2):=by rfl):PGs X (e::es) (bu t u):=by
 intro pins s σ H vs us Q I r h
 obtain⟨v,vr,e1,h⟩:=h
 subst e1
 cases r with
 |cons r rr=>
  rw[hs]
  refine assignInOrder_cons (thn (h1 pins s σ H _ _ _ I r h) fun _ s1 ⟨σ1,H1,I1,q1⟩=>?_)
  exact h2 pins s1 σ1 H1 _ _ Q I1 rr q1
noncomputable def XB(K:PySem.W.Frag)(n:Nat)(t:TGs):TG:=fun v σ H Q=>∃a xs,v=.ref a∧SqT K H a xs∧xs.length=n∧t xs σ H Q
theorem rQ{es:List Expr}{k:Nat}{t:TGs}{n:Nat}(hc:X.calm=true)(h:PGs X es t)
 (hn:(assignEach es X.env).length=n:=by rfl) (hst:(assignEach es X.env).findIdx? (·.1)=none:=by rfl):PG X (.Tuple es k pos) (XB X.K n t):=by
 intro pins s σ H v u Q I r hw
 obtain⟨a,xs,e1,hq,hl,hw⟩:=hw
 subst e1
 cases r
 obtain⟨its,rv,ht,hz⟩:=I.tuple hq
 refine assign_Tuple_tuple (I.ok.hd hc) ht (by simp[hn,←hl,rv.length]) hst fun h' hx=>?_
 have I1:Inv X pins σ H {s with heap:=h'}:=I.kept (t':=s.toks) fun b o e=>hx b o (Nat.ne_of_lt (Heap.lt_size e)) e
 exact h pins _ σ H xs _ Q I1 (by simpa using rv) hw
noncomputable def XA(to ti:TE)(t:aS):TG:=fun v σ H Q=>to σ H fun o H1=>ti σ H1 fun i H2=>t o i v H2 fun H3=>Q σ H3
theorem YN{o i:Expr}{to ti:TE}{t:aS}(ho:PE X o to)(hi:PE X i ti)(hs:Yy X t)
 (ha:∀v,assign (.Subscript o i pos) X.env v=(do
  let ov ←holding [v] (eval o X.env)
  let iv ←holding [v,ov] (eval i X.env)
  standAt pos
  holding [v,ov,iv] (setItem ov iv v)
  release [v,ov,iv] []):=by intro _;rfl):PG X (.Subscript o i pos) (XA to ti t):=by
 intro pins s σ H v u Q I r h
 rw[ha]
 refine wpAny_bind (wpAny_holding (thn (ho pins s σ H _ I h) fun ov s1 ⟨x,H1,I1,r1,q1⟩=>?_))
 refine wpAny_bind (wpAny_holding (thn (hi pins s1 σ H1 _ I1 q1) fun iv s2 ⟨y,H2,I2,r2,q2⟩=>?_))
 refine wpAny_bind (wpAny_standAt (wpAny_bind (wpAny_holding (thn (hs pins s2 σ H2 x y v ov iv u _ I2 r1 r2 r q2) fun _ s3 ⟨H3,I3,q3⟩=>?_))))
 exact wpAny_release ⟨σ,H3,I3,q3⟩
noncomputable def nS(te:TE)(g:TG):TS:=fun D σ H=>te σ H fun x H1=>g x σ H1 D.nx
theorem mh{tg e:Expr}{te:TE}{g:TG}(he:PE X e te)(hg:PG X tg g)(hs:swapsWithSole [tg] e pos.line X.env=pure false:=by rfl)(hw:swappedStores [tg] e X.env=pure none:=by rfl)
 (h1:(assignEach [tg] X.env).map (·.2)=[assign tg X.env]:=by rfl):PS X (.Assign [tg] e pos) (nS te g):=by
 intro pins s σ H D I h
 refine wpAny_Assign_stores (thn (he pins s σ H _ I h) fun v s1 ⟨x,H1,I1,r1,q1⟩=>?_) hs hw
 rw[h1]
 exact thn (hg pins s1 σ H1 x v _ I1 r1 q1) fun _ s2 q=>q
theorem fU{i:Nat}{x:Str}{e:Expr}{te:TE}{pos':Pos}(hN:X.N.Nodup)(hi:X.N[i]?=some x)(hx:Loc X.env.scope x)(he:PE X e te)(hs:swapsWith e (some (.Name x pos')) pos.line X.env=pure false:=by rfl)(hf:X.fn x=true∨X.env.scope.names.lookup x=some .local:=by first|exact .inl rfl|exact .inr rfl|assumption) :
 PS X (.Assign [.Name x pos'] e pos) (nS te (uS i)):=by
 intro pins s σ H D I h
 refine wpAny_Assign_Name (thn (he pins s σ H _ I h) fun v s1 ⟨y,H1,I1,r1,q1⟩=>?_) hs
 exact xn I1 hN hi hx r1 (fun s2 I2=>⟨_,H1,I2,q1⟩) hf
noncomputable def Wf(i j:Nat)(ta:TA):TS:=fun D σ H=>ta σ H fun vs H1=>∃v w,vs=[v,w]∧D.nx ((σ.set i (some v)).set j (some w)) H1
theorem YS{i j:Nat}{x y:Str}{a b:Expr}{ta:TA}{px py pt:Pos}{kt k2 pt2}(hc:X.calm=true)(hN:X.N.Nodup)(hi:X.N[i]?=some x)(hj:X.N[j]?=some y)(hij:i≠j)
 (hx:X.env.scope.names.lookup x=some .local) (hy:X.env.scope.names.lookup y=some .local) (ha:PA X [a,b] ta)
 (hw:swappedStores [.Tuple [.Name x px,.Name y py] kt pt] (.Tuple [a,b] k2 pt2) X.env=pure (some [x,y]))
 (hs:swapsWithSole [.Tuple [.Name x px,.Name y py] kt pt] (.Tuple [a,b] k2 pt2) pos.line X.env=pure false:=by rfl) :
 PS X (.Assign [.Tuple [.Name x px,.Name y py] kt pt] (.Tuple [a,b] k2 pt2) pos) (Wf i j ta):=by
 intro pins s σ H D I h
 rw[exec_Assign_arm]
 refine wpAny_bind (wpAny_standAt ?_)
 rw[hs]
 refine wpAny_bind (wpAny_pure ?_)
 rw[if_neg (by decide)]
 refine wpAny_bind (Tuple_ (thn (ha _ pins s σ H _ I h) fun us s1 ⟨vs,H1,I1,r1,q1⟩=>?_))
 obtain⟨v,w,e1,q1⟩:=q1
 subst e1
 obtain⟨u1,u2,rfl,rv,rw'⟩:∃u1 u2,us=[u1,u2]∧RelV v u1∧RelV w u2:=by
  cases r1 with
  |cons p q=>
   cases q with
   |cons p' q'=>
    cases q'
    exact⟨_,_,rfl,p,p'⟩
 refine wpAny_newObj_type ?_ (by show 2≤sizeLine;decide)
 have I2:Inv X pins σ H1 {s1 with heap:=s1.heap.push {cls:=.type "tuple",data:=.seq [u1,u2].toArray}}:=I1.kept (t':=s1.toks) fun b o e=>Heap.get?_push_of_some _ e
 rw[hw]
 refine wpAny_bind (wpAny_pure ?_)
 show wpAny (model X.prog X.w) X.A (do rule "assign.swapped-stores";let items ←unpackItems (.ref s1.heap.objs.size) 2 none;assignInOrder [fun v=>bindName X.env y v,fun v=>bindName X.env x v] items.reverse;pure Flow.next) _ _ _
 refine wpAny_bind (wpAny_rule (wpAny_bind (unpackItems_tuple (items:=#[u1,u2]) (I.ok.hd hc) (IsTup.new s1.heap _) fun h' hx'=>?_)))
 have I3:=I2.kept (h':=h') (t':=s1.toks) fun b o e=>hx' b o (Nat.ne_of_lt (Heap.lt_size e)) e
 show wpAny _ _ (assignInOrder [fun v=>bindName X.env y v,fun v=>bindName X.env x v] [u2,u1] >>= fun _=>pure Flow.next) _ _ _
 refine wpAny_bind (assignInOrder_cons (wpAny_bindName (xn I3 hN hj (.inl hy) rw' (fun s2 I4=>?_) (.inr hy))))
 refine assignInOrder_cons (wpAny_bindName (xn I4 hN hi (.inl hx) rv (fun s3 I5=>assignInOrder_nil (wpAny_pure ?_)) (.inr hx)))
 rw[List.set_comm _ _ (Ne.symm hij)]at I5
 exact⟨_,H1,I5,q1⟩
noncomputable def VF(i:Nat)(te:TE)(ti:TIp):TS:=fun D σ H=>∃x,σ[i]?=some (some x)∧te σ H fun y H1=>ti x y H1 fun z H2=>D.nx (σ.set i (some z)) H2
theorem YQ{i:Nat}{x:Str}{e:Expr}{te:TE}{op:Operator}{ti:TIp}{pos':Pos}(hN:X.N.Nodup)(hi:X.N[i]?=some x)(hx:Loc X.env.scope x)(he:PE X e te)(ho:PIp X op ti)(hf:X.fn x=true∨X.env.scope.names.lookup x=some .local:=by first|exact .inl rfl|exact .inr rfl|assumption) :
 PS X (.AugAssign (.Name x pos') op e pos) (VF i te ti):=by
 intro pins s σ H D I h
 obtain⟨v,e1,h⟩:=h
 obtain⟨m,hn,hl⟩:=I.loc
 have vis:Vis X.env.scope x:=by rcases hx with k|k;exact .inl k;exact .inr (.inl k)
 obtain⟨u,r,l⟩:=hl i x v hi e1 vis
 refine wpAny_AugAssign_Name ?_
 have go:wpAny (model X.prog X.w) X.A (eval e X.env) (fun w s₂=>wpAny (model X.prog X.w) X.A (inplaceOp op u w) (fun r s₃=>wpAny (model X.prog X.w) X.A (storeName X.env x r) (fun _=>SP X pins D .next) X.xe s₃) X.xe s₂) X.xe s:=by
  refine thn (he pins s σ H _ I h) fun w s1 ⟨y,H1,I1,r1,q1⟩=>?_
  refine thn (ho pins s1 σ H1 v y u w _ I1 r r1 q1) fun z s2 ⟨zv,H2,I2,r2,q2⟩=>?_
  exact xn I2 hN hi hx r2 (fun s3 I3=>⟨_,H2,I3,q2⟩) hf
 rcases l with⟨hk,hm⟩|⟨hk,c,hc,hcell⟩
 . exact wpAny_loadName_local I.ok.kind hk hn hm go
 . rcases hk with hk|hk
   . exact wpAny_loadName_cell I.ok.kind hk hc hcell go
   . rcases hx with k|k
     . have:X.env.scope.names.lookup x=some .free:=hk
       rw[k]at this;cases this
     . have:X.env.scope.names.lookup x=some .free:=hk
       rw[k]at this;cases this
end
structure It where
 go:Nat→Hp→Prop
 yld:Nat→Hp→V→Hp→Prop
 stop:Nat→Hp→Prop
noncomputable def vj(X:Cx)(pins:List (Addr × Obj))(H:Hp)(b:Addr):Prop:=
 H b=none∧b≠X.env.locals∧b ∉ X.fs∧(b∈X.ex∨X.s₀.heap.objs.size≤b)∧(∀x c,X.env.cells.lookup x=some c→c≠b)∧∀p∈X.pn++pins,p.1≠b
theorem Inv.dG{X:Cx}{pins:List (Addr × Obj)}{σ:St}{H H':Hp}{s:Shared}{b:Addr}(I:Inv X pins σ H s)(hb:s.heap.objs.size≤b)(hn:H' b=none):vj X pins H' b:=by
 refine⟨hn,Nat.ne_of_gt (Nat.lt_of_lt_of_le I.lt hb),I.W3 hb,.inr (Nat.le_trans I.sz hb),fun x c e z=>?_,fun p hp z=>?_⟩
 . obtain⟨v,q⟩:=I.cell x c e
   exact absurd (Nat.lt_of_lt_of_le q.lt (by rw[z];exact hb)) (Nat.lt_irrefl _)
 . exact absurd (Nat.lt_of_lt_of_le (Heap.lt_size (I.pin p hp).1) (by rw[z];exact hb)) (Nat.lt_irrefl _)
structure Turn(P:Program)(w:World)(K:PySem.W.Frag)(tg:Expr)(J:It)(fp:List Addr)(it:Addr)(tn:Nat→Heap→Prop):Prop where
 mem:it∈fp
 obj:∀i h,tn i h→∀b∈fp,∃o,h.get? b=some o∧∀v,o.data≠.cell v
 keep:∀i h h',tn i h→(∀b∈fp,∀o,h.get? b=some o→h'.get? b=some o)→tn i h'
 item:∀(X:Cx),X.prog=P→X.w=w→X.K=K→X.calm=true→∀(i:Nat) (pins:List (Addr × Obj)) (s:Shared) (σ:St) (H:Hp) (E:Value→Shared→Prop),Inv X pins σ H s→(∀b∈fp,vj X pins H b)→tn i s.heap→J.go i H →
  wpAny (model P w) X.A (pyNext (.ref it)) (fun r s1=>∃u,r=some u ∧
   wpAny (model P w) X.A (letOwnedTupleGo tg (.ref it) u) (fun _ s2=>∃x H',Inv X pins σ H' s2∧RelV x u∧J.yld i H x H'∧tn (i+1) s2.heap∧∀b∈fp,H' b=none) E s1) E s
 done:∀(X:Cx),X.prog=P→X.w=w→X.K=K→X.calm=true→∀(i:Nat) (pins:List (Addr × Obj)) (s:Shared) (σ:St) (H:Hp) (E:Value→Shared→Prop),Inv X pins σ H s→(∀b∈fp,vj X pins H b)→tn i s.heap→J.stop i H →
  wpAny (model P w) X.A (pyNext (.ref it)) (fun r s1=>r=none∧Inv X pins σ H s1) E s
 self:∀(A:Around) (i:Nat) (s:Shared) (Q:Value→Shared→Prop) (E:Value→Shared→Prop),tn i s.heap→Q (.ref it) s→wpAny (model P w) A (pyIter (.ref it)) Q E s
noncomputable abbrev TI:=St→Hp→(It→Hp→Prop)→Prop
noncomputable def PIE(X:Cx)(pins:List (Addr × Obj))(σ:St)(tg:Expr)(R:It→Hp→Prop)(itv:Value)(s2:Shared):Prop:=
 ∃(it:Addr) (fp:List Addr) (tn:Nat→Heap→Prop) (J:It) (H':Hp),itv=.ref it∧Inv X pins σ H' s2∧Turn X.prog X.w X.K tg J fp it tn∧tn 0 s2.heap∧(∀b∈fp,vj X pins H' b)∧R J H'
noncomputable def PI(X:Cx)(tg iter:Expr)(wi:TI):Prop:=
 ∀(pins:List (Addr × Obj)) (s:Shared) (σ:St) (H:Hp) (R:It→Hp→Prop),Inv X pins σ H s→wi σ H R →
  wpAny (model X.prog X.w) X.A (eval iter X.env) (fun v s1=>wpAny (model X.prog X.w) X.A (pyIter v) (PIE X pins σ tg R) X.xe s1) X.xe s
theorem hU{M:Model}{A:Around}{E:Value→Shared→Prop}{s:Shared}{tg:Expr}{it:Addr}{u:Value}{o:Obj}{n:String}{vs:Array Value}{Q:Unit→Shared→Prop}(ho:s.heap.get? it=some o)(hc:o.cls=.type n)(hd:o.data=.fields vs)
 (hn:["enumerate","zip","dict_itemiterator","dict_reverseitemiterator","odict_iterator","itertools.zip_longest","itertools.pairwise"].contains n=false) (hQ:Q () s):wpAny M A (letOwnedTupleGo tg (.ref it) u) Q E s:=by
 unfold letOwnedTupleGo
 cases tg<;>first
  |exact wpAny_pure hQ
  |(cases u<;>first
   |exact wpAny_pure hQ
   |(refine wpAny_bind (wpAny_load ho ?_)
     rw[hc,hd]
     show wpAny M A (if (["enumerate","zip","dict_itemiterator","dict_reverseitemiterator","odict_iterator","itertools.zip_longest","itertools.pairwise"].contains n&&vs[0]? == some (rawInt _))=true then _ else _) Q E s
     rw[if_neg (by intro h;rw[hn,Bool.false_and]at h;cases h)]
     exact wpAny_pure hQ))
noncomputable def Itl(K:PySem.W.Frag)(a:Addr):It:=
 ⟨fun i H=>∃xs x,SqL K H a xs∧xs[i]?=some x,fun i H x H'=>H'=H∧∀xs,SqL K H a xs→xs[i]?=some x,fun i H=>∃xs,SqL K H a xs∧xs.length≤i⟩
noncomputable def Itt(K:PySem.W.Frag)(a:Addr):It:=
 ⟨fun i H=>∃xs x,SqT K H a xs∧xs[i]?=some x,fun i H x H'=>H'=H∧∀xs,SqT K H a xs→xs[i]?=some x,fun i H=>∃xs,SqT K H a xs∧xs.length≤i⟩
noncomputable def Itr(lo:Int)(n:Nat):It:=⟨fun i _=>i<n,fun i H x H'=>H'=H∧x=.int (lo+i),fun i _=>n≤i⟩
theorem iF{P:Program}{w:World}{K:PySem.W.Frag}{tg:Expr}(a it:Addr):Turn P w K tg (Itl K a) [it] it (fun i h=>h.IsListIter it a i) where
 mem:=by simp
 obj:=fun i h st b hb=>by
  have e:b=it:=by simpa using hb
  subst e
  obtain⟨o,e,c,d⟩:=st
  exact⟨o,e,fun v z=>by rw[d]at z;cases z⟩
 keep:=fun i h h' st k=>st.at fun o e=>k it (by simp) o e
 item:=by
  intro X hP hw hK hc i pins s σ H E I hf st hg
  subst hP hw hK
  obtain⟨xs,x,hq,hx⟩:=hg
  obtain⟨its,rv,p,hz⟩:=I.list hq
  obtain⟨u,hu,ru⟩:=rv.get hx
  obtain⟨f0,f1,f2,f3,f4,f5⟩:=hf it (by simp)
  refine wpAny_pyNext_list_item st p.isList (x:=u) (by simpa using hu) fun h' st' sb=>?_
  have I1:Inv X pins σ H {s with heap:=h'}:=I.turned (t':=s.toks) (fun b o hb e=>(sb.2 b hb).trans e) f0 f1 f3 f4 f5
  obtain⟨o,e,c,d⟩:=id st'
  exact⟨u,rfl,hU (s:={s with heap:=h'}) e c d (by decide) ⟨x,H,I1,ru,⟨rfl,fun ys hy=>by rw[I.oZ hy hq];exact hx⟩,st',fun b hb=>(hf b hb).1⟩⟩
 done:=by
  intro X hP hw hK hc i pins s σ H E I hf st hg
  subst hP hw hK
  obtain⟨xs,hq,hx⟩:=hg
  obtain⟨its,rv,p,hz⟩:=I.list hq
  obtain⟨f0,f1,f2,f3,f4,f5⟩:=hf it (by simp)
  have hl:=rv.length
  exact wpAny_pyNext_list_end (I.ok.hd hc) st p.isList (by simp;omega) fun h' eb=>⟨rfl,I.turned (t':=s.toks) (fun b o hb e=>eb b o hb e) f0 f1 f3 f4 f5⟩
 self:=fun _ _ _ _ _ st h=>wpAny_pyIter_listiter st h
theorem lI{P:Program}{w:World}{K:PySem.W.Frag}{tg:Expr}(a it:Addr):Turn P w K tg (Itt K a) [it] it (fun i h=>h.IsTupleIter it a i) where
 mem:=by simp
 obj:=fun i h st b hb=>by
  have e:b=it:=by simpa using hb
  subst e
  obtain⟨o,e,c,d⟩:=st
  exact⟨o,e,fun v z=>by rw[d]at z;cases z⟩
 keep:=fun i h h' st k=>st.at fun o e=>k it (by simp) o e
 item:=by
  intro X hP hw hK hc i pins s σ H E I hf st hg
  subst hP hw hK
  obtain⟨xs,x,hq,hx⟩:=hg
  obtain⟨its,rv,p,hz⟩:=I.tuple hq
  obtain⟨u,hu,ru⟩:=rv.get hx
  obtain⟨f0,f1,f2,f3,f4,f5⟩:=hf it (by simp)
  refine wpAny_pyNext_tuple_item st (show s.heap.IsTuple a its.toArray from p) (x:=u) (by simpa using hu) fun h' st' sb=>?_
  have I1:Inv X pins σ H {s with heap:=h'}:=I.turned (t':=s.toks) (fun b o hb e=>(sb.2 b hb).trans e) f0 f1 f3 f4 f5
  obtain⟨o,e,c,d⟩:=id st'
  exact⟨u,rfl,hU (s:={s with heap:=h'}) e c d (by decide) ⟨x,H,I1,ru,⟨rfl,fun ys hy=>by rw[I.qr hy hq];exact hx⟩,st',fun b hb=>(hf b hb).1⟩⟩
 done:=by
  intro X hP hw hK hc i pins s σ H E I hf st hg
  subst hP hw hK
  obtain⟨xs,hq,hx⟩:=hg
  obtain⟨its,rv,p,hz⟩:=I.tuple hq
  obtain⟨f0,f1,f2,f3,f4,f5⟩:=hf it (by simp)
  have hl:=rv.length
  exact wpAny_pyNext_tuple_end (I.ok.hd hc) st (show s.heap.IsTuple a its.toArray from p) (by simp;omega) fun h' eb=>⟨rfl,I.turned (t':=s.toks) (fun b o hb e=>eb b o hb e) f0 f1 f3 f4 f5⟩
 self:=fun _ _ _ _ _ st h=>wpAny_pyIter_tupleiter st h
theorem lH{P:Program}{w:World}{K:PySem.W.Frag}{tg:Expr}(it:Addr)(lo:Int)(n:Nat):Turn P w K tg (Itr lo n) [it] it (fun i h=>IsRangeIter h it (lo+(i:Nat)*1) ((n:Int)-(i:Nat)) 1) where
 mem:=by simp
 obj:=fun i h st b hb=>by
  have e:b=it:=by simpa using hb
  subst e
  exact⟨_,st,fun v z=>by
   have z':Data.fields _=Data.cell v:=z
   cases z'⟩
 keep:=fun i h h' st k=>k it (by simp) _ st
 item:=by
  intro X hP hw hK hc i pins s σ H E I hf st hg
  subst hP hw hK
  obtain⟨f0,f1,f2,f3,f4,f5⟩:=hf it (by simp)
  have W:=Walks.range (prog:=X.prog) (w:=X.w) (I.ok.hd hc) it lo 1 n
  refine W.item i s _ _ hg st fun v h' tk hv st' kk=>?_
  obtain⟨t,rfl⟩:=hv
  have I1:Inv X pins σ H {s with heap:=h',toks:=tk}:=I.turned (fun b o hb e=>kk b o (by simpa using hb) e) f0 f1 f3 f4 f5
  refine⟨_,rfl,hU (s:={s with heap:=h',toks:=tk}) (n:="range_iterator") st' rfl rfl (by decide) ⟨.int (lo+i),H,I1,⟨t,?_⟩,⟨rfl,rfl⟩,st',fun b hb=>(hf b hb).1⟩⟩
  rw[Int.mul_one]
 done:=by
  intro X hP hw hK hc i pins s σ H E I hf st hg
  subst hP hw hK
  obtain⟨f0,f1,f2,f3,f4,f5⟩:=hf it (by simp)
  exact wpAny_pyNext_range_end (I.ok.hd hc) st (by have:n≤i:=hg;omega) fun h' eb=>⟨rfl,I.turned (t':=s.toks) (fun b o hb e=>eb b o hb e) f0 f1 f3 f4 f5⟩
 self:=fun _ _ _ _ _ st h=>wpAny_pyIter_rangeiter st h
end L2
namespace L2
open PySem PySem.Spec PyProof.Rows
section
variable {X:Cx}{tg:Expr}
noncomputable def XF(K:PySem.W.Frag)(tl:TE):TI:=fun σ H R=>tl σ H fun x H1=>∃a,x=.ref a∧(∃xs,SqL K H1 a xs)∧R (Itl K a) H1
noncomputable def Wy(K:PySem.W.Frag)(tl:TE):TI:=fun σ H R=>tl σ H fun x H1=>∃a,x=.ref a∧(∃xs,SqT K H1 a xs)∧R (Itt K a) H1
theorem kP{l:Expr}{tl:TE}(hl:PE X l tl):PI X tg l (XF X.K tl):=by
 intro pins s σ H R I h
 refine thn (hl pins s σ H _ I h) fun v s1 ⟨x,H1,I1,r1,q1⟩=>?_
 obtain⟨a,e,⟨xs,hq⟩,q⟩:=q1
 subst e
 cases r1
 obtain⟨its,rv,p,hz⟩:=I1.list hq
 refine wpAny_pyIter_list p.isList ?_
 refine⟨s1.heap.objs.size,[s1.heap.objs.size],_,_,H1,rfl,I1.kept (t':=s1.toks) fun b o e=>Heap.get?_push_of_some _ e,iF a _,⟨_,Heap.get?_push_size _ rfl,rfl,rfl⟩,fun b hb=>?_,q⟩
 have e:b=s1.heap.objs.size:=by simpa using hb
 subst e
 exact I1.dG (Nat.le_refl _) (I1.hok.fresh (Nat.le_refl _))
theorem fM{l:Expr}{tl:TE}(hl:PE X l tl):PI X tg l (Wy X.K tl):=by
 intro pins s σ H R I h
 refine thn (hl pins s σ H _ I h) fun v s1 ⟨x,H1,I1,r1,q1⟩=>?_
 obtain⟨a,e,⟨xs,hq⟩,q⟩:=q1
 subst e
 cases r1
 obtain⟨its,rv,p,hz⟩:=I1.tuple hq
 refine wpAny_pyIter_tuple (show s1.heap.IsTuple a its.toArray from p) ?_
 refine⟨s1.heap.objs.size,[s1.heap.objs.size],_,_,H1,rfl,I1.kept (t':=s1.toks) fun b o e=>Heap.get?_push_of_some _ e,lI a _,⟨_,Heap.get?_push_size _ rfl,rfl,rfl⟩,fun b hb=>?_,q⟩
 have e:b=s1.heap.objs.size:=by simpa using hb
 subst e
 exact I1.dG (Nat.le_refl _) (I1.hok.fresh (Nat.le_refl _))
theorem nI{pins:List (Addr × Obj)}{σ:St}{H:Hp}{s:Shared}{R:It→Hp→Prop}{E:Value→Shared→Prop}{lo hi:Int}{t u v:Tok}{tk:Nat}(I:Inv X pins σ H s)(h1:-(2 ^ 62)≤lo)(h2:lo<2 ^ 62)(h3:-(2 ^ 62)≤hi)(h4:hi<2 ^ 62)
 (q:R (Itr lo (hi-lo).toNat) H):wpAny (model X.prog X.w) X.A (pyIter (.ref s.heap.objs.size)) (PIE X pins σ tg R) E {s with heap:=s.heap.push {cls:=.type "range",data:=.fields #[.int lo t,.int hi u,.int 1 v]},toks:=tk}:=by
 refine wpAny_pyIter_range (IsRange.new ..) (small_one h1 h2 h3 h4) ?_
 have I1:Inv X pins σ H {s with heap:=s.heap.push {cls:=.type "range",data:=.fields #[.int lo t,.int hi u,.int 1 v]},toks:=tk}:=I.kept fun b o e=>Heap.get?_push_of_some _ e
 refine⟨(s.heap.push {cls:=.type "range",data:=.fields #[.int lo t,.int hi u,.int 1 v]}).objs.size,[(s.heap.push {cls:=.type "range",data:=.fields #[.int lo t,.int hi u,.int 1 v]}).objs.size],_,_,H,rfl,
  I1.kept (t':=tk) fun b o e=>Heap.get?_push_of_some _ e,lH _ lo (hi-lo).toNat,?_,fun b hb=>?_,q⟩
 . have e1:lo+((0:Nat):Int)*1=lo:=by simp
   have e2:(((hi-lo).toNat:Nat):Int)-((0:Nat):Int)=Builtin.Range.rangeSize lo hi 1:=by rw[rangeSize_one];split<;>omega
   show IsRangeIter _ _ (lo+((0:Nat):Int)*1) ((((hi-lo).toNat:Nat):Int)-((0:Nat):Int)) 1
   rw[e1,e2]
   exact Heap.get?_push_size _ rfl
 . have e:b=(s.heap.push {cls:=.type "range",data:=.fields #[.int lo t,.int hi u,.int 1 v]}).objs.size:=by simpa using hb
   subst e
   exact I1.dG (Nat.le_refl _) (I1.hok.fresh (Nat.le_refl _))
noncomputable def XG(ta:TA):TI:=fun σ H R=>ta σ H fun vs H1=>∃j:Int,vs=[.int j]∧-(2 ^ 62)≤j∧j<2 ^ 62∧R (Itr 0 j.toNat) H1
noncomputable def XH(ta:TA):TI:=fun σ H R=>ta σ H fun vs H1=>∃i j:Int,vs=[.int i,.int j]∧(-(2 ^ 62)≤i∧i<2 ^ 62∧-(2 ^ 62)≤j∧j<2 ^ 62)∧R (Itr i (j-i).toNat) H1
theorem ju{a:Expr}{ta:TA}{p pos:Pos}(hg:Gl X "range")(hm:X.mg "range"=none)(ha:PA X [a] ta)(hs:starEach [a] X.env=[(false,eval a X.env)]:=by rfl):PI X tg (.Call (.Name "range" p) [a] [] pos) (XG ta):=by
 intro pins s σ H R I h
 refine Call_ (u6 I hg hm boot_range (PyProof.Rows.callWith_type1 (thn (ha pos pins s σ H _ I h) fun us s1 ⟨vs,H1,I1,r1,q1⟩=>?_) hs rfl))
 obtain⟨j,e,q1,q2,q⟩:=q1
 subst e
 cases r1 with
 |cons r rr=>
  cases rr
  obtain⟨t,rfl⟩:=r
  exact call_range_1 (nI I1 (by omega) (by omega) q1 q2 (by simpa using q))
theorem jv{a b:Expr}{ta:TA}{p pos:Pos}(hg:Gl X "range")(hm:X.mg "range"=none)(ha:PA X [a,b] ta)(hs:starEach [a,b] X.env=[(false,eval a X.env),(false,eval b X.env)]:=by rfl)(hs2:starEach [b] X.env=[(false,eval b X.env)]:=by rfl) :
 PI X tg (.Call (.Name "range" p) [a,b] [] pos) (XH ta):=by
 intro pins s σ H R I h
 refine Call_ (u6 I hg hm boot_range (PyProof.Rows.callWith_type1 (thn (ha pos pins s σ H _ I h) fun us s1 ⟨vs,H1,I1,r1,q1⟩=>?_) (by rw[hs,hs2]) (by rw[hs2];rfl)))
 obtain⟨i,j,e,⟨q1,q2,q3,q4⟩,q⟩:=q1
 subst e
 cases r1 with
 |cons r rr=>
  cases rr with
  |cons r' rr=>
   cases rr
   obtain⟨t,rfl⟩:=r
   obtain⟨t',rfl⟩:=r'
   exact call_range_2 (nI I1 q1 q2 q3 q4 q)
noncomputable def VH(wi:TI)(g:TG)(tb:TS):TS:=fun D σ H=>wi σ H fun J H1=>∃W:Nat→Nat→St→Hp→Prop,(∃m,W 0 m σ H1)∧∀i m σ H,W i m σ H →
 (J.stop i H∧D.nx σ H)∨(J.go i H∧∃N:St→Hp→Prop,(∀σ' H',N σ' H'→∃m',m'<m∧W (i+1) m' σ' H')∧∀x H',J.yld i H x H'→g x σ H' fun σ2 H2=>tb {D with nx:=N,ct:=N,bk:=D.nx} σ2 H2)
noncomputable def rR(fp:List Addr)(h:Heap):List (Addr × Obj):=fp.filterMap fun b=>(h.get? b).map fun o=>(b,o)
theorem w9{fp:List Addr}{h:Heap}{b:Addr}{o:Obj}(hb:b∈fp)(e:h.get? b=some o):(b,o)∈rR fp h:=List.mem_filterMap.mpr ⟨b,hb,by rw[e];rfl⟩
theorem jY{fp:List Addr}{h:Heap}{p:Addr × Obj}(hp:p∈rR fp h):p.1∈fp∧h.get? p.1=some p.2:=by
 obtain⟨b,hb,e⟩:=List.mem_filterMap.mp hp
 cases q:h.get? b with
 |none=>rw[q]at e;cases e
 |some o=>
  rw[q]at e
  have e':(b,o)=p:=Option.some.inj e
  subst e'
  exact⟨hb,q⟩
theorem Inv.pinned{pins:List (Addr × Obj)}{σ:St}{H:Hp}{s:Shared}{fp:List Addr}(I:Inv X pins σ H s)(hf:∀b∈fp,vj X pins H b)(ho:∀b∈fp,∃o,s.heap.get? b=some o∧∀v,o.data≠.cell v):Inv X (pins++rR fp s.heap) σ H s:=
 I.kQ fun p hp=>(List.mem_append.mp hp).elim (fun z=>I.pin p (List.mem_append_right _ z)) fun z=>by
   obtain⟨hb,e⟩:=jY z
   obtain⟨f0,f1,f2,_⟩:=hf p.1 hb
   obtain⟨o,e',d⟩:=ho p.1 hb
   rw[e]at e';cases e'
   exact⟨e,f0,f1,f2,d⟩
theorem Inv.uq{pins pl:List (Addr × Obj)}{σ:St}{H:Hp}{s:Shared}(I:Inv X (pins++pl) σ H s):Inv X pins σ H s:=I.kQ fun p hp=>I.pin p (List.mem_append_right _ (List.mem_append_left _ hp))
theorem YR{iter:Expr}{body:List Stmt}{wi:TI}{g:TG}{tb:TS}{pos:Pos}(hp:PassesOwn (model X.prog X.w) X.A X.env X.xe)(hc:X.calm=true)(hi:PI X tg iter wi)(hg:PG X tg g)(hb:PSs X body tb)
 (hs:∀x,foldedSetIterable iter X.env x=pure x:=by intro _;rfl):PS X (.For tg iter body [] pos) (VH wi g tb):=by
 intro pins s σ H D I h
 refine wpAny_For (thn (hi pins s σ H _ I h) fun v s1 h1=>thn h1 fun itv s2 h2=>?_) hs
 obtain⟨it,fp,tn,J,H2,e,I2,T,st2,f2,W,⟨m0,w0⟩,turn⟩:=h2
 subst e
 -- what stays true of the iterator's objects through the loop
 have stat:∀{H':Hp},(∀b∈fp,H' b=none)→∀b∈fp,vj X pins H' b:=fun hn b hb=>⟨hn b hb,(f2 b hb).2⟩
 refine codeAny_forLoop_any (fun n s'=>∃i σ' H',Inv X pins σ' H' s'∧tn i s'.heap∧(∀b∈fp,H' b=none)∧W i n σ' H') ?_ m0 ⟨0,σ,H2,I2,st2,fun b hb=>(f2 b hb).1,w0⟩
 rintro n s3 ⟨i,σ3,H3,I3,st3,fr3,w3⟩
 rcases turn i n σ3 H3 w3 with⟨stop,qn⟩|⟨go,N,hN,step⟩
 . refine wpAny_passesOwn hp (thn (T.done X rfl rfl rfl hc i pins s3 σ3 H3 X.xe I3 (stat fr3) st3 stop) fun r s4 ⟨hr,I4⟩=>?_)
   subst hr
   exact wpAny_execs_nil ⟨σ3,H3,I4,qn⟩
 . refine wpAny_passesOwn hp (thn (T.item X rfl rfl rfl hc i pins s3 σ3 H3 X.xe I3 (stat fr3) st3 go) fun r s4 ⟨u,hr,h4⟩=>?_)
   subst hr
   refine wpAny_passesOwn hp (thn h4 fun _ s5 ⟨x,H5,I5,r5,y5,st5,fr5⟩=>?_)
   have I5':=I5.pinned (stat fr5) (T.obj _ _ st5)
   refine wpAny_passesOwn hp (thn (hg _ s5 σ3 H5 x u _ I5' r5 (step x H5 y5)) fun _ s6 ⟨σ6,H6,I6,q6⟩=>?_)
   refine wpAny_passesOwn hp (thn (hb _ s6 σ6 H6 _ I6 q6) fun f s7 q7=>?_)
   have again:∀{σ7:St} {H7:Hp},Inv X (pins++rR fp s5.heap) σ7 H7 s7→N σ7 H7→∃m,m<n∧∃i σ' H',Inv X pins σ' H' s7∧tn i s7.heap∧(∀b∈fp,H' b=none)∧W i m σ' H':=fun{σ7 H7} I7 n7=>by
    obtain⟨m',hm,w7⟩:=hN σ7 H7 n7
    refine⟨m',hm,i+1,σ7,H7,I7.uq,T.keep _ _ _ st5 fun b hb o e=>(I7.pin (b,o) (List.mem_append_right _ (List.mem_append_right _ (w9 hb e)))).1,fun b hb=>?_,w7⟩
    obtain⟨o,e,d⟩:=T.obj _ _ st5 b hb
    exact(I7.pin (b,o) (List.mem_append_right _ (List.mem_append_right _ (w9 hb e)))).2.1
   cases f with
   |next=>obtain⟨σ7,H7,I7,n7⟩:=q7;exact again I7 n7
   |cont=>obtain⟨σ7,H7,I7,n7⟩:=q7;exact again I7 n7
   |brk=>obtain⟨σ7,H7,I7,q7⟩:=q7;exact⟨σ7,H7,I7.uq,q7⟩
   |ret v=>obtain⟨x7,σ7,H7,I7,r7,q7⟩:=q7;exact⟨x7,σ7,H7,I7.uq,r7,q7⟩
end
end L2
namespace L2
open PySem PySem.Spec PyProof.Rows
noncomputable abbrev R2:=V→V→Hp→VK→Prop
noncomputable def OpR(X:Cx)(f:Value→Value→Sem Value)(r:R2):Prop:=
 ∀(pins:List (Addr × Obj)) (s:Shared) (σ:St) (H:Hp) (x y:V) (v u:Value) (Q:VK),Inv X pins σ H s→RelV x v→RelV y u→r x y H Q →
  wpAny (model X.prog X.w) X.A (f v u) (EP X pins σ Q) X.xe s
noncomputable def UnR(X:Cx)(f:Value→Sem Value)(r:V→Hp→VK→Prop):Prop:=
 ∀(pins:List (Addr × Obj)) (s:Shared) (σ:St) (H:Hp) (x:V) (v:Value) (Q:VK),Inv X pins σ H s→RelV x v→r x H Q →
  wpAny (model X.prog X.w) X.A (f v) (EP X pins σ Q) X.xe s
noncomputable def z9(X:Cx)(f:Value)(r:List V→Hp→VK→Prop):Prop:=
 ∀(pins:List (Addr × Obj)) (s:Shared) (σ:St) (H:Hp) (xs:List V) (us:List Value) (Q:VK),Inv X pins σ H s→Vals xs us→r xs H Q →
  wpAny (model X.prog X.w) X.A (call f us) (EP X pins σ Q) X.xe s
noncomputable def Wq(X:Cx)(r:V→Hp→(Bool→Hp→Prop)→Prop):Prop:=
 ∀(pins:List (Addr × Obj)) (s:Shared) (σ:St) (H:Hp) (x:V) (v:Value) (Q:Bool→Hp→Prop),Inv X pins σ H s→RelV x v→r x H Q →
  wpAny (model X.prog X.w) X.A (truthy v) (TP X pins σ Q) X.xe s
noncomputable def tOp(r:R2)(ta tb:TE):TE:=fun σ H Q=>ta σ H fun x H1=>tb σ H1 fun y H2=>r x y H2 Q
noncomputable def tUn(r:V→Hp→VK→Prop)(ta:TE):TE:=fun σ H Q=>ta σ H fun x H1=>r x H1 Q
noncomputable def rI(C:Int→Int→Prop)(g:Int→Int→V):R2:=fun x y H Q=>∃i j,x=.int i∧y=.int j∧C i j∧Q (g i j) H
noncomputable def rI0(g:Int→Int→V):R2:=fun x y H Q=>∃i j,x=.int i∧y=.int j∧Q (g i j) H
noncomputable def rU(g:Int→V):V→Hp→VK→Prop:=fun x H Q=>∃i,x=.int i∧Q (g i) H
section
variable {X:Cx}{a b c:Expr}{ta tb tc:TE}{pos:Pos}
theorem aW(ha:PE X a ta)(hb:PE X b tb){pins:List (Addr × Obj)}{s:Shared}{σ:St}{H:Hp}{R:V→V→Hp→Prop}(I:Inv X pins σ H s)
 (h:ta σ H fun x H1=>tb σ H1 fun y H2=>R x y H2) {Q:Value→Shared→Prop} {f:Value→Value→Sem Value}
 (hf:∀v u s2 x y H2,Inv X pins σ H2 s2→RelV x v→RelV y u→R x y H2→wpAny (model X.prog X.w) X.A (f v u) Q X.xe s2) :
 wpAny (model X.prog X.w) X.A (eval a X.env) (fun v s₁=>wpAny (model X.prog X.w) X.A (eval b X.env) (fun u s₂=>wpAny (model X.prog X.w) X.A (f v u) Q X.xe s₂) X.xe s₁) X.xe s:=by
 refine thn (ha pins s σ H _ I h) fun v s1 ⟨x,H1,I1,r1,q1⟩=>?_
 refine thn (hb pins s1 σ H1 _ I1 q1) fun u s2 ⟨y,H2,I2,r2,q2⟩=>?_
 exact hf v u s2 x y H2 I2 r1 r2 q2
theorem X9{op:Operator}{r:R2}(ho:OpR X (binaryOp op) r)(ha:PE X a ta)(hb:PE X b tb):PE X (.BinOp a op b pos) (tOp r ta tb):=by
 intro pins s σ H Q I h
 exact wpAny_BinOp (aW ha hb I h fun v u s2 x y H2 I2 rx ry q=>ho pins s2 σ H2 x y v u Q I2 rx ry q)
theorem WD{op:UnaryOp}{r:V→Hp→VK→Prop}(ho:UnR X (unaryOp op) r)(ha:PE X a ta):PE X (.UnaryOp op a pos) (tUn r ta):=by
 intro pins s σ H Q I h
 exact UnaryOp_ (thn (ha pins s σ H _ I h) fun v s1 ⟨x,H1,I1,r1,q1⟩=>ho pins s1 σ H1 x v Q I1 r1 q1)
theorem opI{f:Value→Value→Sem Value}{C:Int→Int→Prop}{g:Int→Int→Int}
 (rule:∀(i j:Int) (t u:Tok) (s:Shared) (Q:Value→Shared→Prop) (E:Value→Shared→Prop),C i j→Q (.int (g i j) s.toks) {s with toks:=s.toks+1}→wpAny (model X.prog X.w) X.A (f (.int i t) (.int j u)) Q E s) :
 OpR X f (rI C fun i j=>.int (g i j)):=by
 intro pins s σ H x y v u Q I rx ry h
 obtain⟨i,j,rfl,rfl,hc,q⟩:=h
 obtain⟨t,rfl⟩:=rx
 obtain⟨t',rfl⟩:=ry
 exact rule i j t t' s _ _ hc ⟨.int (g i j),H,I.tok _,⟨_,rfl⟩,q⟩
theorem gm{f:Value→Value→Sem Value}{g:Int→Int→Int}
 (rule:∀(i j:Int) (t u:Tok) (s:Shared) (Q:Value→Shared→Prop) (E:Value→Shared→Prop),Q (.int (g i j) s.toks) {s with toks:=s.toks+1}→wpAny (model X.prog X.w) X.A (f (.int i t) (.int j u)) Q E s) :
 OpR X f (rI0 fun i j=>.int (g i j)):=by
 intro pins s σ H x y v u Q I rx ry h
 obtain⟨i,j,rfl,rfl,q⟩:=h
 obtain⟨t,rfl⟩:=rx
 obtain⟨t',rfl⟩:=ry
 exact rule i j t t' s _ _ ⟨.int (g i j),H,I.tok _,⟨_,rfl⟩,q⟩
theorem cA{f:Value→Value→Sem Value}{g:Int→Int→Bool}
 (rule:∀(i j:Int) (t u:Tok) (s:Shared) (Q:Value→Shared→Prop) (E:Value→Shared→Prop),Q (.bool (g i j)) s→wpAny (model X.prog X.w) X.A (f (.int i t) (.int j u)) Q E s) :
 OpR X f (rI0 fun i j=>.bl (g i j)):=by
 intro pins s σ H x y v u Q I rx ry h
 obtain⟨i,j,rfl,rfl,q⟩:=h
 obtain⟨t,rfl⟩:=rx
 obtain⟨t',rfl⟩:=ry
 exact rule i j t t' s _ _ ⟨.bl (g i j),H,I,rfl,q⟩
noncomputable def aM(i j:Int):Prop:=0<j∧j<1073741824
noncomputable def Yx(i j:Int):Prop:=0≤j∧j≤1000000∧i.natAbs<2 ^ 64
noncomputable def eU(i j:Int):Prop:=(-(2 ^ 64)<i∧i<2 ^ 64)∨(-(2 ^ 64)<j∧j<2 ^ 64)
theorem eU.ok{i j:Int}(h:eU i j):IntMulOk i j:=by
 rcases h with⟨h1,h2⟩|⟨h1,h2⟩
 . exact .of_left (intBits_le_64 h1 h2)
 . exact .of_right (intBits_le_64 h1 h2)
theorem lJ(k:Nat):(0:Int)≤2 ^ k:=by
 rw[two_pow_cast]
 exact Int.natCast_nonneg _
theorem Zq:OpR X (binaryOp .Add) (rI0 fun i j=>.int (i+j)):=gm fun _ _ _ _ _ _ _ q=>add_int q
theorem Z1:OpR X (binaryOp .Sub) (rI0 fun i j=>.int (i-j)):=gm fun _ _ _ _ _ _ _ q=>sub_int q
theorem Zw:OpR X (binaryOp .Mult) (rI eU fun i j=>.int (i*j)):=opI fun _ _ _ _ _ _ _ hc q=>mul_int q hc.ok
theorem cG:OpR X (binaryOp .FloorDiv) (rI aM fun i j=>.int (i/j)):=opI fun i j _ _ _ _ _ hc q=>by
 have h1:(0:Int)<j:=hc.1
 have h2:j<1073741824:=hc.2
 exact floordiv_int (by omega) (by rw[Int.fdiv_eq_ediv_of_nonneg i (by omega)];exact q) (.inl (PyProof.noPylong_small (by omega)))
theorem Zv:OpR X (binaryOp .Mod) (rI (fun _ j=>0<j) fun i j=>.int (i%j)):=opI fun i j _ _ _ _ _ hc q=>by
 have h1:(0:Int)<j:=hc
 exact mod_int' (by omega) (by rw[Int.fmod_eq_emod_of_nonneg i (by omega)];exact q)
theorem Zx:OpR X (binaryOp .Pow) (rI Yx fun i j=>.int (i ^ j.toNat)):=opI fun _ _ _ _ _ _ _ hc q=>pow_int_small hc.1 hc.2.1 hc.2.2 q
theorem Zz:OpR X (binaryOp .LShift) (rI Yx fun i j=>.int (i*2 ^ j.toNat)):=opI fun _ _ _ _ _ _ _ hc q=>lshift_int_small hc.1 hc.2.1 hc.2.2 q
theorem Z0:OpR X (binaryOp .RShift) (rI (fun _ j=>0≤j) fun i j=>.int (i/2 ^ j.toNat)):=opI fun i j _ _ _ _ _ hc q=>
 rshift_int hc (by rw[Int.fdiv_eq_ediv_of_nonneg i (lJ _)];exact q)
theorem Zr:OpR X (binaryOp .BitAnd) (rI0 fun i j=>.int (Builtin.bitAnd i j)):=gm fun _ _ _ _ _ _ _ q=>and_int q
theorem dI:OpR X (inplaceOp .Add) (rI0 fun i j=>.int (i+j)):=gm fun _ _ _ _ _ _ _ q=>iadd_int q
theorem dN:OpR X (inplaceOp .Sub) (rI0 fun i j=>.int (i-j)):=gm fun _ _ _ _ _ _ _ q=>isub_int q
theorem dM:OpR X (inplaceOp .Mult) (rI eU fun i j=>.int (i*j)):=opI fun _ _ _ _ _ _ _ hc q=>imul_int q hc.ok
theorem hZ:OpR X (inplaceOp .FloorDiv) (rI aM fun i j=>.int (i/j)):=opI fun i j _ _ _ _ _ hc q=>by
 have h1:(0:Int)<j:=hc.1
 have h2:j<1073741824:=hc.2
 exact ifloordiv_int (by omega) (by rw[Int.fdiv_eq_ediv_of_nonneg i (by omega)];exact q) (.inl (PyProof.noPylong_small (by omega)))
theorem dJ:OpR X (inplaceOp .Mod) (rI (fun _ j=>0<j) fun i j=>.int (i%j)):=opI fun i j _ _ _ _ _ hc q=>by
 have h1:(0:Int)<j:=hc
 exact imod_int (by omega) (by rw[Int.fmod_eq_emod_of_nonneg i (by omega)];exact q)
theorem unI{f:Value→Sem Value}{g:Int→Int}
 (rule:∀(i:Int) (t:Tok) (s:Shared) (Q:Value→Shared→Prop) (E:Value→Shared→Prop),Q (.int (g i) s.toks) {s with toks:=s.toks+1}→wpAny (model X.prog X.w) X.A (f (.int i t)) Q E s) :
 UnR X f (rU fun i=>.int (g i)):=by
 intro pins s σ H x v Q I rx h
 obtain⟨i,rfl,q⟩:=h
 obtain⟨t,rfl⟩:=rx
 exact rule i t s _ _ ⟨.int (g i),H,I.tok _,⟨_,rfl⟩,q⟩
theorem Yo:UnR X (unaryOp .USub) (rU fun i=>.int (-i)):=unI fun _ _ _ _ _ q=>neg_int q
end
noncomputable def WW:V→V→Bool
 |.non,.non=>true|.non,.int _=>true|.int _,.non=>true|.non,.bl _=>true|.bl _,.non=>true|.non,.str _=>true|.str _,.non=>true
 |.int _,.int _=>true|.bl _,.bl _=>true|.str _,.str _=>true|.byt _,.byt _=>true
 |.int _,.str _=>true|.str _,.int _=>true|.bl _,.str _=>true|.str _,.bl _=>true
 |_,_=>false
noncomputable def rEq:R2:=fun x y H Q=>WW x y=true∧Q (.bl (decide (x=y))) H
noncomputable def rNe:R2:=fun x y H Q=>WW x y=true∧Q (.bl (!decide (x=y))) H
theorem lZ{i j:Int}:decide (V.int i=V.int j)=(i == j):=by
 rw[Bool.eq_iff_iff]
 simp
theorem iu{i j:Bool}:decide (V.bl i=V.bl j)=(i == j):=by
 rw[Bool.eq_iff_iff]
 simp
theorem lg{i j:Str}:decide (V.str i=V.str j)=(i == j):=by
 rw[Bool.eq_iff_iff]
 simp
theorem lY{i j:Array UInt8}:decide (V.byt i=V.byt j)=(i.toList == j.toList):=by
 rw[Bool.eq_iff_iff]
 cases i
 cases j
 simp
section
variable {X:Cx}{a b c:Expr}{ta tb tc:TE}{pos:Pos}
theorem zg{pins:List (Addr × Obj)}{σ:St}{H:Hp}{s:Shared}{Q:VK}{k k':Bool}(I:Inv X pins σ H s)(q:Q (.bl k) H)(e:k=k'):EP X pins σ Q (.bool k') s:=by
 subst e
 exact⟨.bl k,H,I,rfl,q⟩
theorem Xi:OpR X (compareOp .Eq) rEq:=by
 intro pins s σ H x y v u Q I rx ry h
 obtain⟨hs,q⟩:=h
 cases x with
 |non=>
  cases rx
  cases y with
  |non=>cases ry;exact PySem.EqNone.eq_none_none (zg I q (by simp))
  |bl j=>cases ry;exact PySem.EqNone.eq_none_bool (zg I q (by simp))
  |int j=>obtain⟨t',rfl⟩:=ry;exact PySem.EqNone.eq_none_int (zg I q (by simp))
  |str j=>obtain⟨t',rfl⟩:=ry;exact PySem.EqNone.eq_none_str (zg I q (by simp))
  |_=>exact absurd (show false=true from hs) Bool.false_ne_true
 |bl i=>
  cases rx
  cases y with
  |non=>cases ry;exact PySem.EqNone.eq_bool_none (zg I q (by simp))
  |bl j=>cases ry;exact eq_bool (zg I q iu)
  |str j=>obtain⟨t',rfl⟩:=ry;exact PySem.EqMixed.eq_bool_str (zg I q (by simp))
  |_=>exact absurd (show false=true from hs) Bool.false_ne_true
 |int i=>
  obtain⟨t,rfl⟩:=rx
  cases y with
  |non=>cases ry;exact PySem.EqNone.eq_int_none (zg I q (by simp))
  |int j=>obtain⟨t',rfl⟩:=ry;exact eq_int (zg I q lZ)
  |str j=>obtain⟨t',rfl⟩:=ry;exact PySem.EqMixed.eq_int_str (zg I q (by simp))
  |_=>exact absurd (show false=true from hs) Bool.false_ne_true
 |str i=>
  obtain⟨t,rfl⟩:=rx
  cases y with
  |non=>cases ry;exact PySem.EqNone.eq_str_none (zg I q (by simp))
  |bl j=>cases ry;exact PySem.EqMixed.eq_str_bool (zg I q (by simp))
  |int j=>obtain⟨t',rfl⟩:=ry;exact PySem.EqMixed.eq_str_int (zg I q (by simp))
  |str j=>obtain⟨t',rfl⟩:=ry;exact eq_str (zg I q lg)
  |_=>exact absurd (show false=true from hs) Bool.false_ne_true
 |byt i=>
  obtain⟨t,rfl⟩:=rx
  cases y with
  |byt j=>obtain⟨t',rfl⟩:=ry;exact PySem.W.eq_bytes (zg I q lY)
  |_=>exact absurd (show false=true from hs) Bool.false_ne_true
 |_=>cases y<;>exact absurd (show false=true from hs) Bool.false_ne_true
theorem Xn:OpR X (compareOp .NotEq) rNe:=by
 intro pins s σ H x y v u Q I rx ry h
 obtain⟨hs,q⟩:=h
 cases x with
 |non=>
  cases rx
  cases y with
  |non=>cases ry;exact PySem.EqNone.ne_none_none (zg I q (by simp))
  |bl j=>cases ry;exact PySem.EqNone.ne_none_bool (zg I q (by simp))
  |int j=>obtain⟨t',rfl⟩:=ry;exact PySem.EqNone.ne_none_int (zg I q (by simp))
  |str j=>obtain⟨t',rfl⟩:=ry;exact PySem.EqNone.ne_none_str (zg I q (by simp))
  |_=>exact absurd (show false=true from hs) Bool.false_ne_true
 |bl i=>
  cases rx
  cases y with
  |non=>cases ry;exact PySem.EqNone.ne_bool_none (zg I q (by simp))
  |bl j=>cases ry;exact ne_bool (zg I q (congrArg not iu))
  |str j=>obtain⟨t',rfl⟩:=ry;exact PySem.EqMixed.ne_bool_str (zg I q (by simp))
  |_=>exact absurd (show false=true from hs) Bool.false_ne_true
 |int i=>
  obtain⟨t,rfl⟩:=rx
  cases y with
  |non=>cases ry;exact PySem.EqNone.ne_int_none (zg I q (by simp))
  |int j=>obtain⟨t',rfl⟩:=ry;exact ne_int (zg I q (congrArg not lZ))
  |str j=>obtain⟨t',rfl⟩:=ry;exact PySem.EqMixed.ne_int_str (zg I q (by simp))
  |_=>exact absurd (show false=true from hs) Bool.false_ne_true
 |str i=>
  obtain⟨t,rfl⟩:=rx
  cases y with
  |non=>cases ry;exact PySem.EqNone.ne_str_none (zg I q (by simp))
  |bl j=>cases ry;exact PySem.EqMixed.ne_str_bool (zg I q (by simp))
  |int j=>obtain⟨t',rfl⟩:=ry;exact PySem.EqMixed.ne_str_int (zg I q (by simp))
  |str j=>obtain⟨t',rfl⟩:=ry;exact ne_str (zg I q (congrArg not lg))
  |_=>exact absurd (show false=true from hs) Bool.false_ne_true
 |byt i=>
  obtain⟨t,rfl⟩:=rx
  cases y with
  |byt j=>obtain⟨t',rfl⟩:=ry;exact PySem.W.ne_bytes (zg I q (congrArg not lY))
  |_=>exact absurd (show false=true from hs) Bool.false_ne_true
 |_=>cases y<;>exact absurd (show false=true from hs) Bool.false_ne_true
theorem Xm:OpR X (compareOp .Lt) (rI0 fun i j=>.bl (decide (i<j))):=cA fun _ _ _ _ _ _ _ q=>lt_int q
theorem Xl:OpR X (compareOp .LtE) (rI0 fun i j=>.bl (decide (i≤j))):=cA fun _ _ _ _ _ _ _ q=>le_int q
theorem Xk:OpR X (compareOp .Gt) (rI0 fun i j=>.bl (decide (j<i))):=cA fun _ _ _ _ _ _ _ q=>gt_int q
theorem Xj:OpR X (compareOp .GtE) (rI0 fun i j=>.bl (decide (j≤i))):=cA fun _ _ _ _ _ _ _ q=>ge_int q
theorem Zu:OpR X (compareOp .Is) (fun x y H Q=>y=.non∧Q (.bl (decide (x=.non))) H):=by
 intro pins s σ H x y v u Q I rx ry h
 obtain⟨rfl,q⟩:=h
 cases ry
 refine is_none_gen (zg I q ?_)
 cases x<;>first
  |(cases rx;rfl)
  |(obtain⟨t,rfl⟩:=rx;rfl)
theorem cH:OpR X (compareOp .IsNot) (fun x y H Q=>y=.non∧Q (.bl (!decide (x=.non))) H):=by
 intro pins s σ H x y v u Q I rx ry h
 obtain⟨rfl,q⟩:=h
 cases ry
 refine isnot_none_gen (zg I q ?_)
 cases x<;>first
  |(cases rx;rfl)
  |(obtain⟨t,rfl⟩:=rx;rfl)
theorem cY{op:CmpOp}{r:R2}(ho:OpR X (compareOp op) r)(ha:PE X a ta)(hb:PE X b tb)(hm:behindInMarks op b=false):PE X (.Compare a [op] [b] pos) (tOp r ta tb):=by
 intro pins s σ H Q I h
 exact wpAny_Compare1 (aW ha hb I h fun v u s2 x y H2 I2 rx ry q=>ho pins s2 σ H2 x y v u Q I2 rx ry q) hm
noncomputable def aI(t:TE):TT:=fun σ H Q=>t σ H fun x H'=>∃k,x=.bl k∧Q k H'
theorem cz{op:CmpOp}{r:R2}(ho:OpR X (compareOp op) r)(ha:PE X a ta)(hb:PE X b tb)(hm:behindInMarks op b=false):PT X (.Compare a [op] [b] pos) (aI (tOp r ta tb)):=by
 intro pins s σ H Q I h
 refine wpAny_isTrue_Compare1 (thn (ha pins s σ H _ I h) fun v s1 ⟨x,H1,I1,r1,q1⟩=>thn (hb pins s1 σ H1 _ I1 q1) fun u s2 ⟨y,H2,I2,r2,q2⟩=>
  thn (ho pins s2 σ H2 x y v u _ I2 r1 r2 q2) fun c s3 ⟨z,H3,I3,r3,k,e,q3⟩=>?_) hm
 subst e
 cases r3
 exact wpAny_truthy_bool ⟨H3,I3,q3⟩
noncomputable def eJ(r r':R2)(ta tb tc:TE):TE:=fun σ H Q=>ta σ H fun x H1=>tb σ H1 fun y H2=>r x y H2 fun z H3=>∃k,z=.bl k ∧
 (if k=true then tc σ H3 fun w' H4=>r' y w' H4 Q else Q (.bl false) H3)
theorem fI{op op':CmpOp}{r r':R2}(ho:OpR X (compareOp op) r)(ho':OpR X (compareOp op') r')(ha:PE X a ta)(hb:PE X b tb)(hc:PE X c tc)
 (hm:lastMarks [op,op'] [b,c]=false:=by with_unfolding_all rfl):PE X (.Compare a [op,op'] [b,c] pos) (eJ r r' ta tb tc):=by
 intro pins s σ H Q I h
 refine Compare_chain (thn (ha pins s σ H _ I h) fun v s1 ⟨x,H1,I1,r1,q1⟩=>chain_link (thn (hb pins s1 σ H1 _ I1 q1) fun u s2 ⟨y,H2,I2,r2,q2⟩=>
  thn (ho pins s2 σ H2 x y v u _ I2 r1 r2 q2) fun d s3 ⟨z,H3,I3,r3,k,e,q3⟩=>?_)) hm
 subst e
 cases r3
 refine wpAny_truthy_bool ?_
 cases k with
 |false=>exact ite_ff ⟨.bl false,H3,I3,rfl,q3⟩
 |true=>exact ite_tt (chain_last (thn (hc pins s3 σ H3 _ I3 q3) fun w' s4 ⟨z',H4,I4,r4,q4⟩=>ho' pins s4 σ H4 y z' u w' Q I4 r2 r4 q4))
theorem fW{op op':CmpOp}{r r':R2}(ho:OpR X (compareOp op) r)(ho':OpR X (compareOp op') r')(ha:PE X a ta)(hb:PE X b tb)(hc:PE X c tc)
 (hm:lastMarks [op,op'] [b,c]=false:=by with_unfolding_all rfl):PT X (.Compare a [op,op'] [b,c] pos) (aI (eJ r r' ta tb tc)):=by
 intro pins s σ H Q I h
 refine isTrue_chain (thn (ha pins s σ H _ I h) fun v s1 ⟨x,H1,I1,r1,q1⟩=>test_link (thn (hb pins s1 σ H1 _ I1 q1) fun u s2 ⟨y,H2,I2,r2,q2⟩=>
  thn (ho pins s2 σ H2 x y v u _ I2 r1 r2 q2) fun d s3 ⟨z,H3,I3,r3,k,e,q3⟩=>?_)) hm
 subst e
 cases r3
 refine wpAny_truthy_bool ?_
 cases k with
 |false=>
  obtain⟨k',e',q'⟩:=q3
  cases e'
  exact ite_ff ⟨H3,I3,q'⟩
 |true=>
  refine ite_tt (test_last (thn (hc pins s3 σ H3 _ I3 q3) fun w' s4 ⟨z',H4,I4,r4,q4⟩=>thn (ho' pins s4 σ H4 y z' u w' _ I4 r2 r4 q4) fun d' s5 ⟨z2,H5,I5,r5,k2,e2,q5⟩=>?_))
  subst e2
  cases r5
  exact wpAny_truthy_bool ⟨H5,I5,q5⟩
noncomputable def aT(K:PySem.W.Frag)(x:V)(H:Hp)(k:Bool):Prop:=
 match x with
 |.non=>k=false
 |.bl b=>k=b
 |.int i=>k=(i != 0)
 |.str y=>y.length≤sizeLine∧k=((y.length:Int) != 0)
 |.byt y=>y.size≤sizeLine∧k=((y.size:Int) != 0)
 |.ref p=>(∃xs,SqL K H p xs∧k=!xs.isEmpty)∨(∃xs,SqT K H p xs∧k=!xs.isEmpty)∨∃kvs,H p=some (.dK kvs)∧k=!kvs.isEmpty
 |_=>False
theorem n5{κ:Type}{kvs:List (κ × V)}{vs:List (κ × Value)}(r:KV kvs vs):(!vs.isEmpty)=!kvs.isEmpty:=by
 cases r<;>rfl
theorem sg{xs:List V}{its:List Value}(r:Vals xs its):(!its.toArray.isEmpty)=!xs.isEmpty:=by
 cases r<;>simp
theorem v3:(sizeLine:Nat)<2 ^ 63:=by rw[sizeLine_eq];decide
theorem Ym:Wq X (fun x H Q=>∃k,aT X.K x H k∧Q k H):=by
 intro pins s σ H x v Q I rx h
 obtain⟨k,e,q⟩:=h
 have hl:=v3
 have hs:sizeLine=16777216:=sizeLine_eq
 cases x with
 |non=>
  cases rx
  have e':k=false:=e
  subst e'
  exact truthy_none ⟨H,I,q⟩
 |bl b=>
  cases rx
  have e':k=b:=e
  subst e'
  exact wpAny_truthy_bool ⟨H,I,q⟩
 |int i=>
  obtain⟨t,rfl⟩:=rx
  have e':k=(i != 0):=e
  subst e'
  exact PySem.P.truthy_int ⟨H,I,q⟩
 |str y=>
  obtain⟨t,rfl⟩:=rx
  obtain⟨hy,e'⟩:y.length≤sizeLine∧k=((y.length:Int) != 0):=e
  subst e'
  exact PySem.P.truthy_str (by omega) ⟨H,I.tok _,q⟩
 |byt y=>
  obtain⟨t,rfl⟩:=rx
  obtain⟨hy,e'⟩:y.size≤sizeLine∧k=((y.size:Int) != 0):=e
  subst e'
  exact PySem.W.truthy_bytes (by omega) ⟨H,I.tok _,q⟩
 |ref p=>
  cases rx
  have e':(∃xs,SqL X.K H p xs∧k=!xs.isEmpty)∨(∃xs,SqT X.K H p xs∧k=!xs.isEmpty)∨∃kvs,H p=some (.dK kvs)∧k=!kvs.isEmpty:=e
  rcases e' with⟨xs,hx,e'⟩|⟨xs,hx,e'⟩|⟨kvs,hx,e'⟩
  . subst e'
    obtain⟨its,r,pl,hz⟩:=I.list hx
    have hlen:=r.length
    exact wpAny_truthy_list pl.isList (by simp only[List.size_toArray];omega) ⟨H,I.tok _,by rw[sg r];exact q⟩
  . subst e'
    obtain⟨its,r,pl,hz⟩:=I.tuple hx
    have hlen:=r.length
    exact truthy_tuple pl (by simp only[List.size_toArray];omega) ⟨H,I.tok _,by rw[sg r];exact q⟩
  . subst e'
    obtain⟨hz,hS,vs,r,m⟩:kvs.length≤sizeLine∧(p == sysModules)=false∧∃vs,KV kvs vs∧s.heap.DictOf (pU X.prog X.w) p vs:=I.hok p _ hx
    have hlen:kvs.length=vs.length:=Paired.length r
    exact wpAny_truthy_dict hS m (by omega) ⟨H,I.tok _,by rw[n5 r];exact q⟩
 |_=>exact(show False from e).elim
theorem fX(ha:PE X a ta)(he:∀whole,isTrue a X.env whole=(do let v ←whole;standAt a.pos;holding [v] (truthy v))) :
 PT X a (fun σ H Q=>ta σ H fun x H'=>∃k,aT X.K x H' k∧Q k H'):=by
 intro pins s σ H Q I h
 exact isTrue_plain (thn (ha pins s σ H _ I h) fun v s1 ⟨x,H1,I1,r1,q1⟩=>Ym pins s1 σ H1 x v Q I1 r1 q1) (he _)
theorem mO:OpR X (binaryOp .Add) (fun x y H Q=>∃i j,x=.str i∧y=.str j∧i.length+j.length≤sizeLine∧Q (.str (i++j)) H):=by
 intro pins s σ H x y v u Q I rx ry h
 obtain⟨i,j,rfl,rfl,hz,q⟩:=h
 obtain⟨t,rfl⟩:=rx
 obtain⟨t',rfl⟩:=ry
 exact add_str (fun t' tk=>⟨.str (i++j),H,I.tok _,⟨_,rfl⟩,q⟩) hz
theorem vals1{x:V}{us:List Value}(r:Vals [x] us):∃u,us=[u]∧RelV x u:=by
 cases r with
 |cons r1 r2=>cases r2;exact⟨_,rfl,r1⟩
theorem vals2{x y:V}{us:List Value}(r:Vals [x,y] us):∃u w',us=[u,w']∧RelV x u∧RelV y w':=by
 cases r with
 |cons r1 r2=>
  cases r2 with
  |cons r3 r4=>cases r4;exact⟨_,_,rfl,r1,r3⟩
theorem kn(hc:X.calm=true):z9 X (.builtin "max") (fun xs H Q=>∃i j,xs=[.int i,.int j]∧Q (.int (if j > i then j else i)) H):=by
 intro pins s σ H xs us Q I r h
 obtain⟨i,j,rfl,q⟩:=h
 obtain⟨u,w',rfl,⟨t,rfl⟩,⟨t',rfl⟩⟩:=vals2 r
 refine max_two_ints (I.ok.hd hc) fun h' tk k=>⟨_,H,I.kept k,?_,q⟩
 by_cases hj:j > i
 . rw[if_pos hj,if_pos hj];exact⟨_,rfl⟩
 . rw[if_neg hj,if_neg hj];exact⟨_,rfl⟩
theorem kr(hc:X.calm=true):z9 X (.builtin "min") (fun xs H Q=>∃i j,xs=[.int i,.int j]∧Q (.int (if j<i then j else i)) H):=by
 intro pins s σ H xs us Q I r h
 obtain⟨i,j,rfl,q⟩:=h
 obtain⟨u,w',rfl,⟨t,rfl⟩,⟨t',rfl⟩⟩:=vals2 r
 refine min_two_ints (I.ok.hd hc) fun h' tk k=>⟨_,H,I.kept k,?_,q⟩
 by_cases hj:j<i
 . rw[if_pos hj,if_pos hj];exact⟨_,rfl⟩
 . rw[if_neg hj,if_neg hj];exact⟨_,rfl⟩
theorem qK:z9 X (.type "int") (fun xs H Q=>(∃i,xs=[.int i]∧Q (.int i) H)∨∃k,xs=[.bl k]∧Q (.int (if k then 1 else 0)) H):=by
 intro pins s σ H xs us Q I r h
 rcases h with⟨i,rfl,q⟩|⟨k,rfl,q⟩
 . obtain⟨u,rfl,t,rfl⟩:=vals1 r
   exact call_int_int ⟨.int i,H,I,⟨_,rfl⟩,q⟩
 . obtain⟨u,rfl,r1⟩:=vals1 r
   cases r1
   exact call_int_bool ⟨.int (if k then 1 else 0),H,I.tok _,⟨_,rfl⟩,q⟩
theorem pH:z9 X (.type "str") (fun xs H Q=>∃i,xs=[.int i]∧i.natAbs.log2<1920∧Q (.str (toString i)) H):=by
 intro pins s σ H xs us Q I r h
 obtain⟨i,rfl,hz,q⟩:=h
 obtain⟨u,rfl,t,rfl⟩:=vals1 r
 exact PySem.P.str_of_int hz ⟨.str _,H,I.tok _,⟨_,rfl⟩,q⟩
theorem vM:z9 X (.builtin "divmod") (fun xs H Q=>∃i j,xs=[.int i,.int j]∧aM i j∧∀p,H p=none→Q (.ref p) (upd H p (.tup [.int (i/j),.int (i%j)]))):=by
 intro pins s σ H xs us Q I r h
 obtain⟨i,j,rfl,⟨h1,h2⟩,q⟩:=h
 obtain⟨u,w',rfl,⟨t,rfl⟩,⟨t',rfl⟩⟩:=vals2 r
 refine divmod_int (by omega) ?_ (.inl (PyProof.noPylong_small (by omega)))
 rw[Int.fdiv_eq_ediv_of_nonneg i (by omega),Int.fmod_eq_emod_of_nonneg i (by omega)]
 have hn:H s.heap.objs.size=none:=I.hok.fresh (Nat.le_refl _)
 refine⟨.ref s.heap.objs.size,_,?_,rfl,q _ hn⟩
 refine I.laid (fun b o e=>Heap.get?_push_of_some _ e) (Nat.le_refl _) ⟨by simp only[List.length_cons,List.length_nil];rw[sizeLine_eq];decide,[.int (i/j) s.toks,.int (i%j) (s.toks+1)],.cons ⟨_,rfl⟩ (.cons ⟨_,rfl⟩ .nil),?_⟩
 exact⟨_,Heap.get?_push_size s.heap rfl,rfl,0,rfl,rfl⟩
end
end L2
namespace L2
open PySem PySem.Spec PyProof.Rows
structure aO(h:Heap)(x dx C:Addr)(mA:Str→Option Value):Prop where
 obj:h.get? x=some (PySem.W.instObj C dx)
 ns:h.Ns1 dx mA
 ne:dx≠x
theorem jR{h:Heap}{dx:Addr}{mA:Str→Option Value}(n:h.Ns1 dx mA):∃od,h.get? dx=some od∧∀name,PySem.W.lookIn name od=some (mA name):=by
 obtain⟨o,es,ep,ho,hd,hk,_,hm⟩:=n
 refine⟨o,ho,fun name=>?_⟩
 have e:=hm name
 unfold nsFind findBy at e
 rw[←Array.find?_toList]at e
 unfold PySem.W.lookIn
 rw[hd]
 dsimp only
 split
 . rename_i y q
   rw[q]at e
   exact congrArg some e
 . rename_i q
   rw[q]at e
   have a:es.toList.any (·.refKey)=false:=by
    rw[List.any_eq_false]
    intro y hy
    obtain⟨z,t,hkey⟩:=hk y (Array.mem_toList_iff.mp hy)
    simp[DictEntry.refKey,hkey]
   have a':¬es.toList.any (·.refKey)=true:=by rw[a];exact Bool.false_ne_true
   rw[if_neg a']
   exact congrArg some e
theorem aO.look{h:Heap}{x dx C:Addr}{mA:Str→Option Value}(I:aO h x dx C mA):∃od,PySem.W.InstAt h x (PySem.W.instObj C dx) C (some od)∧∀name,PySem.W.lookIn name od=some (mA name):=
 let ⟨od,ho,hl⟩:=jR I.ns
 ⟨od,⟨I.obj,rfl,rfl,ho⟩,hl⟩
section
variable {P:Program}{w:World}{H H':Hp}{h h':Heap}{a C dx:Addr}{fs fs':List (Str × V)}
theorem dH(hok:HOk P w H h)(e:H a=some (.ins C dx fs)):∃mA,aO h a dx C mA∧(∀f,aQ (fs.lookup f) (mA f))∧PySem.Within mA (fs.map (·.1))∧fs.length≤1000∧H dx=some (.own a):=by
 obtain⟨d,z,ne,ob,mA,n,r,q⟩:=(show z5 P w H h a (.ins C dx fs) from hok a _ e)
 exact⟨mA,⟨ob,n,ne⟩,r,q,z,d⟩
end
structure Cls(K:PySem.W.Frag)(C:Addr):Prop where
 pg:PySem.W.plainGet K C Str.empty=true
 hd:PySem.W.hasDictIn K C=true
 po:PySem.W.plainOver K C=true
 sa:PySem.W.findIn K (.ref C) "__setattr__"=some (some (.builtin "object.__setattr__"))
theorem Cls.get{K:PySem.W.Frag}{C:Addr}(c:Cls K C)(f:Str):PySem.W.plainGet K C f=true:=c.pg
section
variable {X:Cx}{pins:List (Addr × Obj)}{σ:St}{H:Hp}{s:Shared}{A:Around}{E:Value→Shared→Prop}{Q:Value→Shared→Prop}{c:Value}{b:Bool}
inductive uF(K:PySem.W.Frag)(H:Hp):V→Value→Prop where
 |non:uF K H .non (.type "NoneType")
 |bl (x:Bool):uF K H (.bl x) (.type "bool")
 |int (i:Int):uF K H (.int i) (.type "int")
 |str (x:Str):uF K H (.str x) (.type "str")
 |flt (x:UInt64):uF K H (.flt x) (.type "float")
 |lst {a:Addr} {xs:List V} (e:H a=some (.lst xs)):uF K H (.ref a) (.type "list")
 |frz {a:Addr} {o:Obj} {xs:List V} (e:H a=some (.frz o (.lst xs))):uF K H (.ref a) (.type "list")
 |tup {a:Addr} {xs:List V} (e:H a=some (.tup xs)):uF K H (.ref a) (.type "tuple")
 |dK {a:Addr} {kvs:List (Key × V)} (e:H a=some (.dK kvs)):uF K H (.ref a) (.type "dict")
 |dT {a:Addr} {kvs:List (List Key × V)} (e:H a=some (.dT kvs)):uF K H (.ref a) (.type "dict")
 |ins {a C dx:Addr} {fs:List (Str × V)} (e:H a=some (.ins C dx fs)) (cl:Cls K C) (ha:PySem.W.findIn K (.ref C) "__class__"=some (some (.builtin "object.__class__")))
  (hn:PySem.W.specialIn K (.builtin "object.__class__") "__get__"=some (some (.builtin "getset_descriptor.__get__"))) (htk:PySem.W.takesIn K (.builtin "object.__class__")=some true)
  (hm:PySem.W.mroIn K C (.type "object")=some true):uF K H (.ref a) (.ref C)
theorem jB{x:V}{u t:Value}(I:Inv X pins σ H s)(rx:RelV x u)(ty:uF X.K H x t)(e:PySem.W.kitOne X.K t c=some b)(h:∀tk,Q (.bool b) {s with toks:=tk}) :
 wpAny (model X.prog X.w) A (call (.builtin "isinstance") [u,c]) Q E s:=by
 cases ty with
 |non=>cases (show u=Value.none from rx);exact PySem.W.kia_one PySem.W.kitx_none I.kIn True.intro e (fun z=>nomatch z) h
 |bl y=>cases (show u=Value.bool y from rx);exact PySem.W.kia_one PySem.W.kitx_bool I.kIn True.intro e (fun z=>nomatch z) h
 |int i=>obtain⟨t,q⟩:=(show ∃t,u=Value.int i t from rx);cases q;exact PySem.W.kia_one PySem.W.kitx_int I.kIn True.intro e (fun z=>nomatch z) h
 |str y=>obtain⟨t,q⟩:=(show ∃t,u=Value.str y t from rx);cases q;exact PySem.W.kia_one PySem.W.kitx_str I.kIn True.intro e (fun z=>nomatch z) h
 |flt y=>obtain⟨t,q⟩:=(show ∃t,u=Value.float y t from rx);cases q;exact PySem.W.kia_one PySem.W.kitx_float I.kIn True.intro e (fun z=>nomatch z) h
 |@lst a xs ea=>
  cases (show u=Value.ref a from rx)
  obtain⟨_,_,n,_,h1⟩:=(show z5 X.prog X.w H s.heap a (.lst xs) from I.hok a _ ea)
  exact PySem.W.kia_one PySem.W.kitx_list I.kIn ⟨_,h1,rfl⟩ e (fun z=>nomatch z) h
 |@frz a ob xs ea=>
  cases (show u=Value.ref a from rx)
  obtain⟨_,_,_,n,_,h1⟩:=(show z5 X.prog X.w H s.heap a (.frz ob (.lst xs)) from I.hok a _ ea)
  exact PySem.W.kia_one PySem.W.kitx_list I.kIn ⟨_,h1,rfl⟩ e (fun z=>nomatch z) h
 |@tup a xs ea=>
  cases (show u=Value.ref a from rx)
  obtain⟨_,_,_,p⟩:=(show z5 X.prog X.w H s.heap a (.tup xs) from I.hok a _ ea)
  obtain⟨o,h1,h2,_⟩:=p
  exact PySem.W.kia_one PySem.W.kitx_tuple I.kIn ⟨o,h1,h2⟩ e (fun z=>nomatch z) h
 |@dK a kvs ea=>
  cases (show u=Value.ref a from rx)
  obtain⟨_,_,vs,_,p⟩:=(show z5 X.prog X.w H s.heap a (.dK kvs) from I.hok a _ ea)
  obtain⟨o,es,ep,h1,h2,_⟩:=p
  exact PySem.W.kia_one PySem.W.kitx_dict I.kIn ⟨o,h1,h2.1⟩ e (fun z=>nomatch z) h
 |@dT a kvs ea=>
  cases (show u=Value.ref a from rx)
  obtain⟨_,_,xs,_,o,es,ep,h1,h2,_⟩:=(show z5 X.prog X.w H s.heap a (.dT kvs) from I.hok a _ ea)
  exact PySem.W.kia_one PySem.W.kitx_dict I.kIn ⟨o,h1,h2.1⟩ e (fun z=>nomatch z) h
 |@ins a C dx fs ea cl ha hn htk hm=>
  cases (show u=Value.ref a from rx)
  obtain⟨mA,O,_⟩:=dH I.hok ea
  obtain⟨od,J,_⟩:=O.look
  exact PySem.W.kia_one (PySem.W.kitx_own (cl.get _) cl.hd ha hn htk hm) I.kIn J e (fun z=>nomatch z) h
end
end L2
namespace L2
open PySem PySem.Spec PyProof.Rows
structure y9(k:Nat)(A:Around):Prop where
 hd:A.handled=none
 dp:A.depth+3*k+5<recursionLimit
 un:A.units+16*k+200<cLine
 gd:A.guards=some []
theorem y9.deeper{k:Nat}{A:Around}(r:y9 (k+1) A)(env:Env):y9 k (A.deeper env):=
 ⟨r.hd,by have:=r.dp;show A.depth+1+3*k+5<_;omega,by have:=r.un;show A.units+3+16*k+200<_;omega,r.gd⟩
theorem y9.depth{k:Nat}{A:Around}(r:y9 k A):A.depth<recursionLimit:=by have:=r.dp;omega
noncomputable def iD:TA:=fun _ H Q=>Q [] H
noncomputable def qo(ta:TE)(tr:TA):TA:=fun σ H Q=>ta σ H fun x H1=>tr σ H1 fun xs H2=>Q (x::xs) H2
section
variable {X:Cx}{e:Expr}{es:List Expr}{te:TE}{t:TA}{pos:Pos}
theorem vR:PA X [] iD:=fun _ _ _ _ H Q I h=>Calls.spliced_nil ⟨[],H,I,.nil,h⟩
theorem cT(ha:PE X e te)(hr:PA X es t)(hs:starEach (e::es) X.env=(false,eval e X.env)::starEach es X.env:=by rfl):PA X (e::es) (qo te t):=by
 intro pos pins s σ H Q I h
 rw[hs]
 show wpAny _ _ (spliced ((false,eval e X.env)::backTo pos (starEach es X.env))) _ _ s
 refine Calls.spliced_cons (thn (ha pins s σ H _ I h) fun u s1 ⟨x,H1,I1,r1,q1⟩=>?_)
 exact thn (hr pos pins s1 σ H1 _ I1 q1) fun us s2 ⟨xs,H2,I2,r2,q2⟩=>⟨x::xs,H2,I2,.cons r1 r2,q2⟩
noncomputable def VQ(t:TA):TE:=fun σ H Q=>t σ H fun xs H1=>xs.length≤sizeLine∧∀p,H1 p=none→Q (.ref p) (upd H1 p (.tup xs))
noncomputable def VJ(t:TA):TE:=fun σ H Q=>t σ H fun xs H1=>xs.length≤sizeLine∧∀p,H1 p=none→Q (.ref p) (upd H1 p (.lst xs))
theorem YL{x1}(h:PA X es t):PE X (.Tuple es x1 pos) (VQ t):=by
 intro pins s σ H Q I hq
 refine wpAny_Tuple_spliced (thn (h pos pins s σ H _ I hq) fun us s1 ⟨xs,H1,I1,r,z,q⟩=>⟨by rw[←r.length];exact z,?_⟩)
 have hf:H1 s1.heap.objs.size=none:=I1.hok.fresh (Nat.le_refl _)
 refine⟨.ref s1.heap.objs.size,upd H1 s1.heap.objs.size (.tup xs),I1.laid (t':=s1.toks) (fun b u e=>Heap.get?_push_of_some _ e) (Nat.le_refl _) ?_,rfl,q _ hf⟩
 exact⟨z,us,r,⟨_,Heap.get?_push_size _ rfl,rfl,_,rfl,rfl⟩⟩
theorem YH(h:PA X es t):PE X (.List es pos) (VJ t):=by
 intro pins s σ H Q I hq
 refine wpAny_List_spliced (thn (h pos pins s σ H _ I hq) fun us s1 ⟨xs,H1,I1,r,z,q⟩=>⟨by rw[←r.length];exact z,?_⟩)
 have hf:H1 s1.heap.objs.size=none:=I1.hok.fresh (Nat.le_refl _)
 refine⟨.ref s1.heap.objs.size,upd H1 s1.heap.objs.size (.lst xs),I1.laid (t':=s1.toks) (fun b u e=>Heap.get?_push_of_some _ e) (Nat.le_refl _) ?_,rfl,q _ hf⟩
 exact⟨z,us,0,r,Heap.get?_push_size _ rfl⟩
end
noncomputable abbrev Sp:=List V→Hp→VK→XK→Prop
noncomputable abbrev CXT:=List Env→Hp→Shared→XK→Value→Shared→Prop
structure eW(P:Program)(w:World)(K:PySem.W.Frag)(mg:Str→Option Value)(base:Heap)(A:Around)(outer:List Env)(s:Shared)(H:Hp):Prop where
 frames:A.frames=some outer
 mod:Mod K mg base
 bs:∀b o,base.get? b=some o→s.heap.get? b=some o∧H b=none
 bsz:base.objs.size≤s.heap.objs.size
 sZ:s.heap.FunFrames base outer
 frf:∀b∈frs outer,H b=none
 hok:HOk P w H s.heap
 bare:AllBare s.gens
noncomputable def CE(outer:List Env)(P:Program)(w:World)(H:Hp)(s:Shared)(Q:VK)(u:Value)(s':Shared):Prop:=
 ∃v H',s'.os=s.os∧AllBare s'.gens∧Un (frs outer) [] H H' s.heap s'.heap∧HOk P w H' s'.heap∧RelV v u∧Q v H'
noncomputable def CR(CX:CXT)(outer:List Env)(P:Program)(w:World)(H:Hp)(s:Shared)(Q:VK)(E:XK)(r:Result)(s':Shared):Prop:=
 match r with
 |.ok (.ret u)=>CE outer P w H s Q u s'
 |.ok _=>False
 |.error e=>CX outer H s E e s'
structure tY(P:Program)(w:World)(K:PySem.W.Frag)(mg:Str→Option Value)(base:Heap)(CX:CXT)(k:Nat)(f:Addr)(fd:FuncData)(ps:List Str)(sp:Sp):Prop where
 len:∀vs H Q E,sp vs H Q E→vs.length=ps.length
 run:∀(A:Around) (outer:List Env) (s:Shared) (H:Hp) (args:Args) (us:List Value) (vs:List V) (Q:VK) (E:XK),y9 k A→eW P w K mg base A outer s H→BindsTo s fd args (ps.zip us)→Vals vs us→sp vs H Q E →
  codeAny (model P w) A (.call (.ref f) args) (CR CX outer P w H s Q E) s
theorem tY.imp{P:Program}{w:World}{K:PySem.W.Frag}{mg:Str→Option Value}{base:Heap}{CX:CXT}{k:Nat}{f:Addr}{fd:FuncData}{ps:List Str}{sp sp':Sp}(F:tY P w K mg base CX k f fd ps sp)
 (h:∀vs H Q E,sp' vs H Q E→sp vs H Q E):tY P w K mg base CX k f fd ps sp':=
 ⟨fun vs H Q E q=>F.len vs H Q E (h _ _ _ _ q),fun A outer s H args us vs Q E hr he hb hv hs=>F.run A outer s H args us vs Q E hr he hb hv (h _ _ _ _ hs)⟩
section
variable {X:Cx}{pins:List (Addr × Obj)}{σ:St}{H:Hp}{s s':Shared}
theorem Inv.Ww(I:Inv X pins σ H s):eW X.prog X.w X.K X.mg X.base X.A X.stack s H:=
 ⟨I.ok.frames,I.ok.mod,I.bs,Nat.le_trans I.ok.bsz I.sz,I.stack,I.kZ,I.hok,I.bare⟩
theorem Inv.after{Q:VK}{u:Value}(I:Inv X pins σ H s)(h:CE X.stack X.prog X.w H s Q u s'):EP X pins σ Q u s':=by
 obtain⟨v,H',os,bare,un,hok,r,q⟩:=h
 obtain⟨hh,g,d,t,os'⟩:=s'
 obtain rfl:os'=s.os:=os
 exact⟨v,H',I.call (h':=hh) (g':=g) (d':=d) (t':=t) (ch:=[]) un hok bare (fun b z=>absurd z (by simp)),r,q⟩
end
noncomputable def aF(sp:Sp)(dvs:List V)(E:XK)(t:TA):TE:=fun σ H Q=>t σ H fun vs H1=>sp (vs++dvs) H1 Q E
noncomputable def Binds(K:PySem.W.Frag)(fd:FuncData)(ps:List Str)(ds:List Value):Prop:=
 ∀(s:Shared) (us:List Value),K.In s.heap→(us++ds).length=ps.length→BindsTo s fd ⟨us,[]⟩ (ps.zip (us++ds))
theorem Binds.all{K:PySem.W.Frag}{fd:FuncData}{ps:List Str}(h:∀us:List Value,us.length=ps.length→bindArgs fd ⟨us,[]⟩=pure (ps.zip us)):Binds K fd ps []:=fun s us _ hl=>by
 rw[List.append_nil]at hl ⊢
 exact .of_eq (h us hl)
noncomputable def Passes(CX:CXT)(X:Cx)(E:XK):Prop:=∀(pins:List (Addr × Obj)) (σ:St) (H:Hp) (s:Shared) (e:Value) (s':Shared),Inv X pins σ H s→CX X.stack H s E e s'→X.xe e s'
section
variable {X:Cx}{CX:CXT}{k:Nat}{f C:Addr}{fd:FuncData}{ps:List Str}{sp:Sp}{dvs:List V}{ds:List Value}{E:XK}{x m:Str}{p pos apos:Pos}{e o:Expr}{es:List Expr}{ta:TE}{t:TA}
theorem fq{pins:List (Addr × Obj)}{σ:St}{H:Hp}{s:Shared}{Q:VK}{us:List Value}{vs:List V}(F:tY X.prog X.w X.K X.mg X.base CX k f fd ps sp)(hr:y9 k X.A)(hb:Binds X.K fd ps ds)(hd:Vals dvs ds)(hx:Passes CX X E)
 (I:Inv X pins σ H s) (r:Vals vs us) (h:sp (vs++dvs) H Q E):wpAny (model X.prog X.w) X.A (call (.ref f) us) (EP X pins σ Q) X.xe s:=by
 have r2:Vals (vs++dvs) (us++ds):=r.append hd
 have hl:(us++ds).length=ps.length:=by rw[←r2.length];exact F.len _ _ _ _ h
 refine wpAny_call (codeAny_mono (F.run X.A X.stack s H ⟨us,[]⟩ (us++ds) (vs++dvs) Q E hr I.Ww (hb s us I.kIn hl) r2 h) fun r s' hq=>?_)
 cases r with
 |error e=>exact hx pins σ H s e s' I hq
 |ok fl=>
  cases fl with
  |ret u=>exact I.after hq
  |next=>exact False.elim hq
  |brk=>exact False.elim hq
  |cont=>exact False.elim hq
theorem cX(F:tY X.prog X.w X.K X.mg X.base CX k f fd ps sp)(hr:y9 k X.A)(hg:Gl X x)(hm:X.mg x=some (.ref f))(hk:PySem.W.keepIn X.K (.ref f)=true)(hb:Binds X.K fd ps ds)(hd:Vals dvs ds)(hx:Passes CX X E)
 (ha:PA X (e::es) t) (hdb:(x == ("__debug__":Str))=false:=by decide) (he:starEach (e::es) X.env=(false,eval e X.env)::starEach es X.env:=by rfl) (hpl:(backTo pos (starEach es X.env)).any (·.1)=false:=by rfl) :
 PE X (.Call (.Name x p) (e::es) [] pos) (aF sp dvs E t):=by
 intro pins s σ H Q I h
 refine wpAny_Call_Name_kw (pS I hg hm ?_ hdb)
 refine PySem.W.callWith_K (h₀:=X.base) I.ok.mod.kin hk (thn (ha pos pins s σ H _ I h) fun us s1 ⟨vs,H1,I1,r,q⟩=>⟨I1.kIn,?_⟩) he hpl
 exact fq F hr hb hd hx I1 r q
theorem fG(F:tY X.prog X.w X.K X.mg X.base CX k f fd ps sp)(hr:y9 k X.A)(hg:Gl X x)(hm:X.mg x=some (.ref f))(hk:PySem.W.keepIn X.K (.ref f)=true)(hb:Binds X.K fd ps ds)(hd:Vals dvs ds)(hx:Passes CX X E)
 (hdb:(x == ("__debug__":Str))=false:=by decide):PE X (.Call (.Name x p) [] [] pos) (aF sp dvs E iD):=by
 intro pins s σ H Q I h
 refine wpAny_Call_Name_kw (pS I hg hm ?_ hdb)
 exact PySem.W.callWith_K0 I.kIn hk (fq (us:=[]) F hr hb hd hx I .nil h)
end
structure tu(N P:List Str)(sc:Scope):Prop where
 kind:sc.kind=.function
 co:sc.isCoroutine=false
 gen:sc.isGenerator=false
 nd:N.Nodup
 pre:N.take P.length=P
 par:∀x∈P,sc.names.lookup x=some .local∨sc.names.lookup x=some .cell
 nofree:∀y∈sc.names,y.2≠.free
theorem qI{kindOf:Str→Option NameKind}{x:Str}:∀{binds:List (Str × Value)} {m:Str→Option Value},(∀v,(x,v) ∉ binds)→bindL kindOf binds m x=m x
 |[],_,_=>rfl
 |(n,v)::r,m,h=>by
  unfold bindL
  rw[qI fun w hw=>h w (List.mem_cons_of_mem _ hw)]
  split
  . have:x≠n:=by rintro rfl;exact h v List.mem_cons_self
    simp[this]
  . rfl
theorem qG{kindOf:Str→Option NameKind}{x:Str}:∀{binds:List (Str × Value)} {m:Str→Option Value},(∀v,(x,v) ∉ binds)→bindC kindOf binds m x=m x
 |[],_,_=>rfl
 |(n,v)::r,m,h=>by
  unfold bindC
  rw[qG fun w hw=>h w (List.mem_cons_of_mem _ hw)]
  split
  . rfl
  . have:x≠n:=by rintro rfl;exact h v List.mem_cons_self
    simp[this]
theorem qH{kindOf:Str→Option NameKind}{x:Str}{v:Value}:∀{P:List Str} {vs:List Value} {i:Nat} {m:Str→Option Value},P.Nodup→P[i]?=some x→vs[i]?=some v→kindOf x=some .local →
 bindL kindOf (P.zip vs) m x=some v
 |[],_,_,_,_,h,_,_=>by simp at h
 |_::_,[],_,_,_,_,h,_=>by simp at h
 |p::P,w::vs,0,m,nd,h1,h2,hk=>by
  simp at h1 h2;subst h1;subst h2
  show bindL kindOf ((p,w)::P.zip vs) m p=_
  unfold bindL
  rw[qI fun v hv=>(List.nodup_cons.mp nd).1 (List.of_mem_zip hv).1,if_pos hk]
  simp
 |p::P,w::vs,i+1,m,nd,h1,h2,hk=>by
  show bindL kindOf ((p,w)::P.zip vs) m x=_
  unfold bindL
  exact qH (i:=i) (List.nodup_cons.mp nd).2 (by simpa using h1) (by simpa using h2) hk
theorem qF{kindOf:Str→Option NameKind}{x:Str}{v:Value}:∀{P:List Str} {vs:List Value} {i:Nat} {m:Str→Option Value},P.Nodup→P[i]?=some x→vs[i]?=some v→kindOf x≠some .local →
 bindC kindOf (P.zip vs) m x=some v
 |[],_,_,_,_,h,_,_=>by simp at h
 |_::_,[],_,_,_,_,h,_=>by simp at h
 |p::P,w::vs,0,m,nd,h1,h2,hk=>by
  simp at h1 h2;subst h1;subst h2
  show bindC kindOf ((p,w)::P.zip vs) m p=_
  unfold bindC
  rw[qG fun v hv=>(List.nodup_cons.mp nd).1 (List.of_mem_zip hv).1,if_neg hk]
  simp
 |p::P,w::vs,i+1,m,nd,h1,h2,hk=>by
  show bindC kindOf ((p,w)::P.zip vs) m x=_
  unfold bindC
  exact qF (i:=i) (List.nodup_cons.mp nd).2 (by simpa using h1) (by simpa using h2) hk
noncomputable def start(N:List Str)(vs:List V):St:=vs.map some++List.replicate (N.length-vs.length) none
noncomputable def nt(CX:CXT)(P:Program)(w:World)(K:PySem.W.Frag)(mg:Str→Option Value)(base:Heap)(N:List Str)(qual:Str)(scope:Scope)(f:Addr)(cd:Value)(A:Around)(outer:List Env)(s:Shared)(H:Hp)(E:XK):Cx where
 prog:=P
 w:=w
 K:=K
 mg:=mg
 base:=base
 A:=A.deeper (envOfC qual scope s.heap.objs.size f cd)
 N:=N
 s₀:=s
 H₀:=H
 env:=envOfC qual scope s.heap.objs.size f cd
 outer:=outer
 stack:=envOfC qual scope s.heap.objs.size f cd::outer
 ex:=[]
 calm:=true
 fn:=fun _=>true
 pn:=[]
 xe:=fun e s'=>wpAny (model P w) (A.deeper (envOfC qual scope s.heap.objs.size f cd)) (leaving (envOfC qual scope s.heap.objs.size f cd) e) (fun _ s''=>CX outer H s E e s'') (fun e' s''=>CX outer H s E e' s'') s'
theorem oM{sc:Scope}{n:Nat}{x:Str}(h:sc.names.lookup x=some .cell):∃c,(cellsFrom n sc.names []).lookup x=some c:=by
 have q:=PySem.W.cellsFrom_some sc.names n [] (.inl h)
 exact Option.isSome_iff_exists.mp q
theorem jA{CX:CXT}{P:Program}{w:World}{K:PySem.W.Frag}{mg:Str→Option Value}{base:Heap}{N ps:List Str}{qual:Str}{scope:Scope}{f:Addr}{cd:Value}{A:Around}{outer:List Env}{s s1:Shared}{H:Hp}{E:XK}{us:List Value}{vs:List V}
 (S:tu N ps scope) (hd:A.handled=none) (e0:eW P w K mg base A outer s H) (hl:vs.length=ps.length) (r:Vals vs us)
 (x:InCallC s s.heap.objs.size (bindL (envOfC qual scope s.heap.objs.size f cd).kindOf (ps.zip us) fun _=>none) (cellsFrom (s.heap.objs.size+1) scope.names []) (bindC (envOfC qual scope s.heap.objs.size f cd).kindOf (ps.zip us) fun _=>none) s1) :
 Inv (nt CX P w K mg base N qual scope f cd A outer s H E) [] (start N vs) H s1:=by
 have hpl:ps.length≤N.length:=by have:=congrArg List.length S.pre;rw[List.length_take]at this;omega
 obtain⟨h1,tk,rfl,hk⟩:=x.done
 have noA:∀b:Addr,b ∉ (nt CX P w K mg base N qual scope f cd A outer s H E).ex:=fun b z=>absurd (show b∈([]:List Addr) from z) (by simp)
 refine⟨⟨e0.mod,S.kind,rfl,rfl,Nat.le_refl _,fun y z c h1 h2=>?_,fun y hy=>?_,fun y c _ h=>?_,fun _=>hd,Around.frames_deeper e0.frames,.inr ⟨rfl,rfl⟩,fun b z=>absurd z (noA b),e0.bs,e0.bsz,fun b _ _=>noA b,fun b z=>absurd z (noA b),e0.sZ,e0.frf⟩,
  rfl,e0.bare,Un.kept hk,⟨_,x.toInCall.ns,fun i y v h1 h2 h3=>?_⟩,fun y c h=>⟨_,x.cell y c h⟩,e0.hok.fresh (Nat.le_refl _),fun y c h=>?_,fun p hp=>absurd (show p∈([]:List (Addr × Obj)) from hp) (by simp),e0.hok.kept hk,?_⟩
 . exact name_of_addr x.apart (PySem.mem_of_lookup h1) (PySem.mem_of_lookup h2)
 . have hy:scope.names.lookup y=some .cell∨scope.names.lookup y=some .free:=hy
   rcases hy with hy|hy
   . exact oM hy
   . exact absurd rfl (S.nofree _ (PySem.mem_of_lookup hy))
 . exact Nat.le_of_lt (x.above y c (PySem.mem_of_lookup h))
 . have hi:i<vs.length:=by
    unfold start at h2
    by_cases hi:i<vs.length
    . exact hi
    . rw[List.getElem?_append_right (by simpa using hi)]at h2
      rw[List.getElem?_replicate]at h2
      split at h2<;>cases h2
   have ha:vs[i]?=some v:=by
    unfold start at h2
    rw[List.getElem?_append_left (by simpa using hi),List.getElem?_map]at h2
    cases e:vs[i]? with
    |none=>rw[e]at h2;cases h2
    |some a=>rw[e]at h2;cases h2;rfl
   obtain⟨u,hu,rv⟩:=r.get ha
   have hp:ps[i]?=some y:=by
    rw[←S.pre,List.getElem?_take_of_lt (by omega)];exact h1
   have ndP:ps.Nodup:=by rw[←S.pre];exact S.nd.sublist (List.take_sublist _ _)
   refine⟨u,rv,?_⟩
   rcases S.par y (List.mem_of_getElem? hp) with k|k
   . exact .inl ⟨k,qH ndP hp hu k⟩
   . obtain⟨c,e⟩:=oM (n:=s.heap.objs.size+1) k
     refine .inr ⟨.inl k,c,e,?_⟩
     have q:=x.cell y c e
     rw[qF ndP hp hu (by show scope.names.lookup y≠_;rw[k];decide)]at q
     exact q
 . exact e0.hok.fresh (Nat.le_of_lt (x.above y c (PySem.mem_of_lookup h)))
 . unfold start
   show _=N.length
   rw[List.length_append,List.length_map,List.length_replicate]
   omega
theorem Y8{CX:CXT}{P:Program}{w:World}{K:PySem.W.Frag}{mg:Str→Option Value}{base:Heap}{k:Nat}{f:Addr}{name qual:Str}{params:Arguments}{body:List Stmt}{scope:Scope}{dV kV doc pm cdv ct oc:Value}{an od:Option Addr}
 {osl:Array (Option Value)} {N ps:List Str} {sp:Sp} (lk:K.lookup f=some ⟨oc,od,.func (PySem.W.fnOf name qual params body scope dV kV doc pm an cdv ct),osl⟩) (hcd:PySem.W.codeIn K cdv qual=true) (S:tu N ps scope)
 (len:∀vs H Q E,sp vs H Q E→vs.length=ps.length)
 (hbody:∀(A:Around) (outer:List Env) (s:Shared) (H:Hp) (vs:List V) (Q:VK) (E:XK),y9 k (A.deeper (envOfC qual scope s.heap.objs.size f cdv))→sp vs H Q E →
  ∃t,PSs (nt CX P w K mg base N qual scope f cdv A outer s H E) body t∧t {nx:=fun _ H'=>Q .non H',rt:=Q} (start N vs) H) :
 tY P w K mg base CX (k+1) f (PySem.W.fnOf name qual params body scope dV kV doc pm an cdv ct) ps sp:=by
 refine⟨len,fun A outer s H args us vs Q E hr e0 hb r hsp=>?_⟩
 have hl:=len _ _ _ _ hsp
 have KX:K.In s.heap:=e0.mod.kin.keeps fun b o e=>(e0.bs b o e).1
 have lim:s.heap.NoLimit:=e0.mod.nolimit.keeps fun b o e=>(e0.bs b o e).1
 have hkind:∀y∈ps.zip us,scope.names.lookup y.1=some .local∨(scope.names.lookup y.1=some .cell∧((cellsFrom (s.heap.objs.size+1) scope.names []).lookup y.1).isSome=true):=fun⟨n,v⟩ hy=>by
  rcases S.par n (List.of_mem_zip hy).1 with q|q
  . exact .inl q
  . exact .inr ⟨q,PySem.W.cellsFrom_some _ _ _ (.inl q)⟩
 refine codeAny_call_function hr.depth (KX _ _ lk) rfl S.co S.gen rfl (PySem.W.codeRec_of KX hcd) (hb _ _ _ _ ?_)
 refine wpAny_newFunctionEnv_cells S.kind hkind fun env he s1 x=>?_
 subst he
 refine⟨lim.keeps x.toInCall.keep,codeAny_func ?_⟩
 obtain⟨t,ht,hq⟩:=hbody A outer s H vs Q E (hr.deeper _) hsp
 have I:Inv (nt CX P w K mg base N qual scope f cdv A outer s H E) [] (start N vs) H s1:=jA S hr.hd e0 hl r x
 refine wpAny_mono (ht [] s1 (start N vs) H _ I hq) (fun fl s' hs=>?_) fun e s' hs=>hs
 have fin:∀{σ':St} {H':Hp} {v:V} {u:Value},Inv (nt CX P w K mg base N qual scope f cdv A outer s H E) [] σ' H' s'→RelV v u→Q v H'→CE outer P w H s Q u s':=
  fun{σ' H' v u} J rv q=>⟨v,H',J.os,J.bare,J.base,J.hok,rv,q⟩
 cases fl with
 |ret u=>
  obtain⟨v,σ',H',J,rv,q⟩:=hs
  exact fin J rv q
 |next=>
  obtain⟨σ',H',J,q⟩:=hs
  exact fin (v:=V.non) (u:=Value.none) J rfl q
 |brk=>
  obtain⟨_,_,_,q⟩:=hs
  exact False.elim q
 |cont=>
  obtain⟨_,_,_,q⟩:=hs
  exact False.elim q
end L2
namespace L2
open PySem PySem.Spec PyProof.Rows
section
variable {X:Cx}{x:Str}{p pos:Pos}{e:Expr}{es:List Expr}{t:TA}{id T:String}{r:List V→Hp→VK→Prop}
noncomputable def tCB(r:List V→Hp→VK→Prop)(t:TA):TE:=fun σ H Q=>t σ H fun vs H1=>r vs H1 Q
theorem fH(hc:z9 X (.builtin id) r)(hg:Gl X x)(hm:X.mg x=none)(hv:bootBuiltins x=some (.builtin id))(ha:PA X (e::es) t)(hn:x≠"__name__":=by decide)(hdb:(x == ("__debug__":Str))=false:=by decide)
 (he:starEach (e::es) X.env=(false,eval e X.env)::starEach es X.env:=by rfl) (hpl:(backTo pos (starEach es X.env)).any (·.1)=false:=by rfl):PE X (.Call (.Name x p) (e::es) [] pos) (tCB r t):=by
 intro pins s σ H Q I h
 refine wpAny_Call_Name_kw (u6 I hg hm hv ?_ hn hdb)
 exact PyProof.Rows.callWith_builtin1 (thn (ha pos pins s σ H _ I h) fun us s1 ⟨vs,H1,I1,r1,q1⟩=>hc pins s1 σ H1 vs us Q I1 r1 q1) he hpl
theorem vg(hc:z9 X (.type T) r)(hg:Gl X x)(hm:X.mg x=none)(hv:bootBuiltins x=some (.type T))(ha:PA X (e::es) t)(hn:x≠"__name__":=by decide)(hdb:(x == ("__debug__":Str))=false:=by decide)
 (he:starEach (e::es) X.env=(false,eval e X.env)::starEach es X.env:=by rfl) (hpl:(backTo pos (starEach es X.env)).any (·.1)=false:=by rfl):PE X (.Call (.Name x p) (e::es) [] pos) (tCB r t):=by
 intro pins s σ H Q I h
 refine wpAny_Call_Name_kw (u6 I hg hm hv ?_ hn hdb)
 exact PyProof.Rows.callWith_type1 (thn (ha pos pins s σ H _ I h) fun us s1 ⟨vs,H1,I1,r1,q1⟩=>hc pins s1 σ H1 vs us Q I1 r1 q1) he hpl
end
end L2
namespace HT
open PySem PyProof.Rows
section
variable {prog:Program}{w:World}{A:Around}{E:Value→Shared→Prop}{s:Shared}
theorem eo{t b:Addr}{vs ws:List Value}{Q:Value→Shared→Prop}(ht:IsTup s.heap t vs.toArray)(hb:IsTup s.heap b ws.toArray)(hv:vs≠[])
 (h1:ws=[]→Q (.ref t) s) (h2:ws≠[]→Q (.ref s.heap.objs.size) {s with heap:=s.heap.push {cls:=.type "tuple",data:=.seq (vs++ws).toArray}})
 (hsz:vs.length+ws.length≤sizeLine):wpAny (model prog w) A (binaryOp .Add (.ref t) (.ref b)) Q E s:=by
 obtain⟨⟨cls,dd,data,sl⟩,ho,hc,n,hd⟩:=id ht
 obtain⟨⟨cls2,dd2,data2,sl2⟩,ho2,hc2,n2,hd2⟩:=id hb
 simp only at hc hd hc2 hd2
 subst hc hd hc2 hd2
 have e:vs.toArray++ws.toArray=(vs++ws).toArray:=by simp
 by_cases hw:ws=[]
 . exact concat_meets ⟨_,ho,rfl⟩ ⟨_,ho2,rfl⟩ noFill_tuple_add seq_tuple_add PySem.F.slot_tuple_add PySem.F.entry_tuple_add (PySem.F.args_tuple_add_2 _ _)
    (tuple_addW1 t b vs.toArray ws.toArray n n2 dd dd2 sl sl2 (by simpa using hv) (by simp[hw])) ⟨ho,ho2,h1 hw⟩
 . refine concat_meets ⟨_,ho,rfl⟩ ⟨_,ho2,rfl⟩ noFill_tuple_add seq_tuple_add PySem.F.slot_tuple_add PySem.F.entry_tuple_add (PySem.F.args_tuple_add_2 _ _)
    (tuple_addW2 t b vs.toArray ws.toArray n n2 dd dd2 sl sl2 (by simpa using hv) (by simpa using hw) (by rw[List.size_toArray,List.size_toArray];exact hsz)) ⟨ho,ho2,?_⟩
   rw[e]
   exact h2 hw
noncomputable def sIx(n d:Nat):Option Int→Nat
 |none=>d
 |some v=>if v<0 then (v+(n:Int)).toNat else min v.toNat n
theorem kY(n d k:Nat):sIx n d (some (k:Int))=min k n:=by
 show (if (k:Int)<0 then ((k:Int)+(n:Int)).toNat else min (k:Int).toNat n)=min k n
 rw[if_neg (by omega),Int.toNat_natCast]
theorem YX(n d:Nat)(hd:d≤n)(o:Option Int):sIx n d o≤n:=by
 cases o with
 |none=>exact hd
 |some v=>
  show (if v<0 then (v+(n:Int)).toNat else min v.toNat n)≤n
  by_cases hv:v<0
  . rw[if_pos hv];omega
  . rw[if_neg hv];exact Nat.min_le_right _ _
theorem lV(v:Int)(n d:Nat):(if v<0 then max (v+(n:Int)) 0 else min v (n:Int))=((sIx n d (some v):Nat):Int):=by
 show (if v<0 then max (v+(n:Int)) 0 else min v (n:Int))=(((if v<0 then (v+(n:Int)).toNat else min v.toNat n):Nat):Int)
 by_cases hv:v<0
 . simp only[if_pos hv];omega
 . simp only[if_neg hv];omega
theorem nc(lo hi:Option Int)(n:Nat):Builtin.Slice.sliceAdjust lo hi 1 (n:Int)=(((sIx n 0 lo:Nat):Int),((sIx n n hi:Nat):Int)):=by
 have h1:¬((1:Int)<0):=by omega
 unfold Builtin.Slice.sliceAdjust
 simp only[h1,if_false]
 refine Prod.ext ?_ ?_
 . cases lo with
   |none=>rfl
   |some v=>exact lV v n 0
 . cases hi with
   |none=>rfl
   |some v=>exact lV v n n
theorem me(i j:Nat):Builtin.Slice.slicePlaces (i:Int) (j:Int) 1=j-i:=by
 unfold Builtin.Slice.slicePlaces
 have h1:(1:Int) > 0:=by omega
 simp only[h1,if_true,Int.ediv_one]
 split<;>omega
theorem wJ{v:Value}{o:Option Int}{Q:Option Int→Shared→Prop}(p:IsPart v o)(h:Q o s):wpAny (model prog w) A (Builtin.Slice.slicePartIndex v) Q E s:=by
 cases p with
 |none=>exact slicePart_none h
 |int i t=>exact slicePart_int h
theorem wq{sl:Addr}{vl vu:Value}{lo hi:Option Int}{n:Nat}{Q:Int × Int × Nat→Shared→Prop}(hs:s.heap.IsSliceOf sl vl vu .none)(pl:IsPart vl lo)(pu:IsPart vu hi)
 (h:Q (((sIx n 0 lo:Nat):Int),1,sIx n n hi-sIx n 0 lo) s):wpAny (model prog w) A (Builtin.Slice.sliceApplied (.ref sl) (pure (n:Int))) Q E s:=by
 obtain⟨os,hos,hcs,hds⟩:=id hs
 unfold Builtin.Slice.sliceApplied Builtin.Slice.sliceFields
 refine wpAny_bind (wpAny_bind (wpAny_field hos hds (x:=vl) rfl (wpAny_bind (wpAny_field hos hds (x:=vu) rfl (wpAny_bind (wpAny_field hos hds (x:=.none) rfl (wpAny_pure ?_)))))))
 refine wpAny_bind (slicePart_none ?_)
 show wpAny _ _ (if ((1:Int) == 0)=true then _ else _) _ _ s
 rw[if_neg (by decide)]
 refine wpAny_bind (wJ pl (wpAny_bind (wJ pu (wpAny_bind (wpAny_pure ?_)))))
 show wpAny _ _ (match Builtin.Slice.sliceAdjust lo hi 1 (n:Int) with|(lo,hi)=>pure (lo,(1:Int),Builtin.Slice.slicePlaces lo hi 1)) _ _ s
 rw[nc lo hi n]
 show wpAny _ _ (pure (((sIx n 0 lo:Nat):Int),(1:Int),Builtin.Slice.slicePlaces ((sIx n 0 lo:Nat):Int) ((sIx n n hi:Nat):Int) 1)) _ _ s
 rw[me]
 exact wpAny_pure h
theorem fN(xs:Array Value)(i k:Nat):((List.range k).filterMap fun(m:Nat)=>xs[((i:Int)+(m:Int)*1).toNat]?).toArray=((xs.toList.drop i).take k).toArray:=by
 have e:(fun(m:Nat)=>xs[((i:Int)+(m:Int)*1).toNat]?)=fun m=>xs[i+m]?:=by
  funext m
  have:((i:Int)+(m:Int)*1).toNat=i+m:=by omega
  rw[this]
 rw[e]
 have:=pick_run xs i k
 rw[List.filterMap_map]at this
 have e2:((fun x=>xs[x]?)∘fun x=>i+x)=fun m=>xs[i+m]?:=rfl
 rw[e2]at this
 rw[this]
theorem uU{t sl:Addr}{items:Array Value}{vl vu:Value}{lo hi:Option Int}{Q:Value→Shared→Prop}(ht:IsTup s.heap t items)(hs:s.heap.IsSliceOf sl vl vu .none)(pl:IsPart vl lo)(pu:IsPart vu hi)
 (hw:¬(sIx items.size 0 lo=0∧sIx items.size items.size hi=items.size))
 (h:Q (.ref s.heap.objs.size) {s with heap:=s.heap.push {cls:=.type "tuple",data:=.seq ((items.toList.drop (sIx items.size 0 lo)).take (sIx items.size items.size hi-sIx items.size 0 lo)).toArray}})
 (hsz:items.size≤sizeLine):wpAny (model prog w) A (getItem (.ref t) (.ref sl)) Q E s:=by
 have htake:sizeOk (.seq ((items.toList.drop (sIx items.size 0 lo)).take (sIx items.size items.size hi-sIx items.size 0 lo)).toArray):=by
  show ((items.toList.drop (sIx items.size 0 lo)).take (sIx items.size items.size hi-sIx items.size 0 lo)).toArray.size≤sizeLine
  rw[List.size_toArray,List.length_take,List.length_drop,Array.length_toList]
  omega
 have hj:sIx items.size items.size hi≤items.size:=YX _ _ (Nat.le_refl _) hi
 obtain⟨os,hos,hcs,hds⟩:=id hs
 have hTs:s.TypeIs (.ref sl) "slice":=⟨os,hos,hcs⟩
 unfold getItem
 try with_reducible refine wpAny_holding ?_
 first|refine wpAny_bind (wpAny_pure ?_)|skip
 refine wpAny_bind (wpAny_sequenceKey ht.typeIs (by decide) ?_)
 refine wpAny_bind (wpAny_callSpecial?_slot (name:=Str.ofString "__getitem__") ht.typeIs PyProof.Rows.slot_tuple_getitem
  (wpAny_call_entry PyProof.Rows.slot_tuple_getitem ht.typeIs entry_tuple_getitem ?_ (args_tuple_getitem _ _)))
 show wpAny _ _ (Builtin.Tuple.tupleItemsOf (.ref t) >>= _) _ _ s
 refine wpAny_bind (tupleItemsOf_ ht ?_)
 refine wpAny_bind (wpAny_typeOf hTs ?_)
 rw[if_pos (by decide)]
 refine wpAny_bind (wq hs pl pu ?_)
 have hno:¬((((sIx items.size 0 lo:Nat):Int) == 0&&(1:Int) == 1&&(sIx items.size items.size hi-sIx items.size 0 lo) == items.size)=true):=by
  intro q
  rw[Bool.and_eq_true,Bool.and_eq_true]at q
  have q1:((sIx items.size 0 lo:Nat):Int)=0:=eq_of_beq q.1.1
  have q2:sIx items.size items.size hi-sIx items.size 0 lo=items.size:=eq_of_beq q.2
  exact hw ⟨by omega,by omega⟩
 show wpAny _ _ (if (((sIx items.size 0 lo:Nat):Int) == 0&&(1:Int) == 1&&(sIx items.size items.size hi-sIx items.size 0 lo) == items.size)=true then _ else _) _ _ s
 rw[if_neg hno,fN]
 first
  |exact wpAny_bind (m:=Builtin.Tuple.tupleExact _) (wpAny_newObj_type (wpAny_pure ⟨_,rfl,wpAny_pure h⟩) htake)
  |exact wpAny_bind (m:=Builtin.Tuple.tupleExact _) (wpAny_newObj_type (wpAny_bind (wpAny_pure (wpAny_pure ⟨_,rfl,wpAny_pure h⟩))) htake)
  |exact wpAny_bind (wpAny_bind (m:=Builtin.Tuple.tupleExact _) (wpAny_newObj_type (wpAny_pure (wpAny_pure ⟨_,rfl,wpAny_pure h⟩)) htake))
  |exact wpAny_bind (wpAny_bind (m:=Builtin.Tuple.tupleExact _) (wpAny_newObj_type (wpAny_pure ⟨_,rfl,wpAny_pure h⟩) htake))
end
end HT
namespace L2
open PySem PySem.Spec PyProof.Rows
noncomputable abbrev TO:=St→Hp→(Option Int→Hp→Prop)→Prop
noncomputable def PO(X:Cx)(e:Option Expr)(t:TO):Prop:=
 ∀(pins:List (Addr × Obj)) (s:Shared) (σ:St) (H:Hp) (Q:Option Int→Hp→Prop),Inv X pins σ H s→t σ H Q →
  wpAny (model X.prog X.w) X.A (evalPart e X.env) (fun u s'=>∃o H',Inv X pins σ H' s'∧IsPart u o∧Q o H') X.xe s
noncomputable def bP:TO:=fun _ H Q=>Q none H
noncomputable def Wg(t:TE):TO:=fun σ H Q=>t σ H fun x H1=>∃i,x=.int i∧Q (some i) H1
section
variable {X:Cx}{e:Expr}{te:TE}{lo hi:Option Expr}{tl th:TO}{pos p2:Pos}
theorem cn:PO X none bP:=by
 intro pins s σ H Q I h
 rw[evalPart_none]
 exact wpAny_pure ⟨none,H,I,.none,h⟩
theorem cq(h:PE X e te):PO X (some e) (Wg te):=by
 intro pins s σ H Q I hw
 rw[evalPart_some]
 refine thn (h pins s σ H _ I hw) fun u s1 ⟨x,H1,I1,r1,q1⟩=>?_
 obtain⟨i,rfl,q⟩:=q1
 obtain⟨t,rfl⟩:=r1
 exact⟨some i,H1,I1,.int i t,q⟩
noncomputable def SlR(X:Cx)(r:V→Option Int→Option Int→Hp→VK→Prop):Prop:=
 ∀(pins:List (Addr × Obj)) (s:Shared) (σ:St) (H:Hp) (x:V) (v vl vu:Value) (lo hi:Option Int) (sl:Addr) (Q:VK),Inv X pins σ H s→RelV x v→s.heap.IsSliceOf sl vl vu .none→IsPart vl lo→IsPart vu hi→r x lo hi H Q →
  ∃T id,typeLookup (.type T) "__getitem__"=pure (some (.builtin id))∧s.TypeIs v T∧wpAny (model X.prog X.w) X.A (getItem v (.ref sl)) (EP X pins σ Q) X.xe s
noncomputable def tSl(r:V→Option Int→Option Int→Hp→VK→Prop)(te:TE)(tl th:TO):TE:=fun σ H Q=>te σ H fun x H1=>tl σ H1 fun l H2=>th σ H2 fun u H3=>r x l u H3 Q
theorem fK{r:V→Option Int→Option Int→Hp→VK→Prop}(hr:SlR X r)(he:PE X e te)(hl:PO X lo tl)(hu:PO X hi th):PE X (.Subscript e (.Slice lo hi none p2) pos) (tSl r te tl th):=by
 intro pins s σ H Q I h
 refine Subscript_ (thn (he pins s σ H _ I h) fun v s1 ⟨x,H1,I1,r1,q1⟩=>?_)
 refine wpAny_Slice (thn (hl pins s1 σ H1 _ I1 q1) fun vl s2 ⟨l,H2,I2,pl,q2⟩=>thn (hu pins s2 σ H2 _ I2 q2) fun vu s3 ⟨u,H3,I3,pu,q3⟩=>?_)
 rw[evalPart_none]
 refine wpAny_pure ?_
 have I4:Inv X pins σ H3 {s3 with heap:=s3.heap.push {cls:=.type "slice",data:=.fields #[vl,vu,.none]}}:=I3.kept (t':=s3.toks) fun b ob q=>Heap.get?_push_of_some _ q
 obtain⟨T,id,hT,ht,hg⟩:=hr pins {s3 with heap:=s3.heap.push {cls:=.type "slice",data:=.fields #[vl,vu,.none]}} σ H3 x v vl vu l u s3.heap.objs.size Q I4 r1 (Heap.IsSliceOf.new ..) pl pu q3
 show wpAny (model X.prog X.w) X.A (subscriptTail e (.Slice lo hi none p2) v (.ref s3.heap.objs.size)) (EP X pins σ Q) X.xe {s3 with heap:=s3.heap.push {cls:=.type "slice",data:=.fields #[vl,vu,.none]}}
 exact tail_any (ops:=[.ref s3.heap.objs.size,v]) ht hT hg (by with_unfolding_all rfl)
noncomputable def rn(xs:List V)(lo hi:Option Int):List V:=(xs.drop (HT.sIx xs.length 0 lo)).take (HT.sIx xs.length xs.length hi-HT.sIx xs.length 0 lo)
theorem tP(xs:List V)(lo hi:Option Int):(rn xs lo hi).length≤xs.length:=by
 unfold rn
 rw[List.length_take,List.length_drop]
 omega
noncomputable def VD(K:PySem.W.Frag):V→Option Int→Option Int→Hp→VK→Prop:=fun x lo hi H Q=>∃a xs,x=.ref a∧SqT K H a xs ∧
 ¬(HT.sIx xs.length 0 lo=0∧HT.sIx xs.length xs.length hi=xs.length)∧∀p,H p=none→Q (.ref p) (upd H p (.tup (rn xs lo hi)))
theorem uB:SlR X (VD X.K):=by
 intro pins s σ H x v vl vu lo hi sl Q I rx hs pl pu h
 obtain⟨a,xs,rfl,hx,hw,q⟩:=h
 cases rx
 obtain⟨its,r,ht,hz⟩:=I.tuple hx
 have hlen:its.toArray.size=xs.length:=by rw[List.size_toArray];exact r.length.symm
 refine⟨"tuple",_,PyProof.Rows.slot_tuple_getitem.lookup,ht.typeIs,?_⟩
 refine HT.uU ht hs pl pu (by rw[hlen];exact hw) ?_ (by rw[hlen];exact hz)
 rw[hlen]
 refine⟨.ref s.heap.objs.size,_,I.laid (t':=s.toks) (o:=.tup (rn xs lo hi)) (fun b ob q=>Heap.get?_push_of_some _ q) (Nat.le_refl _) ?_,rfl,q _ (I.hok.fresh (Nat.le_refl _))⟩
 exact⟨Nat.le_trans (tP xs lo hi) hz,_,(r.drop (HT.sIx xs.length 0 lo)).take (HT.sIx xs.length xs.length hi-HT.sIx xs.length 0 lo),ur.new _ _⟩
noncomputable def WM(K:PySem.W.Frag):R2:=fun x y H Q=>∃a b xs ys,x=.ref a∧y=.ref b∧SqT K H a xs∧SqT K H b ys∧xs≠[]∧xs.length+ys.length≤sizeLine ∧
 (ys=[]→Q (.ref a) H)∧(ys≠[]→∀p,H p=none→Q (.ref p) (upd H p (.tup (xs++ys))))
theorem Vals.uY{xs:List V}{us:List Value}(r:Vals xs us):us=[]↔xs=[]:=by
 cases r with
 |nil=>simp
 |cons _ _=>simp
theorem cF:OpR X (binaryOp .Add) (WM X.K):=by
 intro pins s σ H x y v u Q I rx ry h
 obtain⟨a,b,xs,ys,rfl,rfl,ha,hb,hx,hz,q1,q2⟩:=h
 cases rx
 cases ry
 obtain⟨its,r1,p1,_⟩:=I.tuple ha
 obtain⟨its2,r2,p2,_⟩:=I.tuple hb
 refine HT.eo p1 p2 (fun z=>hx (r1.uY.mp z)) (fun z=>⟨.ref a,H,I,rfl,q1 (r2.uY.mp z)⟩) (fun z=>?_) (by rw[←r1.length,←r2.length];exact hz)
 refine⟨.ref s.heap.objs.size,_,I.laid (t':=s.toks) (o:=.tup (xs++ys)) (fun b ob q=>Heap.get?_push_of_some _ q) (Nat.le_refl _) ?_,rfl,q2 (fun w=>z (r2.uY.mpr w)) _ (I.hok.fresh (Nat.le_refl _))⟩
 exact⟨by rw[List.length_append];exact hz,_,r1.append r2,ur.new _ _⟩
end
end L2
namespace L2
open PySem PySem.Spec PyProof.Rows
noncomputable def ixN(n:Nat)(i:Int):Option Nat:=if 0≤i then (if i<n then some i.toNat else none) else if -(n:Int)≤i then some (i+n).toNat else none
noncomputable def atI{α:Type}(xs:List α)(i:Int):Option α:=(ixN xs.length i).bind fun j=>xs[j]?
theorem kG{n:Nat}{i:Int}{j:Nat}(h:ixN n i=some j):seqIndex? i n=some j∧j<n∧-(n:Int)≤i∧i<n:=by
 unfold ixN at h
 by_cases h0:0≤i
 . rw[if_pos h0]at h
   by_cases h1:i<n
   . rw[if_pos h1]at h
     have e:i.toNat=j:=Option.some.inj h
     exact⟨by rw[seqIndex_of h0 h1,e],by omega,by omega,h1⟩
   . rw[if_neg h1]at h;cases h
 . rw[if_neg h0]at h
   by_cases h1:-(n:Int)≤i
   . rw[if_pos h1]at h
     have e:(i+n).toNat=j:=Option.some.inj h
     exact⟨by rw[seqIndex_neg (by omega) h1,e],by omega,h1,by omega⟩
   . rw[if_neg h1]at h;cases h
theorem pB{α:Type}{xs:List α}{i:Int}{v:α}(h:atI xs i=some v):∃j,seqIndex? i xs.length=some j∧xs[j]?=some v∧j<xs.length∧-(xs.length:Int)≤i∧i<xs.length:=by
 unfold atI at h
 cases e:ixN xs.length i with
 |none=>rw[e]at h;cases h
 |some j=>
  rw[e]at h
  obtain⟨h1,h2,h3,h4⟩:=kG e
  exact⟨j,h1,h,h2,h3,h4⟩
theorem vY{α:Type}{xs:List α}{j:Nat}{v:α}(h:xs[j]?=some v):atI xs (j:Int)=some v:=by
 have hj:j<xs.length:=(List.getElem?_eq_some_iff.mp h).1
 have e:ixN xs.length (j:Int)=some j:=by
  unfold ixN
  rw[if_pos (by omega),if_pos (by omega)];simp
 unfold atI;rw[e];exact h
theorem sP{α:Type}(xs:List α)(v:α):atI (xs++[v]) (-1)=some v:=by
 have hl:(xs++[v]).length=xs.length+1:=by simp
 have e:ixN (xs++[v]).length (-1)=some xs.length:=by
  unfold ixN
  rw[hl,if_neg (by decide),if_pos (by omega)]
  congr 1
  omega
 unfold atI
 rw[e]
 show (xs++[v])[xs.length]?=some v
 simp
noncomputable def lR(b:Expr):Prop:=∀o i,subscripted b false o i=operate [o,i] (getItem o i)
noncomputable def IxR(X:Cx)(r:R2):Prop:=
 ∀(value slice:Expr) (pins:List (Addr × Obj)) (s:Shared) (σ:St) (H:Hp) (x y:V) (v u:Value) (Q:VK),Inv X pins σ H s→RelV x v→RelV y u→r x y H Q →
  subscripted slice false v u=operate [v,u] (getItem v u)→wpAny (model X.prog X.w) X.A (subscriptTail value slice v u) (EP X pins σ Q) X.xe s
noncomputable def MtR(X:Cx)(id:String)(r:V→List V→Hp→VK→Prop):Prop:=
 ∀(pins:List (Addr × Obj)) (s:Shared) (σ:St) (H:Hp) (x:V) (xs:List V) (v:Value) (us:List Value) (Q:VK),Inv X pins σ H s→RelV x v→Vals xs us→r x xs H Q →
  wpAny (model X.prog X.w) X.A (call (.builtin id) (v::us)) (EP X pins σ Q) X.xe s
section
variable {X:Cx}{a b:Expr}{ta tb:TE}{pos:Pos}
theorem IxR.or{r r':R2}(h:IxR X r)(h':IxR X r'):IxR X (fun x y H Q=>r x y H Q∨r' x y H Q):=by
 intro value slice pins s σ H x y v u Q I rx ry q hs
 rcases q with q|q
 . exact h value slice pins s σ H x y v u Q I rx ry q hs
 . exact h' value slice pins s σ H x y v u Q I rx ry q hs
theorem X7{r:R2}(hr:IxR X r)(ha:PE X a ta)(hb:PE X b tb)(hs:lR b):PE X (.Subscript a b pos) (tOp r ta tb):=by
 intro pins s σ H Q I h
 exact Subscript_ (aW ha hb I h fun v u s2 x y H2 I2 rx ry q=>hr a b pins s2 σ H2 x y v u Q I2 rx ry q (hs _ _))
noncomputable def WN(K:PySem.W.Frag):R2:=fun x y H Q=>∃p xs i v,x=.ref p∧y=.int i∧SqL K H p xs∧atI xs i=some v∧Q v H
noncomputable def WR(K:PySem.W.Frag):R2:=fun x y H Q=>∃p xs i v,x=.ref p∧y=.int i∧SqT K H p xs∧atI xs i=some v∧Q v H
noncomputable def WQ:R2:=fun x y H Q=>∃z i c,x=.str z∧y=.int i∧z.length≤sizeLine∧atI z.cps.toList i=some c∧Q (.str ⟨#[c]⟩) H
theorem dP:IxR X (WN X.K):=by
 intro value slice pins s σ H x y v u Q I rx ry h hs
 obtain⟨p,xs,i,z,rfl,rfl,hq,he,q⟩:=h
 cases rx
 obtain⟨t,rfl⟩:=ry
 obtain⟨its,r,pl,hz⟩:=I.list hq
 obtain⟨j,h1,h2,h3,h4,h5⟩:=pB he
 obtain⟨w,ew,rw'⟩:=r.get h2
 have hl:=r.length
 have hn:=v3
 have fin:EP X pins σ Q w s:=⟨z,H,I,rw',q⟩
 by_cases h0:0≤i
 . have hj:i.toNat=j:=by
    rw[seqIndex_of h0 h5]at h1
    exact Option.some.inj h1
   exact item_listR pl.isList h0 (by omega) (by rw[hj];simpa using ew) fin hs
 . have hj:(i+(its.toArray.size:Int)).toNat=j:=by
    rw[seqIndex_neg (by omega) h4]at h1
    rw[List.size_toArray,←hl]
    exact Option.some.inj h1
   exact subscriptTail_builtinR (x:=w) pl.isList.typeIs slot_list_getitem.lookup
    (wpAny_getItem_list_neg (Q:=fun r s'=>r=w∧EP X pins σ Q r s') pl.isList (by omega) (by rw[List.size_toArray]<;>omega) (by omega) (by rw[hj];simpa using ew) ⟨rfl,fin⟩) hs
theorem a0:IxR X (WR X.K):=by
 intro value slice pins s σ H x y v u Q I rx ry h hs
 obtain⟨p,xs,i,z,rfl,rfl,hq,he,q⟩:=h
 cases rx
 obtain⟨t,rfl⟩:=ry
 obtain⟨its,r,pl,hz⟩:=I.tuple hq
 obtain⟨j,h1,h2,h3,h4,h5⟩:=pB he
 obtain⟨w,ew,rw'⟩:=r.get h2
 have hl:=r.length
 have hn:=v3
 have fin:EP X pins σ Q w s:=⟨z,H,I,rw',q⟩
 exact subscriptTail_builtinR (x:=w) pl.typeIs slot_tuple_getitem.lookup
  (getItem_tuple (j:=j) (Q:=fun r s'=>r=w∧EP X pins σ Q r s') pl (by omega) (by omega) (by rw[List.size_toArray,←hl];exact h1) (by simpa using ew) ⟨rfl,fin⟩) hs
theorem ay:IxR X WQ:=by
 intro value slice pins s σ H x y v u Q I rx ry h hs
 obtain⟨z,i,c,rfl,rfl,hz,he,q⟩:=h
 obtain⟨t,rfl⟩:=rx
 obtain⟨t',rfl⟩:=ry
 obtain⟨j,h1,h2,h3,h4,h5⟩:=pB he
 have hl:z.cps.toList.length=z.length:=by simp[Str.length]
 rw[hl]at h1 h4 h5
 have hn:=v3
 exact tail_any (typeIs_str s z t) slot_str_getitem.lookup (getItem_str (c:=c) (by
  have e1:decide (i < -(2 ^ 63:Int))=false:=decide_eq_false (by omega)
  have e2:decide (i ≥ 2 ^ 63)=false:=decide_eq_false (by omega)
  rw[e1,e2,Bool.or_false]) (by rw[h1];simpa using h2) ⟨.str ⟨#[c]⟩,H,I.tok _,⟨_,rfl⟩,q⟩) hs
noncomputable def rIx(K:PySem.W.Frag):R2:=fun x y H Q=>WN K x y H Q∨WR K x y H Q∨WQ x y H Q
theorem aw:IxR X (rIx X.K):=dP.or (a0.or ay)
theorem mH(its:List Value)(n j:Nat)(u:Value):Obj.mapSeq (·.setIfInBounds j u) {cls:=.type "list",data:=.seq its.toArray n}={cls:=.type "list",data:=.seq (its.set j u).toArray n}:=by
 simp[Obj.mapSeq]
theorem Inv.lst{pins:List (Addr × Obj)}{σ:St}{H:Hp}{s:Shared}{p:Addr}{xs:List V}(I:Inv X pins σ H s)(h:H p=some (.lst xs)) :
 ∃(its:List Value) (n:Nat),Vals xs its∧s.heap.get? p=some {cls:=.type "list",data:=.seq its.toArray n}∧xs.length≤sizeLine:=by
 obtain⟨z,its,n,r,e⟩:=I.hok p _ h
 exact⟨its,n,r,e,z⟩
theorem Inv.Zm{pins:List (Addr × Obj)}{σ:St}{H:Hp}{s:Shared}{p:Addr}{xs ys:List V}{its its':List Value}{n n':Nat}{f:Obj→Obj}(I:Inv X pins σ H s)(h:H p=some (.lst xs))
 (ho:s.heap.get? p=some {cls:=.type "list",data:=.seq its.toArray n}) (hf:f {cls:=.type "list",data:=.seq its.toArray n}={cls:=.type "list",data:=.seq its'.toArray n'}) (r:Vals ys its') (hz:ys.length≤sizeLine) (t:Nat) :
 Inv X pins σ (upd H p (.lst ys)) {s with heap:=s.heap.update p f,toks:=t}:=by
 have e:(s.heap.update p f).get? p=some {cls:=.type "list",data:=.seq its'.toArray n'}:=by
  rw[Heap.get?_update_self f ho (by rw[hf]<;>rfl),hf]
 refine I.write (x:=p) (e:=p) (by rw[h];trivial) (.inl rfl) (fun b u hb q=>(Heap.get?_update_other _ _ (Ne.symm hb)).trans q) ⟨_,e⟩ ?_
 exact⟨hz,its',n',r,e⟩
noncomputable def aC:V→V→V→Hp→(Hp→Prop)→Prop:=fun o i v H Q=>∃p xs k j,o=.ref p∧i=.int k∧H p=some (.lst xs)∧ixN xs.length k=some j∧Q (upd H p (.lst (xs.set j v)))
theorem set_list:Yy X aC:=by
 intro pins s σ H o i v ov iv u Q I ro ri rv h
 obtain⟨p,xs,k,j,rfl,rfl,hp,hj,q⟩:=h
 cases ro
 obtain⟨t,rfl⟩:=ri
 obtain⟨its,n,r,ho,hz⟩:=I.lst hp
 obtain⟨h1,h2,h3,h4⟩:=kG hj
 have hl:=r.length
 have hn:=v3
 have I':Inv X pins σ (upd H p (.lst (xs.set j v))) {s with heap:=s.heap.update p (Obj.mapSeq (·.setIfInBounds j u))}:=
  I.Zm hp ho (mH its n j u) (r.set rv j) (by rw[List.length_set];exact hz) s.toks
 by_cases h0:0≤k
 . have hk:k.toNat=j:=by
    rw[seqIndex_of h0 h4]at h1
    exact Option.some.inj h1
   exact PySem.W.ki_setAt ho h0 (by omega) (by rw[List.size_toArray,←hl];exact h4) (by rw[hk];exact⟨_,I',q⟩)
 . have hk:(k+(its.toArray.size:Int)).toNat=j:=by
    rw[seqIndex_neg (by omega) h3]at h1
    rw[List.size_toArray,←hl]
    exact Option.some.inj h1
   exact PySem.W.ki_setBack ho (by omega) (by rw[List.size_toArray,←hl];exact h3) (by omega) (by rw[hk];exact⟨_,I',q⟩)
theorem p5(lo hi:Option Int)(n:Nat):(sliceBounds lo hi none n).1=((HT.sIx n 0 lo:Nat):Int)∧(sliceBounds lo hi none n).2.1=((HT.sIx n n hi:Nat):Int)∧(sliceBounds lo hi none n).2.2=1:=by
 refine⟨?_,?_,rfl⟩
 . cases lo with
   |none=>simp[sliceBounds,HT.sIx]
   |some i=>
    simp only[sliceBounds,HT.sIx,Option.getD_none,show (1:Int) > 0 by decide,if_true]
    by_cases h:i<0
    . simp only[h,if_true]<;>omega
    . simp only[h,if_false]<;>omega
 . cases hi with
   |none=>simp[sliceBounds,HT.sIx]
   |some i=>
    simp only[sliceBounds,HT.sIx,Option.getD_none,show (1:Int) > 0 by decide,if_true]
    by_cases h:i<0
    . simp only[h,if_true]<;>omega
    . simp only[h,if_false]<;>omega
theorem r9(its:List Value)(lo hi:Option Int):slicePick its.toArray lo hi none=((its.drop (HT.sIx its.length 0 lo)).take (HT.sIx its.length its.length hi-HT.sIx its.length 0 lo)).toArray:=by
 obtain⟨h1,h2,h3⟩:=p5 lo hi its.toArray.size
 unfold slicePick
 rw[h1,h2,h3]
 simp only[sliceRange_one,pick_run,List.size_toArray]<;>rfl
noncomputable def VC(K:PySem.W.Frag):V→Option Int→Option Int→Hp→VK→Prop:=fun x lo hi H Q=>∃a xs,x=.ref a∧SqL K H a xs∧∀p,H p=none→Q (.ref p) (upd H p (.lst (rn xs lo hi)))
theorem bI:SlR X (VC X.K):=by
 intro pins s σ H x v vl vu lo hi sl Q I rx hs pl pu h
 obtain⟨a,xs,rfl,hx,q⟩:=h
 cases rx
 obtain⟨its,r,ht,hz⟩:=I.list hx
 have hlen:=r.length
 refine⟨"list",_,slot_list_getitem.lookup,ht.isList.typeIs,?_⟩
 refine wpAny_getItem_list_slice ht.isList hs pl pu .none (by simp) ?_ (by rw[List.size_toArray]<;>omega)
 rw[r9,←hlen]
 refine⟨.ref s.heap.objs.size,_,I.laid (t':=s.toks) (o:=.lst (rn xs lo hi)) (fun b ob q=>Heap.get?_push_of_some _ q) (Nat.le_refl _) ?_,rfl,q _ (I.hok.fresh (Nat.le_refl _))⟩
 exact⟨Nat.le_trans (tP xs lo hi) hz,_,0,(r.drop (HT.sIx xs.length 0 lo)).take (HT.sIx xs.length xs.length hi-HT.sIx xs.length 0 lo),Heap.get?_push_size _ rfl⟩
noncomputable def wM:V→Bool
 |.non=>true
 |.bl _=>true
 |.int _=>true
 |.str _=>true
 |_=>false
noncomputable def eqV:V→V→Bool
 |.non,.non=>true
 |.bl a,.bl b=>a == b
 |.bl a,.int b=>(if a then 1 else 0) == b
 |.int a,.bl b=>a == (if b then 1 else 0)
 |.int a,.int b=>a == b
 |.str a,.str b=>a == b
 |_,_=>false
theorem ae{A:Around}{s:Shared}{y x:V}{u v:Value}(ry:RelV y u)(rx:RelV x v)(fy:wM y=true)(fx:wM x=true):SeqAt.EqAt A s u v (eqV y x):=by
 cases y with
 |non=>
  cases ry
  cases x with
  |non=>cases rx;exact SeqAt.EqAt.same _
  |bl b=>cases rx;exact SeqAt.EqAt.none_bool b
  |int b=>obtain⟨t,rfl⟩:=rx;exact SeqAt.EqAt.none_int b t
  |str b=>obtain⟨t,rfl⟩:=rx;exact SeqAt.EqAt.none_str b t
  |_=>exact absurd (show false=true from fx) Bool.false_ne_true
 |bl a=>
  cases ry
  cases x with
  |non=>cases rx;exact SeqAt.EqAt.bool_none a
  |bl b=>cases rx;exact SeqAt.EqAt.bool_bool a b
  |int b=>obtain⟨t,rfl⟩:=rx;exact SeqAt.EqAt.bool_int a b t
  |str b=>obtain⟨t,rfl⟩:=rx;exact SeqAt.EqAt.bool_str a b t
  |_=>exact absurd (show false=true from fx) Bool.false_ne_true
 |int a=>
  obtain⟨t',rfl⟩:=ry
  cases x with
  |non=>cases rx;exact SeqAt.EqAt.int_none a t'
  |bl b=>cases rx;exact SeqAt.EqAt.int_bool a t' b
  |int b=>obtain⟨t,rfl⟩:=rx;exact SeqAt.EqAt.int_int a t' b t
  |str b=>obtain⟨t,rfl⟩:=rx;exact SeqAt.EqAt.int_str a t' b t
  |_=>exact absurd (show false=true from fx) Bool.false_ne_true
 |str a=>
  obtain⟨t',rfl⟩:=ry
  cases x with
  |non=>cases rx;exact SeqAt.EqAt.str_none a t'
  |bl b=>cases rx;exact SeqAt.EqAt.str_bool a t' b
  |int b=>obtain⟨t,rfl⟩:=rx;exact SeqAt.EqAt.str_int a t' b t
  |str b=>obtain⟨t,rfl⟩:=rx;exact SeqAt.EqAt.str_str a t' b t
  |_=>exact absurd (show false=true from fx) Bool.false_ne_true
 |_=>exact absurd (show false=true from fy) Bool.false_ne_true
noncomputable def eqU(x:V)(u:Value):Bool:=match u with
 |.none=>eqV .non x
 |.bool b=>eqV (.bl b) x
 |.int i _=>eqV (.int i) x
 |.str z _=>eqV (.str z) x
 |_=>false
theorem n3{x y:V}{u:Value}(r:RelV y u)(f:wM y=true):eqU x u=eqV y x:=by
 cases y with
 |non=>cases r;rfl
 |bl b=>cases r;rfl
 |int i=>obtain⟨t,rfl⟩:=r;rfl
 |str z=>obtain⟨t,rfl⟩:=r;rfl
 |_=>exact absurd (show false=true from f) Bool.false_ne_true
theorem uG{x:V}:∀{xs:List V} {us:List Value},Vals xs us→xs.all wM=true→us.any (eqU x)=xs.any fun y=>eqV y x
 |_,_,.nil,_=>rfl
 |y::xs,u::us,.cons r t,f=>by
  rw[List.all_cons,Bool.and_eq_true]at f
  rw[List.any_cons,List.any_cons,n3 r f.1,uG t f.2]
theorem wD{A:Around}{s:Shared}{x:V}{v:Value}(rx:RelV x v)(fx:wM x=true):∀{xs:List V} {us:List Value},Vals xs us→xs.all wM=true→∀u∈us,SeqAt.EqAt A s u v (eqU x u)
 |_,_,.nil,_=>fun u hu=>by cases hu
 |y::xs,u::us,.cons r t,f=>fun u' hu=>by
  rw[List.all_cons,Bool.and_eq_true]at f
  rcases List.mem_cons.mp hu with rfl|hu
  . rw[n3 r f.1];exact ae r rx f.1 fx
  . exact wD rx fx t f.2 u' hu
noncomputable def inV(x:V)(xs:List V):Bool:=xs.any fun y=>eqV y x
noncomputable def rIn(K:PySem.W.Frag)(neg:Bool):R2:=fun x y H Q=>∃p xs,y=.ref p∧(SqL K H p xs∨SqT K H p xs)∧wM x=true∧xs.all wM=true∧Q (.bl (if neg then !inV x xs else inV x xs)) H
theorem jo:OpR X (compareOp .In) (rIn X.K false):=by
 intro pins s σ H x y v u Q I rx ry h
 obtain⟨p,xs,rfl,hq,fx,fs,q⟩:=h
 cases ry
 rcases hq with hq|hq
 . obtain⟨its,r,pl,hz⟩:=I.list hq
   refine SeqAt.in_listAt (eqU x) pl.isList (fun w hw=>wD rx fx r fs w (by simpa using hw)) ⟨.bl _,H,I,rfl,?_⟩
   rw[show its.toArray.any (eqU x)=its.any (eqU x) by simp,uG r fs]
   exact q
 . obtain⟨its,r,pl,hz⟩:=I.tuple hq
   refine SeqAt.in_tupleAt (eqU x) pl (fun w hw=>wD rx fx r fs w (by simpa using hw)) ⟨.bl _,H,I,rfl,?_⟩
   rw[show its.toArray.any (eqU x)=its.any (eqU x) by simp,uG r fs]
   exact q
theorem pf:OpR X (compareOp .NotIn) (rIn X.K true):=by
 intro pins s σ H x y v u Q I rx ry h
 obtain⟨p,xs,rfl,hq,fx,fs,q⟩:=h
 cases ry
 rcases hq with hq|hq
 . obtain⟨its,r,pl,hz⟩:=I.list hq
   refine SeqAt.notIn_listAt (eqU x) pl.isList (fun w hw=>wD rx fx r fs w (by simpa using hw)) ⟨.bl _,H,I,rfl,?_⟩
   rw[show its.toArray.any (eqU x)=its.any (eqU x) by simp,uG r fs]
   exact q
 . obtain⟨its,r,pl,hz⟩:=I.tuple hq
   refine SeqAt.notIn_tupleAt (eqU x) pl (fun w hw=>wD rx fx r fs w (by simpa using hw)) ⟨.bl _,H,I,rfl,?_⟩
   rw[show its.toArray.any (eqU x)=its.any (eqU x) by simp,uG r fs]
   exact q
theorem pE:z9 X (.builtin "len") (fun xs H Q=>∃p ys,xs=[.ref p]∧(SqL X.K H p ys∨SqT X.K H p ys)∧Q (.int ys.length) H):=by
 intro pins s σ H xs us Q I r h
 obtain⟨p,ys,rfl,hq,q⟩:=h
 obtain⟨u,rfl,rx⟩:=vals1 r
 cases rx
 have hn:=v3
 rcases hq with hq|hq
 . obtain⟨its,r',pl,hz⟩:=I.list hq
   have hlen:=r'.length
   exact Calls.call_len_list pl.isList (by simp only[List.size_toArray]<;>omega) ⟨.int ys.length,H,I.tok _,⟨s.toks+1,by rw[List.size_toArray,hlen]⟩,q⟩
 . obtain⟨its,r',pl,hz⟩:=I.tuple hq
   have hlen:=r'.length
   exact len_tuple pl (by simp only[List.size_toArray]<;>omega) ⟨.int ys.length,H,I.tok _,⟨s.toks+1,by rw[List.size_toArray,hlen]⟩,q⟩
theorem pF:z9 X (.builtin "len") (fun xs H Q=>∃z,xs=[.str z]∧z.length≤sizeLine∧Q (.int z.length) H):=by
 intro pins s σ H xs us Q I r h
 obtain⟨z,rfl,hz,q⟩:=h
 obtain⟨u,rfl,t,rfl⟩:=vals1 r
 have hn:=v3
 exact len_str (by omega) ⟨.int z.length,H,I.tok _,⟨_,rfl⟩,q⟩
theorem pG:z9 X (.type "list") (fun xs H Q=>∃p ys,xs=[.ref p]∧(SqL X.K H p ys∨SqT X.K H p ys)∧∀l,H l=none→Q (.ref l) (upd H l (.lst ys))):=by
 intro pins s σ H xs us Q I r h
 obtain⟨p,ys,rfl,hq,q⟩:=h
 obtain⟨u,rfl,rx⟩:=vals1 r
 cases rx
 have fin:∀(its:List Value),Vals ys its→ys.length≤sizeLine→∀(h':Heap) (c':Nat),(∀b o',s.heap.get? b=some o'→h'.get? b=some o') →
  h'.get? s.heap.objs.size=some {cls:=.type "list",dict:=none,data:=.seq its.toArray c',slots:=#[]}→EP X pins σ Q (.ref s.heap.objs.size) {s with heap:=h'}:=fun its r' hz h' c' kp e=>
  ⟨.ref s.heap.objs.size,_,I.laid (t':=s.toks) kp (Nat.le_refl _) (show z5 X.prog X.w _ h' _ (.lst ys) from ⟨hz,its,c',r',e⟩),rfl,q _ (I.hok.fresh (Nat.le_refl _))⟩
 rcases hq with hq|hq
 . obtain⟨its,r',pl,hz⟩:=I.list hq
   have hlen:=r'.length
   obtain⟨o,ho,hc,n,hd⟩:=pl.isList
   exact call_list_seq p (.inl rfl) ho hc hd (fun h' c' kp e=>fin its r' hz h' c' kp e) (by simp only[List.size_toArray]<;>omega)
 . obtain⟨its,r',pl,hz⟩:=I.tuple hq
   have hlen:=r'.length
   obtain⟨o,ho,hc,n,hd⟩:=pl
   exact call_list_seq p (.inr rfl) ho hc hd (fun h' c' kp e=>fin its r' hz h' c' kp e) (by simp only[List.size_toArray]<;>omega)
theorem vn:z9 X (.type "tuple") (fun xs H Q=>∃p ys,xs=[.ref p]∧((SqL X.K H p ys∧∀l,H l=none→Q (.ref l) (upd H l (.tup ys)))∨(SqT X.K H p ys∧Q (.ref p) H))):=by
 intro pins s σ H xs us Q I r h
 obtain⟨p,ys,rfl,h⟩:=h
 obtain⟨u,rfl,rx⟩:=vals1 r
 cases rx
 rcases h with⟨hq,q⟩|⟨hq,q⟩
 . obtain⟨its,r',pl,hz⟩:=I.list hq
   have hlen:=r'.length
   refine call_tuple_list pl.isList (fun h' kp=>?_) (by simp only[List.size_toArray]<;>omega)
   have I1:Inv X pins σ H {s with heap:=h'}:=I.kept (t':=s.toks) kp
   have I2:Inv X pins σ (upd H h'.objs.size (.tup ys)) {s with heap:=h'.push {cls:=.type "tuple",data:=.seq its.toArray}}:=
    I1.laid (t':=s.toks) (fun b o e=>Heap.get?_push_of_some _ e) (Nat.le_refl _) (show z5 X.prog X.w _ _ _ (.tup ys) from ⟨hz,its,r',ur.new _ _⟩)
   exact⟨.ref h'.objs.size,_,I2,rfl,q _ (I1.hok.fresh (Nat.le_refl _))⟩
 . obtain⟨its,r',pl,hz⟩:=I.tuple hq
   exact call_tuple_same pl ⟨.ref p,H,I,rfl,q⟩
noncomputable def tyV(K:PySem.W.Frag)(T:String)(x:V)(H:Hp):Prop:=match x with
 |.str _=>T="str"
 |.int _=>T="int"
 |.ref p=>(T="list"∧∃xs,SqL K H p xs)∨(T="tuple"∧∃o,K.lookup p=some o∧o.cls=.type "tuple"∧o.dict=none) ∨
  (T="dict"∧((∃kvs,H p=some (.dK kvs))∨∃kvs,H p=some (.dT kvs)))∨(T="set"∧∃S n,H p=some (.set S n))
 |_=>False
theorem Yn{pins:List (Addr × Obj)}{σ:St}{H:Hp}{s:Shared}{T:String}{x:V}{v:Value}(I:Inv X pins σ H s)(r:RelV x v)(ty:tyV X.K T x H) :
 s.TypeIs v T∧∀a,v=.ref a→∃ob,s.heap.get? a=some ob∧ob.dict=none:=by
 cases x with
 |str z=>
  obtain⟨t,rfl⟩:=r
  cases (show T="str" from ty)
  exact⟨typeIs_str s z t,fun _ e=>nomatch e⟩
 |int i=>
  obtain⟨t,rfl⟩:=r
  cases (show T="int" from ty)
  exact⟨typeIs_int s i t,fun _ e=>nomatch e⟩
 |ref p=>
  cases r
  rcases ty with⟨rfl,xs,hq⟩|⟨rfl,o,hk,hc,hd⟩|⟨rfl,hk⟩|⟨rfl,S,n,hk⟩
  . obtain⟨its,_,pl,_⟩:=I.list hq
    refine⟨pl.isList.typeIs,fun a e=>?_⟩
    cases e
    obtain⟨o,n,e,c,hd,_⟩:=pl
    exact⟨o,e,hd⟩
  . refine⟨⟨o,I.kIn p o hk,hc⟩,fun a e=>?_⟩
    cases e
    exact⟨o,I.kIn _ o hk,hd⟩
  . have z:∃o,s.heap.get? p=some o∧o.ExactDict:=by
     rcases hk with⟨kvs,hk⟩|⟨kvs,hk⟩
     . obtain⟨_,_,_,_,o,_,_,e,ex,_⟩:=I.hok p _ hk
       exact⟨o,e,ex⟩
     . obtain⟨_,_,_,_,o,_,_,e,ex,_⟩:=I.hok p _ hk
       exact⟨o,e,ex⟩
    obtain⟨o,e,ex⟩:=z
    refine⟨⟨o,e,ex.1⟩,fun a e2=>?_⟩
    cases e2
    exact⟨o,e,ex.2.1⟩
  . obtain⟨o,_,_,_,e,ex,_⟩:=I.hok p _ hk
    refine⟨⟨o,e,ex.1⟩,fun a e2=>?_⟩
    cases e2
    exact⟨o,e,ex.2.1⟩
 |_=>exact False.elim ty
noncomputable def tBM(K:PySem.W.Frag)(T:String)(r:V→List V→Hp→VK→Prop)(to:TE)(t:TA):TE:=fun σ H Q=>to σ H fun x H1=>tyV K T x H1∧t σ H1 fun xs H2=>r x xs H2 Q
variable {o e:Expr}{es:List Expr}{to:TE}{t:TA}{name:Str}{apos cpos:Pos}{T id:String}{r:V→List V→Hp→VK→Prop}
theorem fF(pa:PlainAttrs T)(slot:Slot T name id)(hty:typeOf (.builtin id)=pure (.type "method_descriptor"))(hm:MtR X id r)(ho:PE X o to)(ha:PA X (e::es) t)
 (hbase:attributeBase o name X.env (eval o X.env)=eval o X.env:=by rfl)
 (hfew:((backTo cpos (starEach (e::es) X.env)).all (fun x=>!x.1)&&(backToKw cpos (keywordEach [] X.env)).all (fun x=>x.1.isSome)
  && decide ((e::es).length+([]:List Keyword).length+(if ([]:List Keyword).isEmpty then 0 else 1)<30))=true:=by rfl)
 (hline:(apos.endLine == cpos.line)=true:=by rfl) (hs:starEach (e::es) X.env=(false,eval e X.env)::starEach es X.env:=by rfl) (hplain:(backTo cpos (starEach es X.env)).any (·.1)=false:=by rfl) :
 PE X (.Call (.Attribute o name apos) (e::es) [] cpos) (tBM X.K T r to t):=by
 intro pins s σ H Q I h
 refine wpAny_Call_method_late hbase hfew hline rfl (thn (ho pins s σ H _ I h) fun v s1 ⟨x,H1,I1,r1,ty,q1⟩=>?_)
 obtain⟨h1,h2⟩:=Yn I1 r1 ty
 refine⟨T,id,pa,slot,hty,h1,h2,?_⟩
 have hA:=ha cpos pins s1 σ H1 _ I1 q1
 rw[hs]at hA ⊢
 refine Calls.callWith_builtin (by show (false||(backTo cpos (starEach es X.env)).any (·.1))=false;rw[hplain]<;>rfl) (Calls.evalArgs_plain ?_)
 exact thn hA fun us s2 ⟨vs,H2,I2,r2,q2⟩=>hm pins s2 σ H2 x vs v us Q I2 r1 r2 q2
/- xs.append(e),list.index on a module's tuple .. are MtR facts of 06m -/
end
end L2
namespace L2
open PySem PySem.Spec PyProof.Rows
noncomputable def MtM(X:Cx)(id:String)(r:V→List V→Hp→VK→Prop):Prop:=
 ∀(pins:List (Addr × Obj)) (s:Shared) (σ:St) (H:Hp) (x:V) (xs:List V) (v:Value) (us:List Value) (Q:VK),Inv X pins σ H s→RelV x v→Vals xs us→r x xs H Q →
  wpAny (model X.prog X.w) X.A (call (.builtin id) (v::us)) (EP X pins σ Q) X.xe s
theorem Vals.one:∀{x:V} {us:List Value},Vals [x] us→∃u,us=[u]∧RelV x u
 |_,_,.cons r .nil=>⟨_,rfl,r⟩
theorem Vals.rep{xs:List V}{us:List Value}(h:Vals xs us):∀k:Nat,Vals (List.replicate k xs).flatten (List.replicate k us).flatten
 |0=>.nil
 |k+1=>by
  rw[List.replicate_succ,List.replicate_succ,List.flatten_cons,List.flatten_cons]
  exact Vals.append h (Vals.rep h k)
theorem foldl_rep(its:List Value):∀(k:Nat) (acc:List Value),
 List.foldl (fun x1 x2=>x1++x2) acc.toArray (List.replicate k its.toArray)=(acc++(List.replicate k its).flatten).toArray
 |0,acc=>by simp
 |k+1,acc=>by
  have e:acc.toArray++its.toArray=(acc++its).toArray:=by simp
  have e2:(acc++its)++(List.replicate k its).flatten=acc++(List.replicate (k+1) its).flatten:=by
   rw[List.replicate_succ,List.flatten_cons,List.append_assoc]
  rw[←e2,←foldl_rep its k (acc++its),←e,List.replicate_succ,List.foldl_cons]
section
variable {X:Cx}{pins:List (Addr × Obj)}{σ:St}{H:Hp}{s:Shared}{l b:Addr}{xs ys zs:List V}
theorem Inv.Xd{its its':List Value}{n:Nat}{f:Array Value→Array Value}{t':Nat}(I:Inv X pins σ H s)(hH:H l=some (.lst xs))
 (e:s.heap.get? l=some {cls:=.type "list",data:=.seq its.toArray n}) (hf:f its.toArray=its'.toArray) (hv:Vals ys its') (hz:ys.length≤sizeLine) :
 Inv X pins σ (upd H l (.lst ys)) {s with heap:=s.heap.update l (Obj.mapSeq f),toks:=t'}:=by
 have q:=PySem.IsL.update e f
 rw[hf]at q
 refine I.write (x:=l) (e:=l) (by rw[hH];exact trivial) (.inl rfl) (fun b' u hb hu=>(Heap.get?_update_other s.heap (Obj.mapSeq f) (Ne.symm hb)).trans hu) ⟨_,q⟩ ?_
 exact⟨hz,its',_,hv,q⟩
theorem Inv.Xb{its:List Value}{t':Nat}(I:Inv X pins σ H s)(hv:Vals ys its)(hz:ys.length≤sizeLine) :
 Inv X pins σ (upd H s.heap.objs.size (.lst ys)) {s with heap:=s.heap.push {cls:=.type "list",data:=.seq its.toArray},toks:=t'}:=
 I.laid (fun _ _ q=>Heap.get?_push_of_some _ q) (Nat.le_refl _) ⟨hz,its,0,hv,Heap.get?_push_size _ rfl⟩
theorem Inv.fresh(I:Inv X pins σ H s):H s.heap.objs.size=none:=I.hok.fresh (Nat.le_refl _)
theorem Inv.jT(I:Inv X pins σ H s)(hH:H l=some (.lst xs)):xs.length≤sizeLine∧∃(its:List Value) (n:Nat),Vals xs its∧xs.length=its.length∧s.heap.get? l=some {cls:=.type "list",data:=.seq its.toArray n}:=by
 obtain⟨z,its,n,r,e⟩:=I.hok l _ hH
 exact⟨z,its,n,r,r.length,e⟩
theorem oo{n:Nat}(h:n≤sizeLine):Builtin.List.listTooLong n=false:=by
 unfold Builtin.List.listTooLong
 exact decide_eq_false (by omega)
end
section
variable {X:Cx}
noncomputable def kU:V→List V→Hp→VK→Prop:=fun x vs H Q=>∃l xs y,x=.ref l∧vs=[y]∧H l=some (.lst xs)∧xs.length<sizeLine∧Q .non (upd H l (.lst (xs++[y])))
theorem qb:MtM X "list.append" kU:=by
 intro pins s σ H x vs v us Q I rx rv h
 obtain⟨l,xs,y,rfl,rfl,hH,hz,q⟩:=h
 cases rx
 obtain⟨u,rfl,ru⟩:=rv.one
 obtain⟨z,its,n,r,hl,e⟩:=I.jT hH
 refine call_meets F.slot_list_append ⟨_,e,rfl⟩ F.entry_list_append (F.args_list_append_2 _ _) (PySem.list_append l its.toArray n u (by rw[List.size_toArray];omega)) ⟨e,?_⟩
 refine⟨.non,_,I.Xd (its':=its++[u]) hH e (by simp) (r.append (.cons ru .nil)) ?_,rfl,q⟩
 rw[List.length_append,List.length_singleton]
 omega
noncomputable def kW:V→List V→Hp→VK→Prop:=fun x vs H Q=>∃l b xs zs,x=.ref l∧vs=[.ref b]∧H l=some (.lst xs)∧H b=some (.lst zs)∧xs.length+zs.length≤sizeLine∧Q .non (upd H l (.lst (xs++zs)))
theorem jX:MtM X "list.extend" kW:=by
 intro pins s σ H x vs v us Q I rx rv h
 obtain⟨l,b,xs,zs,rfl,rfl,hH,hB,hz,q⟩:=h
 cases rx
 obtain⟨u,rfl,ru⟩:=rv.one
 cases ru
 obtain⟨z,its,n,r,hl,e⟩:=I.jT hH
 obtain⟨z2,its2,n2,r2,hl2,e2⟩:=I.jT hB
 have hsz:its.toArray.size+its2.toArray.size≤sizeLine:=by rw[List.size_toArray,List.size_toArray];omega
 have hlong:¬(!its.toArray.isEmpty&&Builtin.List.listTooLong (its.toArray.size+its2.toArray.size))=true:=by
  rw[oo hsz,Bool.and_false]
  exact Bool.false_ne_true
 refine call_meets F.slot_list_extend ⟨_,e,rfl⟩ F.entry_list_extend (F.args_list_extend_2 _ _)
  (AutoSeq1.list_extend_list_list_0 l its.toArray n b its2.toArray n2 hlong (by rw[List.size_toArray];omega) (by omega)) ⟨e,e2,?_⟩
 refine⟨.non,_,I.Xd (its':=its++its2) hH e (by simp) (r.append r2) ?_,rfl,q⟩
 rw[List.length_append]
 omega
noncomputable def W8:R2:=fun x y H Q=>∃l b xs zs,x=.ref l∧y=.ref b∧H l=some (.lst xs)∧H b=some (.lst zs)∧xs.length+zs.length≤sizeLine∧∀p,H p=none→Q (.ref p) (upd H p (.lst (xs++zs)))
theorem Zt:OpR X (binaryOp .Add) W8:=by
 intro pins s σ H x y v u Q I rx ry h
 obtain⟨l,b,xs,zs,rfl,rfl,hH,hB,hz,q⟩:=h
 cases rx
 cases ry
 obtain⟨z,its,n,r,hl,e⟩:=I.jT hH
 obtain⟨z2,its2,n2,r2,hl2,e2⟩:=I.jT hB
 refine PySem.P.add_list e e2 ?_ (by rw[List.size_toArray,List.size_toArray];omega)
 have ea:its.toArray++its2.toArray=(its++its2).toArray:=by simp
 rw[ea]
 exact⟨.ref _,_,I.Xb (t':=s.toks) (r.append r2) (by rw[List.length_append];omega),rfl,q _ I.fresh⟩
noncomputable def W9:R2:=fun x y H Q=>∃l k xs,x=.ref l∧y=.int k∧H l=some (.lst xs)∧-(2 ^ 63)≤k∧k<2 ^ 63∧xs.length*k.toNat≤sizeLine ∧
 ∀p,H p=none→Q (.ref p) (upd H p (.lst (List.replicate k.toNat xs).flatten))
theorem len_rep{α:Type}(xs:List α)(k:Nat):(List.replicate k xs).flatten.length=k*xs.length:=by
 induction k with
 |zero=>simp
 |succ k ih=>rw[List.replicate_succ,List.flatten_cons,List.length_append,ih,Nat.succ_mul,Nat.add_comm]
theorem Zy:OpR X (binaryOp .Mult) W9:=by
 intro pins s σ H x y v u Q I rx ry h
 obtain⟨l,k,xs,rfl,rfl,hH,h1,h2,hz,q⟩:=h
 cases rx
 obtain⟨t,rfl⟩:=ry
 obtain⟨z,its,n,r,hl,e⟩:=I.jT hH
 have hlen:its.toArray.size*k.toNat≤sizeLine:=by rw[List.size_toArray,←hl];exact hz
 have hcap:¬its.toArray.size*k.toNat > (2 ^ 63-1)/8:=by
  have:(sizeLine:Nat)≤(2 ^ 63-1)/8:=by decide
  omega
 have hfit:¬(!Builtin.List.listFitsIndex k)=true:=by
  rw[fitsIndex_both h1 h2]
  exact Bool.false_ne_true
 have hlong:¬Builtin.List.listTooLong (its.toArray.size*k.toNat)=true:=by
  rw[oo hlen]
  exact Bool.false_ne_true
 have hnew:List.foldl (fun x1 x2=>x1++x2) #[] (List.replicate (if its.toArray.isEmpty=true then 0 else k.toNat) its.toArray)=(List.replicate k.toNat its).flatten.toArray:=by
  have f0:∀m:Nat,List.foldl (fun x1 x2=>x1++x2) #[] (List.replicate m its.toArray)=(List.replicate m its).flatten.toArray:=fun m=>by
   have:=foldl_rep its m []
   rw[List.nil_append]at this
   exact this
  rw[f0]
  cases its with
  |nil=>simp
  |cons a r'=>rw[if_neg (by simp)]
 refine wpAny_binaryOp_repeat_ref (T:="list") (U:="int") (by decide) ⟨_,e,rfl⟩ (fun s'=>typeIs_int s' k t) noFill_list_mul F.fills_int_mul F.slot_int_rmul repeat_list F.slot_int_index.lookup
  (call_meets F.slot_int_rmul (typeIs_int s k t) F.entry_int_rmul (F.args_int_rmul_2 _ _) (int___rmul___int_list k t l its.toArray n)
   ⟨e,rfl,⟨_,e,rfl⟩,call_meets F.slot_list_mul ⟨_,e,rfl⟩ F.entry_list_mul (F.args_list_mul_2 _ _) (AutoListH.list___mul___list_int_3 l its.toArray n k t hfit hcap hlong) ⟨e,?_⟩⟩)
 rw[hnew]
 exact⟨.ref _,_,I.Xb (t':=s.toks) (r.rep k.toNat) (by rw[len_rep,Nat.mul_comm];exact hz),rfl,q _ I.fresh⟩
end
end L2
namespace Att
open PySem PySem.W PySem.Calls PyProof.Rows
theorem tf{P:Params}{h:Heap}:∀(ns:List Int) (vs:List Value),WellAll P h vs (ns.map WData.int)→IntsAre vs ns:=by
 intro ns
 induction ns with
 |nil=>
  intro vs w
  rw[List.map_nil]at w
  cases w
  exact .nil
 |cons n ns ih=>
  intro vs w
  rw[List.map_cons]at w
  cases w with
  |cons a b=>
   cases a
   exact .cons _ _ (ih _ b)
theorem j9{l:OpenLaw}{n:Nat}(hn:l.most=some n){P:Params}{h:Heap}{args:List WData}{vals:List Value}
 (hpre:l.row.toRowW.claim.pre args=true) (hwl:WellAll P h vals args) :
 ∃a vs ns,vals=[Value.ref a]∧args=[WData.list (ns.map WData.int)]∧h.get? a=some {cls:=.type "list",data:=.seq vs.toArray}∧IntsAre vs ns∧ns.length≤n:=by
 have hsh:WShape.hasAll [] args [.list .int]=true:=(pre_splitW hpre).1
 have hc:l.pre.holds [] {args:=args}=true:=(pre_splitW hpre).2
 obtain⟨d,r,rfl,h1,h2⟩:=hasAllW_cons hsh
 obtain rfl:=hasAllW_nil h2
 obtain⟨xs,rfl,h3⟩:=hasW_list h1
 obtain⟨ns,rfl⟩:=items_int h3
 have hlen:ns.length≤n:=by
  unfold OpenLaw.pre at hc
  have h4:(WTm.not (.lt (.lit (.int (n:Int))) (.len (.arg 0)))).holds [] {args:=[.list (ns.map .int)]}=true:=by
   have h4:=(holds_andW hc).1
   rw[hn]at h4
   exact h4
  have h5:=condW_of h4 (w_not (w_lt w_lit (w_len_list (w_arg rfl))))
  rw[List.length_map]at h5
  refine Nat.le_of_not_lt fun q=>?_
  have q':(n:Int)<((ns.length:Nat):Int):=by omega
  first
   |(rw[decide_eq_true q']at h5;exact absurd h5 (by decide))
   |(simp at h5;omega)
 cases hwl with
 |cons w1 w2=>
  cases w2
  cases w1 with
  |list ho hall=>exact⟨_,_,ns,rfl,rfl,ho,tf ns _ hall,hlen⟩
theorem jy(l:OpenLaw)(args:List WData):l.row.toRowW.claim.post args (.bool true) args=true:=
 postW_of (r:=l.row.toRowW) (X:=(true == true))
  (show WShape.has [] (.bool true) .bool=true by first|rfl|decide|simp[WShape.has,WShape.arms,WShape.armsAll])
  (show (WTm.eq .res (.lit (.bool true))).value [] {args:=args,res:=some (.bool true),after:=args}=some (.bool (true == true)) from w_eq_bool (w_res rfl) w_lit) rfl
theorem oH{l:OpenLaw}{n:Nat}{q:Program}{loose:List Str}{XP:(Str→Option Value)→Heap→Prop}{YP:World→Heap→Prop}{d:DefRec}
 (hn:l.most=some n) (hdf:d.params.defaults=[])
 (call:∀(w:World) (s₀ s₁:Shared) (mg mb:Str→Option Value) (fa:Addr) (o:Obj) (pm cd doc:Value) (a:Addr) (vs:List Value) (ns:List Int),
  Ground q loose [] XP w s₀ mg mb s₁.heap→YP w s₁.heap →
  s₁.heap.get? fa=some o→o.data=.func (docDef d.name d.params d.body d.scope pm cd doc)→s₁.heap.CodeRec cd d.name→mg d.name=some (.ref fa) →
  s₁.heap.get? a=some {cls:=.type "list",data:=.seq vs.toArray}→IntsAre vs ns→ns.length≤n→s₁.gens=#[] →
  codeAny (model l.prog w) callerA (.call (.ref fa) ⟨[.ref a],[]⟩) (fun r s'=>r=.ok (.ret (.bool true))∧OldK s₁.heap s'.heap∧s'.os=s₁.os∧AllBare s'.gens) s₁) :
 WalkO q loose XP YP l.row.toRowW d [] (fun f vs=>PySem.call f vs):=by
 intro w s₀ s₁ mg mb G Y fa o pm cd doc dV kV ho hd hcd hD hmg hg args vals as hpre hlay hrd hwl hlo
 obtain rfl:dV=.none:=Dflts.none hD hdf
 obtain rfl:kV=.none:=Dflts.noKw hD
 obtain⟨a,vs,ns,rfl,rfl,hobj,hints,hlen⟩:=j9 hn hpre hwl
 refine enter_call (codeAny_mono (call w s₀ s₁ mg mb fa o pm cd doc a vs ns G Y ho (fd_plain hd) hcd hmg hobj hints hlen hg) fun r s' hq=>?_)
 obtain⟨rfl,h2,h3,h4⟩:=hq
 exact⟨.inl ⟨.bool true,.bool true,[],rfl,fun _=>rfl,.bool true,jy l _,fun _=>⟨List.Pairwise.nil,fun _ hm=>(nomatch hm)⟩⟩,h2,h3,h4⟩
end Att
namespace L2
open PySem PySem.Spec PyProof.Rows
theorem qt:∀{vs:List Value} {ns:List Int},IntsAre vs ns→Vals (ns.map V.int) vs
 |_,_,.nil=>.nil
 |_,_,.cons n t h=>.cons ⟨t,rfl⟩ (qt h)
noncomputable def aP(H:Hp):Prop:=∀b,H b=none∨∃o xs,H b=some (.frz o (.lst xs))
theorem gW{P:Program}{w:World}{K:PySem.W.Frag}{mg mb:Str→Option Value}{CX:CXT}{k:Nat}{fa a:Addr}{fd:FuncData}{x:Str}{sp:Sp}{s₁:Shared}{vs:List Value}{ns:List Int}
 (KX:K.In s₁.heap) (hns:s₁.heap.Ns mainGlobals mg) (hb:s₁.heap.Ns builtinsNs mb) (hbb:∀x:Str,x≠"__name__"→mb x=bootBuiltins x) (hlim:s₁.heap.NoLimit) (hg:s₁.gens=#[])
 (ha:s₁.heap.get? a=some {cls:=.type "list",data:=.seq vs.toArray}) (hi:IntsAre vs ns) (hl:ns.length≤sizeLine) (hr:y9 k callerA)
 (F:∀base:Heap,K.In base→base.Ns mainGlobals mg→tY P w K mg base CX k fa fd [x] sp) (hbind:∀(s:Shared) (u:Value),BindsTo s fd ⟨[u],[]⟩ [(x,u)])
 (hsp:∀H:Hp,aP H→SqL K H a (ns.map V.int)→sp [.ref a] H (fun v _=>v=.bl true) fun _ _ _=>False)
 (hCX:∀H e s',CX [] H s₁ (fun _ _ _=>False) e s'→False) :
 codeAny (model P w) callerA (.call (.ref fa) ⟨[.ref a],[]⟩) (fun r s'=>r=.ok (.ret (.bool true))∧OldK s₁.heap s'.heap∧s'.os=s₁.os∧AllBare s'.gens) s₁:=by
 have rv:=qt hi
 have lenV:=hi.length
 -- from an abstract heap in which nothing but the script may be tracked
 have core:∀H:Hp,aP H→SqL K H a (ns.map V.int)→HOk P w H s₁.heap→(∀b,H b≠none→b=a)→(H a≠none→K.lookup a=none) →
  codeAny (model P w) callerA (.call (.ref fa) ⟨[.ref a],[]⟩) (fun r s'=>r=.ok (.ret (.bool true))∧OldK s₁.heap s'.heap∧s'.os=s₁.os∧AllBare s'.gens) s₁:=by
  intro H hO hS hok hA hK
  have wz:∀{b:Addr} {o:Obj},s₁.heap.get? b=some o→H b=none→(pN s₁.heap H).get? b=some o:=fun e n=>hV e n
  have noA:∀{b:Addr} {o:Obj} {es:Array DictEntry} {ep:Nat},s₁.heap.get? b=some o→o.data=.dict es ep→H b=none:=fun{b o es ep} e d=>by
   cases q:H b with
   |none=>rfl
   |some u=>
    have e':b=a:=hA b (by rw[q];simp)
    subst e'
    rw[ha]at e;cases e
    have d':Data.seq vs.toArray _=Data.dict es ep:=d
    cases d'
  have nsK:∀{b:Addr} {m:Str→Option Value},s₁.heap.Ns b m→(pN s₁.heap H).Ns b m:=fun{b m} ⟨o,es,ep,e,d,r⟩=>⟨o,es,ep,wz e (noA e d),d,r⟩
  have hKb:K.In (pN s₁.heap H):=fun b o e=>wz (KX b o e) (by
   cases q:H b with
   |none=>rfl
   |some u=>
    have e':b=a:=hA b (by rw[q];simp)
    subst e'
    rw[hK (by rw[q];simp)]at e;cases e)
  have hM:Mod K mg (pN s₁.heap H):=⟨hKb,nsK hns,⟨mb,nsK hb,hbb⟩,let ⟨mc,h1,h2⟩:=hlim;⟨mc,nsK h1,h2⟩⟩
  have e0:eW P w K mg (pN s₁.heap H) callerA [] s₁ H:=⟨rfl,hM,fun b o e=>d7 e,Nat.le_of_eq (k7 _ _),trivial,fun b hb=>absurd (show b∈([]:List Addr) from hb) (by simp),hok,.of_eq hg⟩
  refine codeAny_mono ((F _ hKb (nsK hns)).run callerA [] s₁ H ⟨[.ref a],[]⟩ [.ref a] [.ref a] _ _ hr e0 (hbind s₁ (.ref a)) (.cons rfl .nil) (hsp H hO hS)) fun r s' h=>?_
  cases r with
  |error e=>exact(hCX H e s' h).elim
  |ok fl=>
   cases fl with
   |next=>exact False.elim h
   |brk=>exact False.elim h
   |cont=>exact False.elim h
   |ret u=>
    obtain⟨v,H',os,bare,un,hok',r',q⟩:=h
    have q':v=.bl true:=q
    subst q'
    obtain rfl:u=Value.bool true:=r'
    refine⟨rfl,OldK.of_keep fun b o e=>?_,os,bare⟩
    cases q:H b with
    |none=>exact un.keep b o e q (by intro z;exact absurd (show b∈([]:List Addr) from z) (by simp)) (by simp)
    |some u=>
     rcases hO b with z|⟨ob,xs,z⟩
     . rw[q]at z;cases z
     . have z2:=un.frzs b ob _ z
       obtain⟨e1,_⟩:=hok b _ z
       obtain⟨e2,_⟩:=hok' b _ z2
       rw[e]at e1;cases e1
       exact e2
 cases hk:K.lookup a with
 |some o=>
  -- the script is one of the module's own objects
  have e:=KX a o hk
  rw[ha]at e
  cases e
  refine core (fun _=>none) (fun _=>.inl rfl) (.inr ⟨_,vs.toArray,_,hk,rfl,rfl,rfl,by rw[List.size_toArray,lenV];exact hl,by simpa using rv⟩) (fun b u z=>by have z':(none:Option HO)=some u:=z;cases z') (fun b z=>absurd rfl z) fun z=>absurd rfl z
 |none=>
  refine core (fun b=>if b=a then some (.frz {cls:=.type "list",data:=.seq vs.toArray} (.lst (ns.map V.int))) else none) (fun b=>?_) (.inl (.inr ⟨{cls:=.type "list",data:=.seq vs.toArray},if_pos rfl⟩)) (fun b u z=>?_) (fun b z=>?_) fun _=>hk
  . by_cases hb:b=a
    . exact .inr ⟨_,_,if_pos hb⟩
    . exact .inl (if_neg hb)
  . by_cases hb:b=a
    . have z':=(if_pos hb).symm.trans z
      cases z'
      subst hb
      exact⟨ha,by rw[List.length_map];exact hl,vs,_,rv,ha⟩
    . have z':=(if_neg hb).symm.trans z
      cases z'
  . by_cases hb:b=a
    . exact hb
    . exact absurd (if_neg hb) z
end L2
namespace L2
open PySem PySem.Spec PyProof.Rows
theorem bY{l:PySem.W.OpenLaw}{n k:Nat}{q:Program}{loose:List Str}{XP:(Str→Option Value)→Heap→Prop}{YP:World→Heap→Prop}{d:DefRec}{K:Params→PySem.W.Frag}{CX:World→CXT}{sp:World→Sp}{x:Str}
 (hn:l.most=some n) (hn2:n≤sizeLine) (hdf:d.params.defaults=[]) (hr:y9 k callerA)
 (hY:∀(w:World) (h:Heap),YP w h→(K w.params).In h)
 (F:∀(w:World) (mg:Str→Option Value) (fa:Addr) (h:Heap),(K w.params).In h→h.Ns mainGlobals mg→mg d.name=some (.ref fa) →
  ∃fd:FuncData,(∀(s:Shared) (u:Value),BindsTo s fd ⟨[u],[]⟩ [(x,u)]) ∧
   ∀base:Heap,(K w.params).In base→base.Ns mainGlobals mg→tY l.prog w (K w.params) mg base (CX w) k fa fd [x] (sp w))
 (hsp:∀(w:World) (H:Hp) (a:Addr) (ns:List Int),ns.length≤n→aP H→SqL (K w.params) H a (ns.map V.int)→sp w [.ref a] H (fun v _=>v=.bl true) fun _ _ _=>False)
 (hCX:∀(w:World) (H:Hp) (s:Shared) (e:Value) (s':Shared),CX w [] H s (fun _ _ _=>False) e s'→False) :
 PySem.W.WalkO q loose XP YP l.row.toRowW d [] (fun f vs=>PySem.call f vs):=by
 refine Att.oH hn hdf fun w s₀ s₁ mg mb fa o pm cd doc a vs ns G Y ho hd hcd hmg hobj hints hlen hg=>?_
 have KX:=hY w _ Y
 obtain⟨fd,hb,hF⟩:=F w mg fa _ KX G.T.g hmg
 exact gW KX G.T.g G.T.b G.T.builtins G.T.nolimit hg hobj hints (Nat.le_trans hlen hn2) hr hF hb (fun H hO hS=>hsp w H a ns hlen hO hS) fun H e s'=>hCX w H s₁ e s'
end L2
/- THE LAST THEOREM (shape;LID,My.* are yours):
   My.Adr: a structure of the addresses that your layer names (classes,functions);My.Txt K t: a structure (Prop) of the equations over K;
   My.txt_mk:{K} {implicit addresses ..} (e1:nsIn K mainGlobals "law"=some (some (.ref f))) (e2:K.lookup f=some ⟨oc,od,.func (fnOf "law" "law" params body scope dV kV doc pm an cdv ct),sl⟩) (e3:codeIn K cdv "law"=true) ..:∃t,My.Txt K t
(the tactic k_is has no namespace: write k_is) -/
namespace L2
open PySem PySem.Spec PyProof.Rows
noncomputable def w5(s:Stmt):Arguments:=match s with
 |.FunctionDef _ a _ _ _ _ _ _ _ _=>a
 |_=>{posonlyargs:=[],args:=[],vararg:=none,kwonlyargs:=[],kw_defaults:=[],kwarg:=none,defaults:=[]}
noncomputable def xY(s:Stmt):List Stmt:=match s with
 |.FunctionDef _ _ b _ _ _ _ _ _ _=>b
 |_=>[]
noncomputable def zq(s:Stmt):Scope:=match s with
 |.FunctionDef _ _ _ _ _ _ sc _ _ _=>sc
 |_=>{kind:=.function,names:=[],isGenerator:=false,isCoroutine:=false}
noncomputable abbrev CX0:CXT:=fun _ _ _ _ _ _=>False
noncomputable abbrev E0:XK:=fun _ _ _=>False
theorem aA{X:Cx}:Passes CX0 X E0:=fun _ _ _ _ _ _ _ h=>h.elim
structure Fun(K:PySem.W.Frag)(x qual:Str)(st:Stmt)(f:Addr)(fd:FuncData):Prop where
 ex:∃(oc:Value) (od:Option Addr) (kV doc pm:Value) (an:Option Addr) (cdv ct:Value) (osl:Array (Option Value)),
  fd=PySem.W.fnOf x qual (w5 st) (xY st) (zq st) .none kV doc pm an cdv ct∧K.lookup f=some ⟨oc,od,.func fd,osl⟩∧PySem.W.codeIn K cdv qual=true
 kp:PySem.W.keepIn K (.ref f)=true
section
variable {P:Program}{w:World}{K:PySem.W.Frag}{mg:Str→Option Value}{base:Heap}
theorem Fun.ok{x qual:Str}{st:Stmt}{f:Addr}{fd:FuncData}{N ps:List Str}{k:Nat}{sp:Sp}(F:Fun K x qual st f fd)(S:tu N ps (zq st))(len:∀vs H Q E,sp vs H Q E→vs.length=ps.length)
 (hbody:∀(cdv:Value) (A:Around) (outer:List Env) (s:Shared) (H:Hp) (vs:List V) (Q:VK) (E:XK),y9 k (A.deeper (envOfC qual (zq st) s.heap.objs.size f cdv))→sp vs H Q E →
  ∃t,PSs (nt CX0 P w K mg base N qual (zq st) f cdv A outer s H E).nox (xY st) t∧t {nx:=fun _ H'=>Q .non H',rt:=Q} (start N vs) H):tY P w K mg base CX0 (k+1) f fd ps sp:=by
 obtain⟨oc,od,kV,doc,pm,an,cdv,ct,osl,rfl,lk,hcd⟩:=F.ex
 refine Y8 lk hcd S len fun A outer s H vs Q E hr hsp=>?_
 obtain⟨t,h,q⟩:=hbody cdv A outer s H vs Q E hr hsp
 exact⟨t,h.nox,q⟩
theorem Fun.binds{x qual:Str}{st:Stmt}{f:Addr}{fd:FuncData}{ps:List Str}(F:Fun K x qual st f fd)
 (h:∀(kV doc pm:Value) (an:Option Addr) (cdv ct:Value) (us:List Value),us.length=ps.length→bindArgs (PySem.W.fnOf x qual (w5 st) (xY st) (zq st) .none kV doc pm an cdv ct) ⟨us,[]⟩=pure (ps.zip us)):Binds K fd ps []:=by
 obtain⟨oc,od,kV,doc,pm,an,cdv,ct,osl,rfl,lk,hcd⟩:=F.ex
 exact .all (h kV doc pm an cdv ct)
theorem ai{x qual:Str}{st:Stmt}{f:Addr}{oc:Value}{od an:Option Addr}{osl:Array (Option Value)}{kV doc pm cdv ct:Value}(l:K.lookup f=some ⟨oc,od,.func (PySem.W.fnOf x qual (w5 st) (xY st) (zq st) .none kV doc pm an cdv ct),osl⟩)
 (c:PySem.W.codeIn K cdv qual=true) (k:PySem.W.keepIn K (.ref f)=true):Fun K x qual st f (PySem.W.fnOf x qual (w5 st) (xY st) (zq st) .none kV doc pm an cdv ct):=⟨⟨oc,od,kV,doc,pm,an,cdv,ct,osl,rfl,l,c⟩,k⟩
end
theorem n6{A B:Prop}(h:B):if false=true then A else B:=by
 rw[if_neg Bool.false_ne_true]
 exact h
theorem n9{A B:Prop}(h:A):if true=true then A else B:=by
 rw[if_pos rfl]
 exact h
noncomputable def sN(H H':Hp):Prop:=∀b o,H b=some o→H' b=some o
theorem sN.refl(H:Hp):sN H H:=fun _ _ h=>h
end L2
end
section
namespace L2
open PySem PySem.Spec PyProof.Rows
noncomputable def vw(cells:List (Str × Addr)):List (Str × NameKind)→List (Str × Addr)→List (Str × Addr)
 |[],acc=>acc
 |(n,k)::r,acc=>if k == .free then (match cells.lookup n with|some c=>vw cells r ((n,c)::acc)|none=>vw cells r acc) else vw cells r acc
theorem vx{env:Env}:∀(names:List (Str × NameKind)) (acc:List (Str × Addr)),(∀x∈names,x.2=.free→∃c,env.cells.lookup x.1=some c) →
 (forIn names acc fun(x:Str × NameKind) (cs:List (Str × Addr))=>(if x.2 == .free then do let a ←cellOf env x.1;pure (ForInStep.yield ((x.1,a)::cs)) else pure (ForInStep.yield cs):Sem (ForInStep (List (Str × Addr)))))=pure (vw env.cells names acc)
 |[],acc,_=>rfl
 |(n,k)::r,acc,h=>by
  rw[List.forIn_cons]
  dsimp only
  unfold vw
  by_cases hk:(k == NameKind.free)=true
  . have hk':k=.free:=by simpa using hk
    obtain⟨c,hc⟩:=h (n,k) List.mem_cons_self hk'
    have hc':env.cells.lookup n=some c:=hc
    have hcell:cellOf env n=pure c:=by unfold cellOf;rw[hc']
    rw[if_pos hk,if_pos hk,hcell,hc',pure_bind,pure_bind]
    exact vx r _ fun x hx=>h x (List.mem_cons_of_mem _ hx)
  . rw[if_neg hk,if_neg hk,pure_bind]
    exact vx r _ fun x hx=>h x (List.mem_cons_of_mem _ hx)
theorem vo{scope:Scope}{env:Env}(h:∀x∈scope.names,x.2=.free→∃c,env.cells.lookup x.1=some c):closureFor scope env=pure (vw env.cells scope.names []):=by
 have e:=vx (env:=env) scope.names [] h
 show (do let cs ←forIn scope.names [] _;pure cs)=_
 refine Eq.trans ?_ e
 refine Eq.trans (bind_pure _) ?_
 congr 1
theorem vN{cells:List (Str × Addr)}:∀(names:List (Str × NameKind)) (acc:List (Str × Addr)),(∀x c,acc.lookup x=some c→cells.lookup x=some c)→∀x c,(vw cells names acc).lookup x=some c→cells.lookup x=some c
 |[],acc,h,x,c,e=>h x c e
 |(n,k)::r,acc,h,x,c,e=>by
  unfold vw at e
  by_cases hk:(k == NameKind.free)=true
  . rw[if_pos hk]at e
    cases hc:cells.lookup n with
    |none=>rw[hc]at e;exact vN r acc h x c e
    |some d=>
     rw[hc]at e
     refine vN r _ (fun y z q=>?_) x c e
     rw[List.lookup_cons]at q
     cases hy:(y == n) with
     |true=>rw[hy]at q;have hy':y=n:=by simpa using hy
            cases q;rw[hy'];exact hc
     |false=>rw[hy]at q;exact h y z q
  . rw[if_neg hk]at e;exact vN r acc h x c e
theorem wZ{cells:List (Str × Addr)}:∀(names:List (Str × NameKind)) (acc:List (Str × Addr)) (x:Str) (c:Addr),cells.lookup x=some c→(acc.lookup x=some c∨(x,NameKind.free)∈names)→(∀y d,acc.lookup y=some d→cells.lookup y=some d)→(vw cells names acc).lookup x=some c
 |[],acc,x,c,_,h,_=>by
  rcases h with h|h
  . exact h
  . cases h
 |(n,k)::r,acc,x,c,hc,h,ha=>by
  unfold vw
  by_cases hk:(k == NameKind.free)=true
  . rw[if_pos hk]
    cases hn:cells.lookup n with
    |none=>
     refine wZ r acc x c hc ?_ ha
     rcases h with h|h
     . exact .inl h
     . rcases List.mem_cons.mp h with e|e
       . cases e;rw[hn]at hc;cases hc
       . exact .inr e
    |some d=>
     have ha':∀y z,((n,d)::acc).lookup y=some z→cells.lookup y=some z:=fun y z q=>by
      rw[List.lookup_cons]at q
      cases hy:(y == n) with
      |true=>rw[hy]at q;have hy':y=n:=by simpa using hy
             cases q;rw[hy'];exact hn
      |false=>rw[hy]at q;exact ha y z q
     by_cases hx:x=n
     . subst hx
       refine wZ r _ x c hc (.inl ?_) ha'
       rw[hn]at hc;cases hc
       simp[List.lookup_cons]
     . refine wZ r _ x c hc ?_ ha'
       rcases h with h|h
       . refine .inl ?_
         have:(x == n)=false:=by simpa using hx
         rw[List.lookup_cons,this];exact h
       . rcases List.mem_cons.mp h with e|e
         . cases e;exact absurd rfl hx
         . exact .inr e
  . rw[if_neg hk]
    refine wZ r acc x c hc ?_ ha
    rcases h with h|h
    . exact .inl h
    . rcases List.mem_cons.mp h with e|e
      . cases e;exact absurd (by decide) hk
      . exact .inr e
noncomputable abbrev Cx.comp(X:Cx)(N:List Str)(sc:Scope)(C:Addr)(s:Shared)(H:Hp)(ex:List Addr):Cx:=
 {X with N:=N,s₀:=s,H₀:=H,env:=compEnvC sc (vw X.env.cells sc.names []) C X.env,outer:=X.stack,ex:=ex,fn:=fun _=>false,pn:=[],xe:=fun _ _=>False}
structure yB(X:Cx)(N:List Str)(sc:Scope)(fr:List (Option Nat)):Prop where
 kind:sc.kind=.function
 nocell:∀x∈sc.names,x.2≠.cell
 locals:∀x∈sc.names,x.2=.local→sc.names.lookup x.1=some .local
 free:∀x∈sc.names,x.2=.free→X.env.kindOf x.1=some .cell∨X.env.kindOf x.1=some .free
 len:fr.length=N.length
 from_:∀(i j:Nat) (x:Str),N[i]?=some x→fr[i]?=some (some j)→X.N[j]?=some x∧(x,NameKind.free)∈sc.names
 one:∀x,sc.names.lookup x=some .local→(x,NameKind.free)∈sc.names→False
noncomputable def zN(fr:List (Option Nat))(σ:St):St:=fr.map fun o=>match o with|some j=>(σ[j]?).join|none=>none
theorem pk{sc:Scope}{env:Env}{x:Str}(hn:∀y∈sc.names,y.2≠.cell)(h:(relabel sc env).names.lookup x=some .cell∨(relabel sc env).names.lookup x=some .free):(x,NameKind.free)∈sc.names:=by
 have key:∀(names:List (Str × NameKind)),(∀y∈names,y.2≠.cell)→((names.map fun(n,k)=>if (k == NameKind.free&&env.scope.kind == .function&&env.kindOf n == some .cell) then (n,NameKind.cell) else (n,k)).lookup x=some .cell ∨
  (names.map fun(n,k)=>if (k == NameKind.free&&env.scope.kind == .function&&env.kindOf n == some .cell) then (n,NameKind.cell) else (n,k)).lookup x=some .free)→(x,NameKind.free)∈names:=by
  intro names
  induction names with
  |nil=>intro _ h;simp at h
  |cons p r ih=>
   obtain⟨n,k⟩:=p
   intro hn h
   have hr:=fun y hy=>hn y (List.mem_cons_of_mem _ hy)
   have hk:=hn (n,k) List.mem_cons_self
   rw[List.map_cons]at h
   dsimp only at h
   by_cases hx:x=n
   . subst hx
     by_cases hf:k=.free
     . subst hf;exact List.mem_cons_self
     . have hf':(k == NameKind.free)=false:=by simpa using hf
       rw[hf']at h
       simp only[Bool.false_and,Bool.false_eq_true,if_false,List.lookup_cons,beq_self_eq_true]at h
       rcases h with h|h
       . cases h;exact absurd rfl hk
       . cases h;exact absurd rfl hf
   . refine List.mem_cons_of_mem _ (ih hr ?_)
     have hx':(x == n)=false:=by simpa using hx
     split at h<;>simpa only[List.lookup_cons,hx'] using h
 exact key sc.names hn h
theorem uh{sc:Scope}{env:Env}{x:Str}(hl:∀y∈sc.names,y.2=.local→sc.names.lookup y.1=some .local)(h:sc.names.lookup x=some .free) :
 (relabel sc env).names.lookup x=some .cell∨(relabel sc env).names.lookup x=some .free:=by
 have key:∀(names:List (Str × NameKind)),names.lookup x=some .free→((names.map fun(n,k)=>if (k == NameKind.free&&env.scope.kind == .function&&env.kindOf n == some .cell) then (n,NameKind.cell) else (n,k)).lookup x=some .cell ∨
  (names.map fun(n,k)=>if (k == NameKind.free&&env.scope.kind == .function&&env.kindOf n == some .cell) then (n,NameKind.cell) else (n,k)).lookup x=some .free):=by
  intro names
  induction names with
  |nil=>intro h;simp at h
  |cons p r ih=>
   obtain⟨n,k⟩:=p
   intro h
   rw[List.map_cons]
   dsimp only
   cases hx:(x == n) with
   |true=>
    rw[List.lookup_cons,hx]at h
    cases h
    split
    . left;simp only[List.lookup_cons,hx]
    . right;simp only[List.lookup_cons,hx]
   |false=>
    rw[List.lookup_cons,hx]at h
    have:=ih h
    split<;>simpa only[List.lookup_cons,hx] using this
 exact key sc.names h
section
variable {X:Cx}{pins:List (Addr × Obj)}{σ:St}{H:Hp}{s:Shared}{N:List Str}{sc:Scope}{fr:List (Option Nat)}{fp:List Addr}
theorem yB.cells(S:yB X N sc fr)(ok:X.Ok):∀x∈sc.names,x.2=.free→∃c,X.env.cells.lookup x.1=some c:=fun x hx hk=>ok.has x.1 (S.free x hx hk)
theorem eu(I:Inv X pins σ H s)(S:yB X N sc fr)(hf:∀b∈fp,vj X pins H b)(hlt:∀b∈fp,b<s.heap.objs.size):(X.comp N sc s.heap.objs.size s H fp).Ok:=by
 have sub:∀x c,(vw X.env.cells sc.names []).lookup x=some c→X.env.cells.lookup x=some c:=vN sc.names [] (fun x c e=>by simp at e)
 refine⟨I.ok.mod,S.kind,I.ok.glob,I.ok.blt,Nat.le_refl _,fun x y c e1 e2=>I.ok.inj x y c (sub x c e1) (sub y c e2),fun x h=>?_,fun x c h=>(nomatch h),I.ok.hd,I.ok.frames,.inl rfl,fun b hb=>?_,fun b o e=>I.bs b o e,?_,fun b o e hb=>?_,fun b hb z=>?_,I.stack,I.kZ⟩
 . have m:(x,NameKind.free)∈sc.names:=pk S.nocell h
   obtain⟨c,hc⟩:=S.cells I.ok (x,.free) m rfl
   exact⟨c,wZ sc.names [] x c hc (.inr m) (fun y d e=>by simp at e)⟩
 . obtain⟨f0,f1,f2,f3,f4,f5⟩:=hf b hb
   exact⟨Nat.ne_of_lt (hlt b hb),fun x c e=>f4 x c (sub x c e)⟩
 . exact Nat.le_trans I.ok.bsz I.sz
 . obtain⟨f0,f1,f2,f3,f4,f5⟩:=hf b hb
   rcases f3 with f3|f3
   . exact I.ok.noex b o e f3
   . exact absurd (Nat.lt_of_lt_of_le (Heap.lt_size e) (Nat.le_trans I.ok.bsz f3)) (Nat.lt_irrefl _)
 . obtain⟨f0,f1,f2,f3,f4,f5⟩:=hf b hb
   rcases List.mem_cons.mp (I.m6 b z) with e|e
   . exact f1 e
   . exact f2 e
theorem nq{h':Heap}{tk:Nat}(I:Inv X pins σ H s)(S:yB X N sc fr)(hf:∀b∈fp,vj X pins H b)(hlt:∀b∈fp,b<s.heap.objs.size)
 (hns:h'.Ns s.heap.objs.size (fun _=>none)) (k:∀b o,s.heap.get? b=some o→h'.get? b=some o):Inv (X.comp N sc s.heap.objs.size s H fp) [] (zN fr σ) H {s with heap:=h',toks:=tk}:=by
 have sub:∀x c,(vw X.env.cells sc.names []).lookup x=some c→X.env.cells.lookup x=some c:=vN sc.names [] (fun x c e=>by simp at e)
 refine⟨eu I S hf hlt,rfl,I.bare,Un.kept k,⟨_,hns,fun i x v e1 e2 e3=>?_⟩,fun x c e=>?_,I.hok.fresh (Nat.le_refl _),fun x c e=>I.freeC x c (sub x c e),fun p hp=>(by simp at hp),I.hok.kept k,?_⟩
 . have e2':(fr.map fun o=>match o with|some j=>(σ[j]?).join|none=>none)[i]?=some (some v):=e2
   rw[List.getElem?_map]at e2'
   cases hfi:fr[i]? with
   |none=>rw[hfi]at e2';cases e2'
   |some o=>
    rw[hfi]at e2'
    cases o with
    |none=>cases e2'
    |some j=>
     obtain⟨n1,n2⟩:=S.from_ i j x e1 hfi
     have e3':σ[j]?=some (some v):=by
      have q:(σ[j]?).join=some v:=Option.some.inj e2'
      cases hσ:σ[j]? with
      |none=>rw[hσ]at q;cases q
      |some w=>rw[hσ]at q;cases w with
       |none=>cases q
       |some w'=>have:w'=v:=Option.some.inj q
                 rw[this]
     have hk:=S.free (x,.free) n2 rfl
     obtain⟨m,hn,hl⟩:=I.loc
     obtain⟨u,r,l⟩:=hl j x v n1 e3' (hk.elim (fun z=>.inr (.inl z)) fun z=>.inr (.inr z))
     refine⟨u,r,?_⟩
     rcases l with⟨hk',_⟩|⟨_,c,hc,z⟩
     . rcases hk with hk|hk<;>(rw[hk]at hk';cases hk')
     . refine .inr ⟨?_,c,wZ sc.names [] x c hc (.inr n2) (fun y d e=>by simp at e),?_⟩
       . rcases e3 with e3|e3|e3
         . -- a local of that name: cannot be,the name is free in the block
           exfalso
           have hloc:sc.names.lookup x=some .local:=by
            have key:∀(names:List (Str × NameKind)),(names.map fun(n,k)=>if (k == NameKind.free&&X.env.scope.kind == .function&&X.env.kindOf n == some .cell) then (n,NameKind.cell) else (n,k)).lookup x=some .local→names.lookup x=some .local:=by
             intro names
             induction names with
             |nil=>intro h;simp at h
             |cons p r ih=>
              obtain⟨n,kk⟩:=p
              intro h
              rw[List.map_cons]at h
              dsimp only at h
              cases hx:(x == n) with
              |true=>
               split at h
               . simp only[List.lookup_cons,hx]at h;cases h
               . simp only[List.lookup_cons,hx]at h ⊢;exact h
              |false=>
               rw[List.lookup_cons,hx]
               refine ih ?_
               split at h<;>simpa only[List.lookup_cons,hx] using h
            exact key sc.names e3
           exact S.one x hloc n2
         . exact .inl e3
         . exact .inr e3
       . obtain⟨o,ho,hd⟩:=z
         exact⟨o,k _ _ ho,hd⟩
 . obtain⟨v,o,ho,hd⟩:=I.cell x c (sub x c e)
   exact⟨v,o,k _ _ ho,hd⟩
 . show (fr.map _).length=N.length
   rw[List.length_map];exact S.len
end
end L2
end
section
namespace L2
open PySem PySem.Spec PyProof.Rows
noncomputable def oA:List TT→TT
 |[]=>fun _ H Q=>Q true H
 |t::ts=>fun σ H Q=>t σ H fun c H1=>if c=true then oA ts σ H1 Q else Q false H1
inductive PTs(X:Cx):List Expr→List TT→Prop
 |nil:PTs X [] []
 |cons {c:Expr} {cs:List Expr} {t:TT} {ts:List TT}:PT X c t→PTs X cs ts→PTs X (c::cs) (t::ts)
theorem tW{X:Cx}{Q:Bool→Shared→Prop}{E:Value→Shared→Prop}{s:Shared}(h:Q false s):∀cs:List Expr,
 wpAny (model X.prog X.w) X.A (forIn cs false fun c r=>if r=true then do let ok ←isTrue c X.env (eval c X.env);pure (ForInStep.yield ok) else pure (ForInStep.yield r)) Q E s
 |[]=>wpAny_pure h
 |c::cs=>by
  rw[List.forIn_cons]
  exact wpAny_bind (wpAny_pure (tW h cs))
theorem PTs.run{X:Cx}:∀{cs:List Expr} {ts:List TT},PTs X cs ts→∀{pins:List (Addr × Obj)} {s:Shared} {σ:St} {H:Hp} {Q:Bool→Hp→Prop},Inv X pins σ H s→oA ts σ H Q →
 wpAny (model X.prog X.w) X.A (forIn cs true fun c r=>if r=true then do let ok ←isTrue c X.env (eval c X.env);pure (ForInStep.yield ok) else pure (ForInStep.yield r)) (TP X pins σ Q) X.xe s
 |_,_,.nil,pins,s,σ,H,Q,I,h=>wpAny_pure ⟨H,I,h⟩
 |_,_,.cons hc hs,pins,s,σ,H,Q,I,h=>by
  rw[List.forIn_cons]
  refine wpAny_bind (wpAny_bind (thn (hc pins s σ H _ I h) fun c s1 ⟨H1,I1,q1⟩=>wpAny_pure ?_))
  cases c with
  |true=>exact hs.run I1 q1
  |false=>exact tW ⟨H1,I1,q1⟩ _
noncomputable abbrev TB:=(St→Hp→Prop)→St→Hp→Prop
noncomputable def PB(X:Cx)(B:Sem PUnit)(tb:TB):Prop:=
 ∀(pins:List (Addr × Obj)) (s:Shared) (σ:St) (H:Hp) (Nx:St→Hp→Prop),Inv X pins σ H s→tb Nx σ H→wpAny (model X.prog X.w) X.A B (fun _ s'=>∃σ' H',Inv X pins σ' H' s'∧Nx σ' H') X.xe s
noncomputable def tTB(ts:List TT)(tb:TB):TS:=fun D σ H=>oA ts σ H fun c H1=>if c=true then tb D.nx σ H1 else D.nx σ H1
noncomputable def nH(J:It)(g:TG)(tb:TS)(D:Ends)(σ:St)(H:Hp):Prop:=∃W:Nat→Nat→St→Hp→Prop,(∃m,W 0 m σ H)∧∀i m σ H,W i m σ H →
 (J.stop i H∧D.nx σ H)∨(J.go i H∧∃N:St→Hp→Prop,(∀σ' H',N σ' H'→∃m',m'<m∧W (i+1) m' σ' H')∧∀x H',J.yld i H x H'→g x σ H' fun σ2 H2=>tb {D with nx:=N,ct:=N,bk:=D.nx} σ2 H2)
theorem uz{X:Cx}{elt:Expr}{gens:List Comprehension}{csc:Scope}{cpos:Pos}{d:Nat}{tg:Expr}{p:Pos}{ifs:List Expr}{B:Sem PUnit}{acc:Value}{it:Addr}{fp:List Addr}{tn:Nat→Heap→Prop}{J:It}{g:TG}{ts:List TT}{tb:TB}{D:Ends}
 {pins:List (Addr × Obj)} {σ:St} {H:Hp} {s:Shared} {R:Result→Shared→Prop}
 (heq:compTurn (.ListComp elt gens csc cpos) d (.ref it) acc X.env=(do
  standAt p
  match ←pyNext (.ref it) with
  |none=>pure (.done .next)
  |some v=>
   letOwnedTupleGo tg (.ref it) v
   assign tg X.env v
   let mut ok:=true
   for c in ifs do
    if ok then ok ←isTrue c X.env (eval c X.env)
   if ok then B
   again (.compLoop (.ListComp elt gens csc cpos) d (.ref it) acc X.env)))
 (hx:X.xe=fun _ _=>False) (hc:X.calm=true) (T:Turn X.prog X.w X.K tg J fp it tn) (hg:PG X tg g) (ht:PTs X ifs ts) (hb:PB X B tb)
 (I:Inv X pins σ H s) (st:tn 0 s.heap) (f:∀b∈fp,vj X pins H b) (h:nH J g (tTB ts tb) D σ H)
 (hR:∀σ' H' s',Inv X pins σ' H' s'→D.nx σ' H'→(∀b∈fp,H' b=none)→R (.ok .next) s') :
 codeAny (model X.prog X.w) X.A (.compLoop (.ListComp elt gens csc cpos) d (.ref it) acc X.env) R s:=by
 obtain⟨W,⟨m0,w0⟩,turn⟩:=h
 have stat:∀{H':Hp},(∀b∈fp,H' b=none)→∀b∈fp,vj X pins H' b:=fun hn b hb=>⟨hn b hb,(f b hb).2⟩
 have no:∀{α:Type} {t:Sem α} {Q:α→Shared→Prop} {E':Value→Shared→Prop} {s:Shared},wpAny (model X.prog X.w) X.A t Q X.xe s→wpAny (model X.prog X.w) X.A t Q E' s:=fun h=>wpAny_mono h (fun _ _ q=>q) fun _ _ z=>by rw[hx]at z;exact z.elim
 refine codeAny_loop rfl (fun n s'=>∃i σ' H',Inv X pins σ' H' s'∧tn i s'.heap∧(∀b∈fp,H' b=none)∧W i n σ' H') (fun n s3 hI=>?_) m0 ⟨0,σ,H,I,st,fun b hb=>(f b hb).1,w0⟩
 obtain⟨i,σ3,H3,I3,st3,fr3,w3⟩:=hI
 show wpAny _ _ ((compTurn (.ListComp elt gens csc cpos) d (.ref it) acc X.env).onRaise (fun x=>do noteFrame x X.env;theTreesLotGoes x)) _ _ s3
 refine wpAny_noted ?_
 rw[heq]
 refine wpAny_bind (wpAny_standAt (wpAny_bind ?_))
 rcases turn i n σ3 H3 w3 with⟨stop,qn⟩|⟨go,N,hN,step⟩
 . refine no (thn (T.done X rfl rfl rfl hc i pins s3 σ3 H3 X.xe I3 (stat fr3) st3 stop) fun r s4 ⟨hr,I4⟩=>?_)
   subst hr
   exact wpAny_pure (hR σ3 H3 s4 I4 qn fr3)
 . refine no (thn (T.item X rfl rfl rfl hc i pins s3 σ3 H3 X.xe I3 (stat fr3) st3 go) fun r s4 ⟨u,hr,h4⟩=>?_)
   subst hr
   refine wpAny_bind (no (thn h4 fun _ s5 ⟨x,H5,I5,r5,y5,st5,fr5⟩=>?_))
   have I5':=I5.pinned (stat fr5) (T.obj _ _ st5)
   refine wpAny_bind (no (thn (hg _ s5 σ3 H5 x u _ I5' r5 (step x H5 y5)) fun _ s6 ⟨σ6,H6,I6,q6⟩=>?_))
   refine wpAny_bind (no (thn (ht.run I6 q6) fun ok s7 ⟨H7,I7,q7⟩=>?_))
   have again':∀{σ7:St} {H7:Hp} {s7:Shared},Inv X (pins++rR fp s5.heap) σ7 H7 s7→N σ7 H7→∃m,m<n∧∃i σ' H',Inv X pins σ' H' s7∧tn i s7.heap∧(∀b∈fp,H' b=none)∧W i m σ' H':=fun{σ7 H7 s7} I7 n7=>by
    obtain⟨m',hm,w7⟩:=hN σ7 H7 n7
    refine⟨m',hm,i+1,σ7,H7,I7.uq,T.keep _ _ _ st5 fun b hb o e=>(I7.pin (b,o) (List.mem_append_right _ (List.mem_append_right _ (w9 hb e)))).1,fun b hb=>?_,w7⟩
    obtain⟨o,e,d⟩:=T.obj _ _ st5 b hb
    exact(I7.pin (b,o) (List.mem_append_right _ (List.mem_append_right _ (w9 hb e)))).2.1
   cases ok with
   |false=>exact wpAny_pure ⟨rfl,again' I7 q7⟩
   |true=>exact wpAny_bind (no (thn (hb _ s7 σ6 H7 N I7 q7) fun _ s8 ⟨σ8,H8,I8,n8⟩=>wpAny_pure ⟨rfl,again' I8 n8⟩))
noncomputable def qp(acc:Addr)(te:TE):TB:=fun Nx σ H=>te σ H fun y H1=>∃ys,H1 acc=some (.lst ys)∧ys.length<sizeLine∧Nx σ (upd H1 acc (.lst (ys++[y])))
theorem kM{X:Cx}{acc:Addr}{elt:Expr}{te:TE}(he:PE X elt te):PB X (do let _ ←call (.builtin "list.append") [.ref acc,←eval elt X.env]) (qp acc te):=by
 intro pins s σ H Nx I h
 refine wpAny_bind (thn (he pins s σ H _ I h) fun u s1 ⟨y,H1,I1,r1,ys,hl,hz,q⟩=>?_)
 refine wpAny_bind (thn (qb pins s1 σ H1 (.ref acc) [y] (.ref acc) [u] (fun _ H'=>Nx σ H') I1 rfl (.cons r1 .nil) ⟨acc,ys,y,rfl,rfl,hl,hz,q⟩) fun _ s2 ⟨_,H2,I2,_,q2⟩=>?_)
 exact wpAny_pure ⟨σ,H2,I2,q2⟩
end L2
end
section
namespace L2
open PySem PySem.Spec PyProof.Rows
noncomputable def tU(fr:List (Option Nat))(wi:TI)(g:TG)(ts:List TT)(tb:Addr→TB)(σ:St)(H:Hp)(Q:VK):Prop:=
 wi σ H fun J H1=>∀acc,H1 acc=none→nH J g (tTB ts (tb acc)) ⟨fun _ H'=>Q (.ref acc) H',fun _ _=>False,fun _ _=>False,fun _ _=>False⟩ (zN fr σ) (upd H1 acc (.lst []))
section
variable {X:Cx}{pins:List (Addr × Obj)}{σ:St}{H:Hp}{s:Shared}{N:List Str}{csc:Scope}{fr:List (Option Nat)}{elt tg iter:Expr}{ifs:List Expr}{rest:List Comprehension}{cpos:Pos}{wi:TI}{g:TG}{ts:List TT}{tb:Addr→TB}
theorem qO{use:Option (Value→Sem Unit)}{QQ:Value→Shared→Prop}{Qv:VK}{B:Value→Env→Sem PUnit}{E:Value→Shared→Prop}(hE:E=X.xe)(hc:X.calm=true)(S:yB X N csc fr)(hi:PI X tg iter wi)
 (hturn:∀(it:Addr) (acc:Value) (env:Env),compTurn (.ListComp elt (⟨tg,iter,ifs,0⟩::rest) csc cpos) 0 (.ref it) acc env=(do
  standAt iter.pos
  match ←pyNext (.ref it) with
  |none=>pure (.done .next)
  |some v=>
   letOwnedTupleGo tg (.ref it) v
   assign tg env v
   let mut ok:=true
   for c in ifs do
    if ok then ok ←isTrue c env (eval c env)
   if ok then B acc env
   again (.compLoop (.ListComp elt (⟨tg,iter,ifs,0⟩::rest) csc cpos) 0 (.ref it) acc env)))
 (hg:∀C s0 H0 ex,PG (X.comp N csc C s0 H0 ex) tg g) (ht:∀C s0 H0 ex,PTs (X.comp N csc C s0 H0 ex) ifs ts)
 (hb:∀C s0 H0 ex acc,PB (X.comp N csc C s0 H0 ex) (B (.ref acc) (X.comp N csc C s0 H0 ex).env) (tb acc))
 (I:Inv X pins σ H s) (h:tU fr wi g ts tb σ H Qv)
 (hfin:∀acc C H' s',Inv X pins σ H' s'→Qv (.ref acc) H'→(∃m,s'.heap.Ns C m)→H' C=none→C≠X.env.locals→X.s₀.heap.objs.size≤C→(∀x c,X.env.cells.lookup x=some c→c≠C)→(∀p∈X.pn++pins,p.1≠C) →
  compPost (model X.prog X.w) X.A X.xe use QQ (.ref acc) C (.ok .next) s') :
 wpAny (model X.prog X.w) X.A (eval iter X.env) (fun x s₁=>wpAny (model X.prog X.w) X.A (pyIter x) (fun it s₂=>wpAny (model X.prog X.w) X.A (newList []) (fun acc s₃=>
  wpAny (model X.prog X.w) X.A (newFunctionEnv csc X.env.globals (vw X.env.cells csc.names []) [] X.env.qual none .none (some X.env)) (fun cenv s₄=>
   codeAny (model X.prog X.w) X.A (.compStart (.ListComp elt (⟨tg,iter,ifs,0⟩::rest) csc cpos) 0 it acc {cenv with scope:=relabel csc X.env}) (compPost (model X.prog X.w) X.A E use QQ acc cenv.locals) s₄) E s₃) E s₂) E s₁) E s:=by
 subst hE
 refine thn (hi pins s σ H _ I h) fun v s1 h1=>thn h1 fun itv s2 h2=>?_
 obtain⟨it,fp,tn,J,H2,e,I2,T,st2,f2,q2⟩:=h2
 subst e
 refine wpAny_newObj_type ?_
 have hfr:H2 s2.heap.objs.size=none:=I2.hok.fresh (Nat.le_refl _)
 have q3:=q2 s2.heap.objs.size hfr
 generalize hs3:({s2 with heap:=s2.heap.push {cls:=.type "list",dict:=none,data:=.seq ([]:List Value).toArray}}:Shared)=s3
 have k23:∀b u,s2.heap.get? b=some u→s3.heap.get? b=some u:=fun b u e=>by rw[←hs3];exact Heap.get?_push_of_some _ e
 have new3:s3.heap.get? s2.heap.objs.size=some {cls:=.type "list",dict:=none,data:=.seq ([]:List Value).toArray}:=by rw[←hs3];exact Heap.get?_push_size _ rfl
 have I3:Inv X pins σ (upd H2 s2.heap.objs.size (.lst [])) s3:=by
  rw[←hs3]
  exact I2.laid (t':=s2.toks) (fun b u e=>Heap.get?_push_of_some _ e) (Nat.le_refl _) ⟨Nat.zero_le _,[],0,.nil,Heap.get?_push_size _ rfl⟩
 have lt2:∀b∈fp,b<s2.heap.objs.size:=fun b hb=>by obtain⟨o,e,_⟩:=T.obj _ _ st2 b hb;exact Heap.lt_size e
 have hsz:s3.heap.objs.size=s2.heap.objs.size+1:=by rw[←hs3];exact Heap.size_push ..
 have f3:∀b∈fp,vj X pins (upd H2 s2.heap.objs.size (.lst [])) b:=fun b hb=>⟨by rw[zS (Nat.ne_of_lt (lt2 b hb))];exact(f2 b hb).1,(f2 b hb).2⟩
 have lt3:∀b∈fp,b<s3.heap.objs.size:=fun b hb=>by rw[hsz];exact Nat.lt_succ_of_lt (lt2 b hb)
 refine wpAny_newFunctionEnv S.nocell (by intro y hy;simp at hy) (fun h4 hns4 hsb4=>?_) S.kind
 have k34:∀b o,s3.heap.get? b=some o→h4.get? b=some o:=fun b o e=>hsb4.extBut b o (Nat.ne_of_lt (Heap.lt_size e)) (Heap.get?_push_of_some _ e)
 have hns4':h4.Ns s3.heap.objs.size (fun _=>none):=by simpa using hns4
 have I4:=nq (tk:=s3.toks+([]:List (Str × Value)).length) I3 S f3 lt3 hns4' k34
 have st4:tn 0 h4:=T.keep _ _ _ st2 fun b hb o e=>k34 b o (k23 b o e)
 have f4:∀b∈fp,vj (X.comp N csc s3.heap.objs.size s3 (upd H2 s2.heap.objs.size (.lst [])) fp) [] (upd H2 s2.heap.objs.size (.lst [])) b:=fun b hb=>by
  have ok:=I4.ok
  obtain⟨g1,g2⟩:=ok.exf b hb
  exact⟨(f3 b hb).1,g1,ok.exfs b hb,.inl hb,g2,fun p hp=>by simp at hp⟩
 have fin:∀σ' H' s',Inv (X.comp N csc s3.heap.objs.size s3 (upd H2 s2.heap.objs.size (.lst [])) fp) [] σ' H' s'→Qv (.ref s2.heap.objs.size) H'→(∀b∈fp,H' b=none) →
  compPost (model X.prog X.w) X.A X.xe use QQ (.ref s2.heap.objs.size) s3.heap.objs.size (.ok .next) s':=fun σ' H' s' I' q' _=>by
  have IX:Inv X pins σ H' s':=I3.Y4 I'.os I'.base I'.hok I'.bare fun b hb=>by
   obtain⟨g0,g1,g2,g3,g4,g5⟩:=f3 b hb
   exact⟨g3,g1,g4,g5⟩
  obtain⟨m,hn,_⟩:=I'.loc
  refine hfin _ _ H' s' IX q' ⟨m,hn⟩ I'.free (Nat.ne_of_gt I3.lt) I3.sz (fun x c e=>?_) fun p hp=>?_
  . obtain⟨w',z⟩:=I3.cell x c e
    exact Nat.ne_of_lt z.lt
  . exact Nat.ne_of_lt (Heap.lt_size (I3.pin p hp).1)
 have loop:codeAny (model X.prog X.w) X.A (.compLoop (.ListComp elt (⟨tg,iter,ifs,0⟩::rest) csc cpos) 0 (.ref it) (.ref s2.heap.objs.size) (compEnvC csc (vw X.env.cells csc.names []) s3.heap.objs.size X.env))
  (compPost (model X.prog X.w) X.A X.xe use QQ (.ref s2.heap.objs.size) s3.heap.objs.size) {s3 with heap:=h4,toks:=s3.toks+([]:List (Str × Value)).length}:=
  uz (X:=X.comp N csc s3.heap.objs.size s3 (upd H2 s2.heap.objs.size (.lst [])) fp) (hturn it _ _) rfl hc T (hg _ _ _ _) (ht _ _ _ _) (hb _ _ _ _ _) I4 st4 f4 q3 fin
 exact codeAny_compStart_list loop (T.self X.A 0 _ _ _ st4 loop)
theorem fJ{B:Value→Env→Sem PUnit}(hc:X.calm=true)(S:yB X N csc fr)(hi:PI X tg iter wi)
 (hturn:∀(it:Addr) (acc:Value) (env:Env),compTurn (.ListComp elt (⟨tg,iter,ifs,0⟩::rest) csc cpos) 0 (.ref it) acc env=(do
  standAt iter.pos
  match ←pyNext (.ref it) with
  |none=>pure (.done .next)
  |some v=>
   letOwnedTupleGo tg (.ref it) v
   assign tg env v
   let mut ok:=true
   for c in ifs do
    if ok then ok ←isTrue c env (eval c env)
   if ok then B acc env
   again (.compLoop (.ListComp elt (⟨tg,iter,ifs,0⟩::rest) csc cpos) 0 (.ref it) acc env)))
 (hg:∀C s0 H0 ex,PG (X.comp N csc C s0 H0 ex) tg g) (ht:∀C s0 H0 ex,PTs (X.comp N csc C s0 H0 ex) ifs ts)
 (hb:∀C s0 H0 ex acc,PB (X.comp N csc C s0 H0 ex) (B (.ref acc) (X.comp N csc C s0 H0 ex).env) (tb acc))
 (hs:∀x,foldedSetIterable iter X.env x=pure x:=by intro _;rfl) :
 PE X (.ListComp elt (⟨tg,iter,ifs,0⟩::rest) csc cpos) (tU fr wi g ts tb):=by
 intro pins s σ H Q I h
 rw[eval_ListComp]
 refine wpAny_comprehension_free (use:=none) rfl hs (vo (S.cells I.ok)) S.kind S.locals ?_
 refine qO (use:=none) rfl hc S hi hturn hg ht hb I h fun acc C H' s' I' q' hn hC hL h0 hcl hpn=>?_
 obtain⟨m,hn⟩:=hn
 refine⟨m,hn,fun h' sb=>⟨.ref acc,H',?_,rfl,q'⟩⟩
 exact I'.turned (t':=s'.toks) (fun b o hb e=>(sb.2 b hb).trans e) hC (Ne.symm (Ne.symm hL)) (.inr h0) hcl hpn
theorem fT{B:Value→Env→Sem PUnit}{y:Str}{py spos:Pos}{i:Nat}(hc:X.calm=true)(S:yB X N csc fr)(hi:PI X tg iter wi)
 (hturn:∀(it:Addr) (acc:Value) (env:Env),compTurn (.ListComp elt (⟨tg,iter,ifs,0⟩::rest) csc cpos) 0 (.ref it) acc env=(do
  standAt iter.pos
  match ←pyNext (.ref it) with
  |none=>pure (.done .next)
  |some v=>
   letOwnedTupleGo tg (.ref it) v
   assign tg env v
   let mut ok:=true
   for c in ifs do
    if ok then ok ←isTrue c env (eval c env)
   if ok then B acc env
   again (.compLoop (.ListComp elt (⟨tg,iter,ifs,0⟩::rest) csc cpos) 0 (.ref it) acc env)))
 (hg:∀C s0 H0 ex,PG (X.comp N csc C s0 H0 ex) tg g) (ht:∀C s0 H0 ex,PTs (X.comp N csc C s0 H0 ex) ifs ts)
 (hb:∀C s0 H0 ex acc,PB (X.comp N csc C s0 H0 ex) (B (.ref acc) (X.comp N csc C s0 H0 ex).env) (tb acc))
 (hN:X.N.Nodup) (hy:X.N[i]?=some y) (hx:Loc X.env.scope y)
 (hsw:swapsWith (.ListComp elt (⟨tg,iter,ifs,0⟩::rest) csc cpos) (some (.Name y py)) spos.line X.env=pure true:=by rfl)
 (hf:X.fn y=true∨X.env.scope.names.lookup y=some .local:=by first|exact .inl rfl|exact .inr rfl|assumption)
 (hs:∀x,foldedSetIterable iter X.env x=pure x:=by intro _;rfl) :
 PS X (.Assign [.Name y py] (.ListComp elt (⟨tg,iter,ifs,0⟩::rest) csc cpos) spos) (nS (tU fr wi g ts tb) (uS i)):=by
 intro pins s σ H D I h
 rw[exec_Assign_Name_used _ _ _ _ hsw]
 refine wpAny_bind (wpAny_standAt (wpAny_bind ?_))
 show wpAny _ X.A (do let _ ←comprehension (.ListComp elt (⟨tg,iter,ifs,0⟩::rest) csc cpos) csc X.env _ (newList []) false (eval iter X.env) (some (assign (.Name y py) X.env))) _ _ s
 refine wpAny_bind (wpAny_mono (wpAny_comprehension_free (use:=some (assign (.Name y py) X.env)) (Q:=fun _ s'=>SP X pins D .next s') rfl hs (vo (S.cells I.ok)) S.kind S.locals ?_) (fun _ s' hq=>wpAny_pure (wpAny_pure hq)) fun _ _ e=>e)
 refine qO (use:=some (assign (.Name y py) X.env)) rfl hc S hi hturn hg ht hb I h fun acc C H' s' I' q' hn hC hL h0 hcl hpn=>?_
 obtain⟨m,hn⟩:=hn
 show wpAny _ X.A (assign (.Name y py) X.env (.ref acc)) _ _ _
 refine wpAny_assign_Name (qm I' hN hy hx (show RelV (.ref acc) (.ref acc) from rfl) (fun s2 I2 ⟨a,sb,ha⟩=>?_) hf)
 have haC:C≠a:=by
  rcases ha with ha|ha
  . rw[ha];exact hL
  . exact Ne.symm (hcl y a ha)
 refine⟨m,hn.sameBut sb haC,fun h' sb'=>⟨_,H',?_,q'⟩⟩
 exact I2.turned (t':=s2.toks) (fun b o hb e=>(sb'.2 b hb).trans e) hC hL (.inr h0) hcl hpn
theorem aJ(elt tg iter:Expr)(ifs:List Expr)(csc:Scope)(cpos:Pos)(it:Addr)(acc:Value)(env:Env) :
 compTurn (.ListComp elt [⟨tg,iter,ifs,0⟩] csc cpos) 0 (.ref it) acc env=(do
  standAt iter.pos
  match ←pyNext (.ref it) with
  |none=>pure (.done .next)
  |some v=>
   letOwnedTupleGo tg (.ref it) v
   assign tg env v
   let mut ok:=true
   for c in ifs do
    if ok then ok ←isTrue c env (eval c env)
   if ok then (do let _ ←call (.builtin "list.append") [acc,←eval elt env])
   again (.compLoop (.ListComp elt [⟨tg,iter,ifs,0⟩] csc cpos) 0 (.ref it) acc env)):=by rfl
end
end L2
end
section
namespace L2
open PySem PySem.Spec PyProof.Rows
section
variable {X:Cx}{N:List Str}{csc:Scope}{fr:List (Option Nat)}{elt tg iter tg2 iter2:Expr}{ifs ifs2:List Expr}{cpos:Pos}{wi wi2:TI}{g g2:TG}{ts ts2:List TT}{te:TE}
theorem kN(hc:X.calm=true)(S:yB X N csc fr)(hi:PI X tg iter wi)(hg:∀C s0 H0 ex,PG (X.comp N csc C s0 H0 ex) tg g)(ht:∀C s0 H0 ex,PTs (X.comp N csc C s0 H0 ex) ifs ts)
 (he:∀C s0 H0 ex,PE (X.comp N csc C s0 H0 ex) elt te) (hs:∀x,foldedSetIterable iter X.env x=pure x:=by intro _;rfl) :
 PE X (.ListComp elt [⟨tg,iter,ifs,0⟩] csc cpos) (tU fr wi g ts fun acc=>qp acc te):=
 fJ hc S hi (B:=fun acc env=>(do let _ ←call (.builtin "list.append") [acc,←eval elt env])) (aJ elt tg iter ifs csc cpos) hg ht (fun C s0 H0 ex acc=>kM (he C s0 H0 ex)) hs
theorem cu{y:Str}{py spos:Pos}{i:Nat}(hc:X.calm=true)(S:yB X N csc fr)(hi:PI X tg iter wi)(hg:∀C s0 H0 ex,PG (X.comp N csc C s0 H0 ex) tg g)(ht:∀C s0 H0 ex,PTs (X.comp N csc C s0 H0 ex) ifs ts)
 (he:∀C s0 H0 ex,PE (X.comp N csc C s0 H0 ex) elt te) (hN:X.N.Nodup) (hy:X.N[i]?=some y) (hx:Loc X.env.scope y)
 (hsw:swapsWith (.ListComp elt [⟨tg,iter,ifs,0⟩] csc cpos) (some (.Name y py)) spos.line X.env=pure true:=by rfl)
 (hf:X.fn y=true∨X.env.scope.names.lookup y=some .local:=by first|exact .inl rfl|exact .inr rfl|assumption)
 (hs:∀x,foldedSetIterable iter X.env x=pure x:=by intro _;rfl) :
 PS X (.Assign [.Name y py] (.ListComp elt [⟨tg,iter,ifs,0⟩] csc cpos) spos) (nS (tU fr wi g ts fun acc=>qp acc te) (uS i)):=
 fT hc S hi (B:=fun acc env=>(do let _ ←call (.builtin "list.append") [acc,←eval elt env])) (aJ elt tg iter ifs csc cpos) hg ht (fun C s0 H0 ex acc=>kM (he C s0 H0 ex)) hN hy hx hsw hf hs
end
end L2
end
section
namespace L2
open PySem PySem.Spec PyProof.Rows
section
variable {X:Cx}
theorem sT:z9 X (.builtin "isinstance") (fun xs H Q=>∃x c t b,xs=[x,.ty c]∧uF X.K H x (.type t)∧PySem.W.kitOne X.K (.type t) (.type c)=some b∧Q (.bl b) H):=by
 intro pins s σ H xs us Q I r h
 obtain⟨x,c,t,b,rfl,ty,e,q⟩:=h
 obtain⟨u,w',rfl,rx,rc⟩:=vals2 r
 cases (show w'=Value.type c from rc)
 exact jB I rx ty e fun tk=>⟨.bl b,H,I.tok _,rfl,q⟩
end
inductive Kd where
 |non|bl|int|str|lst|tup|dct
 deriving DecidableEq
noncomputable def Kd.nm:Kd→String
 |.non=>"NoneType"|.bl=>"bool"|.int=>"int"|.str=>"str"|.lst=>"list"|.tup=>"tuple"|.dct=>"dict"
noncomputable def Kd.sub(a c:Kd):Bool:=decide (a=c)||(decide (a=.bl)&&decide (c=.int))
theorem Zj(K:PySem.W.Frag)(a c:Kd)(hc:c≠.non):PySem.W.kitOne K (.type a.nm) (.type c.nm)=some (a.sub c):=by
 cases c with
 |non=>exact absurd rfl hc
 |bl=>cases a<;>rfl
 |int=>cases a<;>rfl
 |str=>cases a<;>rfl
 |lst=>cases a<;>rfl
 |tup=>cases a<;>rfl
 |dct=>cases a<;>rfl
section
variable {X:Cx}
theorem all_range:∀(bs:List Bool),((List.range bs.length).all fun i=>bs.getD i false)=bs.all id:=by
 intro bs
 induction bs with
 |nil=>rfl
 |cons b bs ih=>
  rw[List.length_cons,List.range_succ_eq_map,List.all_cons,List.all_cons,List.all_map]
  exact congrArg (b&&·) (Eq.trans (by congr 1) ih)
theorem Vals.bools:∀{bs:List Bool} {us:List Value},Vals (bs.map V.bl) us→us=bs.map Value.bool
 |[],us,r=>by cases r;rfl
 |b::bs,us,r=>by
  rw[List.map_cons]at r
  cases r with
  |cons r1 r2=>
   cases (show _=Value.bool b from r1)
   rw[Vals.bools r2,List.map_cons]
theorem sS(hc:X.calm=true):z9 X (.builtin "all") (fun xs H Q=>∃(a:Addr) (bs:List Bool),xs=[.ref a]∧SqL X.K H a (bs.map V.bl)∧Q (.bl (bs.all id)) H):=by
 intro pins s σ H xs us Q I r h
 obtain⟨a,bs,rfl,ha,q⟩:=h
 obtain⟨u,rfl,ru⟩:=vals1 r
 cases ru
 obtain⟨its,rv,pl,hz⟩:=I.list ha
 have hits:=rv.bools
 have alt:a<s.heap.objs.size:=by obtain⟨o,ho,_⟩:=pl.isList;exact Heap.lt_size ho
 refine call_all_walk (wpAny_pyIter_list pl.isList ?_)
 refine⟨s.heap.objs.size,_,_,_,_,_,fun i=>bs.getD i false,rfl,Walks.list (A:=X.A.in1) (I.ok.hd hc) s.heap.objs.size a (Nat.ne_of_lt alt) its.toArray,⟨⟨_,Heap.get?_push_size _ rfl,rfl,rfl⟩,?_⟩,?_,fun h' tk hk=>?_⟩
 . obtain⟨o,ho,hc',n,hd⟩:=pl.isList
   exact⟨o,Heap.get?_push_of_some _ ho,hc',n,hd⟩
 . intro i v s' Q' E' hv hq
   have hv':(bs.map Value.bool)[i]?=some v:=by rw[←hits];simpa using hv
   rw[List.getElem?_map]at hv'
   cases hb:bs[i]? with
   |none=>rw[hb]at hv';cases hv'
   |some b=>
    rw[hb]at hv'
    have:v=Value.bool b:=(Option.some.inj hv').symm
    subst this
    have e:bs.getD i false=b:=by rw[List.getD_eq_getElem?_getD,hb];rfl
    have hq':Q' (bs.getD i false) s':=hq
    rw[e]at hq'
    exact wpAny_truthy_bool hq'
 . have e:(List.range its.toArray.size).all (fun i=>bs.getD i false)=bs.all id:=by
    rw[List.size_toArray,hits,List.length_map];exact all_range bs
   rw[e]
   refine⟨.bl (bs.all id),H,I.kept fun b o ho=>hk b o ?_ (Heap.get?_push_of_some _ ho),rfl,q⟩
   simpa using Nat.ne_of_lt (Heap.lt_size ho)
end
end L2
end
section
namespace L2
open PySem PySem.Spec PyProof.Rows
theorem fz{H:Hp}{p:Addr}(h:H p=none)(o:HO):sN H (upd H p o):=fun b u q=>by rw[zS (zY q h)];exact q
noncomputable def tL(H:Hp)(ys:List V)(Q:VK):Prop:=∀p H',sN H H'→H' p=some (.tup ys)→Q (.ref p) H'
theorem tL.new{H:Hp}{ys:List V}{Q:VK}(g:tL H ys Q):∀p,H p=none→Q (.ref p) (upd H p (.tup ys)):=fun p hp=>g p _ (fz hp _) z8
noncomputable def VA:V→Option Int→Option Int→Hp→VK→Prop:=fun x lo hi H Q=>∃a xs,x=.ref a∧H a=some (.tup xs)∧tL H (rn xs lo hi) Q
noncomputable def WL:R2:=fun x y H Q=>∃a b xs ys,x=.ref a∧y=.ref b∧H a=some (.tup xs)∧H b=some (.tup ys)∧xs.length+ys.length≤sizeLine∧tL H (xs++ys) Q
noncomputable def WS:R2:=fun x y H Q=>∃a k xs,x=.ref a∧y=.int k∧H a=some (.tup xs)∧2≤k∧k≤1000∧xs≠[]∧xs.length≤1000∧tL H (List.replicate k.toNat xs).flatten Q
section
variable {X:Cx}
theorem k5{t sl:Addr}{items:Array Value}{vl vu:Value}{lo hi:Option Int}{Q:Value→Shared→Prop}{A:Around}{E:Value→Shared→Prop}{s:Shared}{prog:Program}{w:World}(ht:IsTup s.heap t items)(hs:s.heap.IsSliceOf sl vl vu .none)(pl:IsPart vl lo)(pu:IsPart vu hi)
 (h0:HT.sIx items.size 0 lo=0) (h1:HT.sIx items.size items.size hi=items.size) (h:Q (.ref t) s):wpAny (model prog w) A (getItem (.ref t) (.ref sl)) Q E s:=by
 obtain⟨os,hos,hcs,hds⟩:=id hs
 have hTs:s.TypeIs (.ref sl) "slice":=⟨os,hos,hcs⟩
 unfold getItem
 try with_reducible refine wpAny_holding ?_
 first|refine wpAny_bind (wpAny_pure ?_)|skip
 refine wpAny_bind (wpAny_sequenceKey ht.typeIs (by decide) ?_)
 refine wpAny_bind (wpAny_callSpecial?_slot (name:=Str.ofString "__getitem__") ht.typeIs PyProof.Rows.slot_tuple_getitem
  (wpAny_call_entry PyProof.Rows.slot_tuple_getitem ht.typeIs entry_tuple_getitem ?_ (args_tuple_getitem _ _)))
 show wpAny _ _ (Builtin.Tuple.tupleItemsOf (.ref t) >>= _) _ _ s
 refine wpAny_bind (tupleItemsOf_ ht ?_)
 refine wpAny_bind (wpAny_typeOf hTs ?_)
 rw[if_pos (by decide)]
 refine wpAny_bind (HT.wq hs pl pu ?_)
 have hyes:(((HT.sIx items.size 0 lo:Nat):Int) == 0&&(1:Int) == 1&&(HT.sIx items.size items.size hi-HT.sIx items.size 0 lo) == items.size)=true:=by
  rw[h0,h1];simp
 show wpAny _ _ (if (((HT.sIx items.size 0 lo:Nat):Int) == 0&&(1:Int) == 1&&(HT.sIx items.size items.size hi-HT.sIx items.size 0 lo) == items.size)=true then _ else _) _ _ s
 rw[if_pos hyes]
 unfold Builtin.Tuple.tupleIsExact
 refine wpAny_bind (wpAny_bind (wpAny_typeOf ht.typeIs (wpAny_pure ?_)))
 rw[if_pos (by decide)]
 exact wpAny_bind (wpAny_rule (wpAny_pure ⟨_,rfl,wpAny_pure h⟩))
theorem bJ:SlR X VA:=by
 intro pins s σ H x v vl vu lo hi sl Q I rx hs pl pu h
 obtain⟨a,xs,rfl,hx,g⟩:=h
 by_cases hw:HT.sIx xs.length 0 lo=0∧HT.sIx xs.length xs.length hi=xs.length
 . cases rx
   obtain⟨its,r,ht,hz⟩:=I.tuple (.inl (.inl hx))
   have hlen:its.toArray.size=xs.length:=by rw[List.size_toArray];exact r.length.symm
   refine⟨"tuple",_,PyProof.Rows.slot_tuple_getitem.lookup,ht.typeIs,?_⟩
   refine k5 ht hs pl pu (by rw[hlen];exact hw.1) (by rw[hlen];exact hw.2) ⟨.ref a,H,I,rfl,g a H (sN.refl H) ?_⟩
   rw[hx]
   unfold rn
   rw[hw.1,hw.2,List.drop_zero,Nat.sub_zero,List.take_length]
 . exact uB pins s σ H (.ref a) v vl vu lo hi sl Q I rx hs pl pu ⟨a,xs,rfl,.inl (.inl hx),hw,g.new⟩
theorem gn:OpR X (binaryOp .Add) WL:=by
 intro pins s σ H x y v u Q I rx ry h
 obtain⟨a,b,xs,ys,rfl,rfl,ha,hb,hz,g⟩:=h
 by_cases hx:xs=[]
 . cases rx
   cases ry
   subst hx
   obtain⟨its,r1,p1,_⟩:=I.tuple (.inl (.inl ha))
   obtain⟨its2,r2,p2,_⟩:=I.tuple (.inl (.inl hb))
   cases r1
   obtain⟨⟨cls,dd,data,sl⟩,ho,hc,n,hd⟩:=id p1
   obtain⟨⟨cls2,dd2,data2,sl2⟩,ho2,hc2,n2,hd2⟩:=id p2
   simp only at hc hd hc2 hd2
   subst hc hd hc2 hd2
   exact concat_meets ⟨_,ho,rfl⟩ ⟨_,ho2,rfl⟩ noFill_tuple_add seq_tuple_add PySem.F.slot_tuple_add PySem.F.entry_tuple_add (PySem.F.args_tuple_add_2 _ _)
    (tuple_addW0 a b #[] its2.toArray n n2 dd dd2 sl sl2 rfl) ⟨ho,ho2,⟨.ref b,H,I,rfl,g b H (sN.refl H) hb⟩⟩
 . refine cF pins s σ H (.ref a) (.ref b) v u Q I rx ry ⟨a,b,xs,ys,rfl,rfl,.inl (.inl ha),.inl (.inl hb),hx,hz,fun e=>?_,fun _=>g.new⟩
   subst e
   rw[List.append_nil]at g
   exact g a H (sN.refl H) ha
theorem xU:fillsNumberSlot (.type "tuple") "mul"=pure false:=
 PySem.fillsNumberSlot_seq (id:="tuple.__mul__") (r:=some (.builtin "tuple.__rmul__")) F.slot_tuple_mul.lookup (by decide +kernel) F.slot_tuple_rmul.lookup (by decide +kernel)
theorem vF:seqRepeat? (.type "tuple")=pure (some (.builtin "tuple.__mul__")):=by
 unfold seqRepeat?
 rw[PySem.seqSlot_of (T:="tuple") (name:="__mul__") (id:="tuple.__mul__") F.slot_tuple_mul.lookup (by decide +kernel),PySem.seqSlot_of (T:="tuple") (name:="__rmul__") (id:="tuple.__rmul__") F.slot_tuple_rmul.lookup (by decide +kernel)]
 rfl
theorem wC(a:Int)(t:Tok)(l:Addr)(items:Array Value)(n:Nat)(dd:Option Addr)(sl:Array (Option Value)) :
 Meets (Builtin.«int.__rmul__» ⟨[.int a t,.ref l],[]⟩) (fun _ R s=>s.heap.get? l=some {cls:=.type "tuple",dict:=dd,data:=.seq items n,slots:=sl}∧R (.ok (.ret Value.notImplemented)) s):=
 .of_wp fun prog w A R s h=>by obtain⟨hp,g,d,tk,os⟩:=s;obtain⟨hl,h⟩:=h;wp_walk;exact⟨_,rfl,h⟩
theorem lF(l:Addr)(items:Array Value)(n:Nat)(x:Int)(u:Tok)(dd:Option Addr)(sl:Array (Option Value))(h1:2≤x)(h2:x≤1000)(h3:¬items.isEmpty=true)(h4:items.size≤1000) :
 Meets (Builtin.«tuple.__mul__» ⟨[.ref l,.int x u],[]⟩) (fun _ R s=>s.heap.get? l=some {cls:=.type "tuple",dict:=dd,data:=.seq items n,slots:=sl} ∧
  R (.ok (.ret (Value.ref s.heap.objs.size))) {s with heap:=s.heap.push {cls:=Value.type "tuple",data:=Data.seq (List.foldl (fun x1 x2=>x1++x2) #[] (List.replicate x.toNat items))},toks:=s.toks}):=
 .of_wp fun prog w A R s h=>by
  obtain⟨hp,g,d,tk,os⟩:=s;obtain⟨hl,h⟩:=h
  have f1:=AutoSeq1.idx_int
  have c1:¬((decide (x < -(2 ^ 63))||decide (x ≥ 2 ^ 63))=true):=by simp;omega
  have c2:¬((items.isEmpty||x == 1)=true):=by simp at h3 ⊢;exact⟨h3,by omega⟩
  have c3:¬((decide (x≤0)||items.isEmpty)=true):=by simp at h3 ⊢;exact⟨by omega,h3⟩
  have hprod:(items.size:Int)*x≤1000*1000:=Int.mul_le_mul (by omega) h2 (by omega) (by omega)
  have c4:¬((items.size:Int)*x > (2 ^ 63-1)/8):=by omega
  have hL:sizeLine=16777216:=sizeLine_eq
  have c5:¬(Builtin.Tuple.tupleTooMany ((items.size:Int)*x)=true):=by
   unfold Builtin.Tuple.tupleTooMany
   rw[hL]
   simp only[decide_eq_true_eq]
   omega
  have hn:(List.foldl (fun x1 x2=>x1++x2) #[] (List.replicate x.toNat items)).size=x.toNat*items.size:=by
   have e:=foldl_rep items.toList x.toNat []
   simp only[Array.toArray_toList,List.nil_append]at e
   rw[e,List.size_toArray,len_rep,Array.length_toList]
  have htake:sizeOk (.seq (List.foldl (fun x1 x2=>x1++x2) #[] (List.replicate x.toNat items))):=by
   show (List.foldl (fun x1 x2=>x1++x2) #[] (List.replicate x.toNat items)).size≤sizeLine
   rw[hn,hL]
   have:x.toNat*items.size≤1000*1000:=Nat.mul_le_mul (by omega) h4
   omega
  wp_walk using wpAny_loadPart' hl
  rw[if_neg c1]
  refine wpAny_bind (tupleItemsOf_ (items:=items) ⟨_,hl,rfl,n,rfl⟩ ?_)
  rw[if_neg c2]
  show wpAny _ _ (if (decide (x≤0)||items.isEmpty)=true then _ else _) _ _ _
  rw[if_neg c3]
  show wpAny _ _ (if (items.size:Int)*x > (2 ^ 63-1)/8 then _ else _) _ _ _
  rw[if_neg c4]
  show wpAny _ _ (if Builtin.Tuple.tupleTooMany ((items.size:Int)*x)=true then _ else _) _ _ _
  rw[if_neg c5]
  exact wpAny_bind (m:=Builtin.Tuple.tupleExact _) (wpAny_newObj_type (wpAny_pure ⟨_,rfl,h⟩) htake)
theorem cJ:OpR X (binaryOp .Mult) WS:=by
 intro pins s σ H x y v u Q I rx ry h
 obtain⟨a,k,xs,rfl,rfl,ha,h1,h2,h3,h4,g⟩:=h
 cases rx
 obtain⟨t,rfl⟩:=ry
 obtain⟨its,r,p1,_⟩:=I.tuple (.inl (.inl ha))
 obtain⟨⟨cls,dd,data,sl⟩,ho,hc,n,hd⟩:=id p1
 simp only at hc hd
 subst hc hd
 have hl:=r.length
 have hne:¬its.toArray.isEmpty=true:=by
  simp
  intro e
  exact h3 (r.uY.mp e)
 refine wpAny_binaryOp_repeat_ref (T:="tuple") (U:="int") (by decide) ⟨_,ho,rfl⟩ (fun s'=>typeIs_int s' k t) xU F.fills_int_mul F.slot_int_rmul vF F.slot_int_index.lookup
  (call_meets F.slot_int_rmul (typeIs_int s k t) F.entry_int_rmul (F.args_int_rmul_2 _ _) (wC k t a its.toArray n dd sl)
   ⟨ho,rfl,⟨_,ho,rfl⟩,call_meets F.slot_tuple_mul ⟨_,ho,rfl⟩ F.entry_tuple_mul (F.args_tuple_mul_2 _ _) (lF a its.toArray n k t dd sl h1 h2 hne (by rw[List.size_toArray,←hl];exact h4)) ⟨ho,?_⟩⟩)
 have e:=foldl_rep its k.toNat []
 rw[List.nil_append]at e
 have hz:(List.replicate k.toNat xs).flatten.length≤sizeLine:=by
  rw[len_rep,sizeLine_eq]
  have:k.toNat*xs.length≤1000*1000:=Nat.mul_le_mul (by omega) h4
  omega
 refine⟨.ref s.heap.objs.size,_,I.laid (t':=s.toks) (o:=.tup (List.replicate k.toNat xs).flatten) (fun b ob q=>Heap.get?_push_of_some _ q) (Nat.le_refl _) ⟨hz,(List.replicate k.toNat its).flatten,r.rep k.toNat,?_⟩,rfl,g.new _ (I.hok.fresh (Nat.le_refl _))⟩
 rw[show (#[]:Array Value)=([]:List Value).toArray from rfl,e]
 exact ur.new _ _
end
end L2
end
section
namespace L2
open PySem PySem.Spec PyProof.Rows
section
variable {X:Cx}{pos:Pos}
noncomputable def aG(i j k:Nat)(ta:TA):TS:=fun D σ H=>ta σ H fun vs H1=>∃v w z,vs=[v,w,z]∧D.nx (((σ.set i (some v)).set j (some w)).set k (some z)) H1
theorem vals3{x y z:V}{us:List Value}(r:Vals [x,y,z] us):∃u1 u2 u3,us=[u1,u2,u3]∧RelV x u1∧RelV y u2∧RelV z u3:=by
 cases r with
 |cons r1 r2=>
  cases r2 with
  |cons r3 r4=>
   cases r4 with
   |cons r5 r6=>cases r6;exact⟨_,_,_,rfl,r1,r3,r5⟩
theorem cx{i j k:Nat}{x y z:Str}{a b c:Expr}{ta:TA}{px py pz pt:Pos}{kt k2 pt2}(hc:X.calm=true)(hN:X.N.Nodup)(hi:X.N[i]?=some x)(hj:X.N[j]?=some y)(hk:X.N[k]?=some z)(hij:i≠j)(hik:i≠k)(hjk:j≠k)
 (hx:X.env.scope.names.lookup x=some .local) (hy:X.env.scope.names.lookup y=some .local) (hz:X.env.scope.names.lookup z=some .local) (ha:PA X [a,b,c] ta)
 (hw:swappedStores [.Tuple [.Name x px,.Name y py,.Name z pz] kt pt] (.Tuple [a,b,c] k2 pt2) X.env=pure (some [x,y,z]))
 (hs:swapsWithSole [.Tuple [.Name x px,.Name y py,.Name z pz] kt pt] (.Tuple [a,b,c] k2 pt2) pos.line X.env=pure false:=by rfl) :
 PS X (.Assign [.Tuple [.Name x px,.Name y py,.Name z pz] kt pt] (.Tuple [a,b,c] k2 pt2) pos) (aG i j k ta):=by
 intro pins s σ H D I h
 rw[exec_Assign_arm]
 refine wpAny_bind (wpAny_standAt ?_)
 rw[hs]
 refine wpAny_bind (wpAny_pure ?_)
 rw[if_neg (by decide)]
 refine wpAny_bind (Tuple_ (thn (ha _ pins s σ H _ I h) fun us s1 ⟨vs,H1,I1,r1,q1⟩=>?_))
 obtain⟨v,w,zz,e1,q1⟩:=q1
 subst e1
 obtain⟨u1,u2,u3,rfl,rv,rw',rz⟩:=vals3 r1
 refine wpAny_newObj_type ?_ (by show 3≤sizeLine;decide)
 have I2:Inv X pins σ H1 {s1 with heap:=s1.heap.push {cls:=.type "tuple",data:=.seq [u1,u2,u3].toArray}}:=I1.kept (t':=s1.toks) fun b o e=>Heap.get?_push_of_some _ e
 rw[hw]
 refine wpAny_bind (wpAny_pure ?_)
 show wpAny (model X.prog X.w) X.A (do rule "assign.swapped-stores";let items ←unpackItems (.ref s1.heap.objs.size) 3 none;assignInOrder [fun v=>bindName X.env z v,fun v=>bindName X.env y v,fun v=>bindName X.env x v] items.reverse;pure Flow.next) _ _ _
 refine wpAny_bind (wpAny_rule (wpAny_bind (unpackItems_tuple (items:=#[u1,u2,u3]) (I.ok.hd hc) (IsTup.new s1.heap _) fun h' hx'=>?_)))
 have I3:=I2.kept (h':=h') (t':=s1.toks) fun b o e=>hx' b o (Nat.ne_of_lt (Heap.lt_size e)) e
 show wpAny _ _ (assignInOrder [fun v=>bindName X.env z v,fun v=>bindName X.env y v,fun v=>bindName X.env x v] [u3,u2,u1] >>= fun _=>pure Flow.next) _ _ _
 refine wpAny_bind (assignInOrder_cons (wpAny_bindName (xn I3 hN hk (.inl hz) rz (fun s2 I4=>?_) (.inr hz))))
 refine assignInOrder_cons (wpAny_bindName (xn I4 hN hj (.inl hy) rw' (fun s3 I5=>?_) (.inr hy)))
 refine assignInOrder_cons (wpAny_bindName (xn I5 hN hi (.inl hx) rv (fun s4 I6=>assignInOrder_nil (wpAny_pure ?_)) (.inr hx)))
 refine⟨_,H1,?_,q1⟩
 have e:((σ.set k (some zz)).set j (some w)).set i (some v)=((σ.set i (some v)).set j (some w)).set k (some zz):=by
  rw[List.set_comm _ _ (Ne.symm hij),List.set_comm _ _ (Ne.symm hik),List.set_comm _ _ (Ne.symm hjk)]
 rw[←e]
 exact I6
end
end L2
namespace L2
open PySem PySem.Spec PyProof.Rows
mutual
inductive DD(H:Hp)(p:Addr):V→PyData→Prop
 |non:DD H p .non .none
 |bl (b:Bool):DD H p (.bl b) (.bool b)
 |int (i:Int):DD H p (.int i) (.int i)
 |str (x:Str):DD H p (.str x) (.str x)
 |lst {a:Addr} {xs:List V} {ds:List PyData}:H a=some (.lst xs)→a≠p→DDs H p xs ds→DD H p (.ref a) (.list ds)
 |tup {a:Addr} {xs:List V} {ds:List PyData}:H a=some (.tup xs)→a≠p→DDs H p xs ds→DD H p (.ref a) (.tuple ds)
 |dct {a:Addr}:H a=some (.dK [])→a≠p→DD H p (.ref a) (.dict [])
inductive DDs(H:Hp)(p:Addr):List V→List PyData→Prop
 |nil:DDs H p [] []
 |cons {x:V} {xs:List V} {d:PyData} {ds:List PyData}:DD H p x d→DDs H p xs ds→DDs H p (x::xs) (d::ds)
end
theorem DDs.length{H:Hp}{p:Addr}:∀{vs:List V} {ds:List PyData},DDs H p vs ds→vs.length=ds.length
 |_,_,.nil=>rfl
 |_,_,.cons _ rs=>by rw[List.length_cons,List.length_cons,rs.length]
theorem DDs.append{H:Hp}{p:Addr}:∀{vs ws:List V} {ds es:List PyData},DDs H p vs ds→DDs H p ws es→DDs H p (vs++ws) (ds++es)
 |_,_,_,_,.nil,r=>r
 |_,_,_,_,.cons r rs,q=>.cons r (rs.append q)
mutual
noncomputable def xC:PyData→Bool
 |.none|.bool _|.int _|.str _=>false
 |.list _=>true
 |.tuple xs=>xS xs
 |.dict _=>false
noncomputable def xS:List PyData→Bool
 |[]=>false
 |x::xs=>xC x||xS xs
end
structure bp(d:PyData):Prop where
 sh:d.showable=true
 mix:d.hasDict=true→xC d=false
 dp:d.depth≤50
 ln:d.shown.length≤sizeLine
end L2
end
section
namespace L2
open PySem PySem.Spec PyProof.Rows
structure vJ(k w:Nat)(d:PyData):Prop where
 sh:d.showable=true
 lf:d.leavesShort 40=true
 dp:d.depth≤k
 wt:d.weight≤w
theorem vJ.mono{k w k' w':Nat}{d:PyData}(h:vJ k w d)(h1:k≤k')(h2:w≤w'):vJ k' w' d:=⟨h.sh,h.lf,Nat.le_trans h.dp h1,Nat.le_trans h.wt h2⟩
theorem gY{i:Int}(h1:-(10 ^ 30)<i)(h2:i<10 ^ 30):vJ 0 100 (.int i):=by
 have hn:i.natAbs<10 ^ 30:=by omega
 have h100:i.natAbs<2 ^ 100:=Nat.lt_trans hn (by decide)
 have hlog:i.natAbs≠0→i.natAbs.log2<100:=fun z=>(Nat.log2_lt z).mpr h100
 refine⟨?_,?_,Nat.zero_le _,?_⟩
 . show decide (i.natAbs.log2<1920)=true
   by_cases z:i.natAbs=0
   . rw[z];decide
   . exact decide_eq_true (Nat.lt_trans (hlog z) (by decide))
 . show decide ((PyData.shown (.int i)).length≤40)=true
   refine decide_eq_true ?_
   show (Str.ofString (toString i)).length≤40
   by_cases z:0≤i
   . exact Nat.le_trans (toString_length_le z (k:=30) (by decide) h2) (by decide)
   . have e:=len_text_negI (n:=i) (by omega)
     have e2:=toString_length_le (v:=0-i) (k:=30) (by omega) (by decide) (by omega)
     omega
 . show (if i == 0 then 0 else i.natAbs.log2+1)≤100
   split
   . exact Nat.zero_le _
   . rename_i z
     have z':i≠0:=by simpa using z
     exact hlog (by omega)
theorem jN:vJ 0 0 .none:=⟨rfl,rfl,Nat.le_refl _,Nat.le_refl _⟩
theorem jK(b:Bool):vJ 0 0 (.bool b):=⟨rfl,rfl,Nat.le_refl _,Nat.le_refl _⟩
theorem wy:∀{ds:List PyData},(∀d∈ds,d.showable=true)→PyData.showableAll ds=true
 |[],_=>rfl
 |d::ds,h=>by rw[PyData.showableAll,h d List.mem_cons_self,wy fun x hx=>h x (List.mem_cons_of_mem _ hx)];rfl
theorem uw:∀{ds:List PyData},(∀d∈ds,d.leavesShort 40=true)→PyData.leavesShortAll 40 ds=true
 |[],_=>rfl
 |d::ds,h=>by rw[PyData.leavesShortAll,h d List.mem_cons_self,uw fun x hx=>h x (List.mem_cons_of_mem _ hx)];rfl
theorem uv{k:Nat}:∀{ds:List PyData},(∀d∈ds,d.depth≤k)→PyData.depthAll ds≤k
 |[],_=>Nat.zero_le _
 |d::ds,h=>by rw[PyData.depthAll];exact Nat.max_le.mpr ⟨h d List.mem_cons_self,uv fun x hx=>h x (List.mem_cons_of_mem _ hx)⟩
theorem vq{w:Nat}:∀{ds:List PyData},(∀d∈ds,d.weight≤w)→PyData.weightAll ds≤ds.length*(w+1)
 |[],_=>by simp[PyData.weightAll]
 |d::ds,h=>by
  rw[PyData.weightAll,List.length_cons,Nat.succ_mul]
  have h1:=h d List.mem_cons_self
  have h2:=vq fun x hx=>h x (List.mem_cons_of_mem _ hx)
  omega
theorem mE{k w n:Nat}{ds:List PyData}(h:∀d∈ds,vJ k w d)(hn:ds.length≤n):vJ (k+1) (n*(w+1)) (.tuple ds):=by
 refine⟨wy fun d hd=>(h d hd).sh,uw fun d hd=>(h d hd).lf,Nat.succ_le_succ (uv fun d hd=>(h d hd).dp),?_⟩
 exact Nat.le_trans (vq fun d hd=>(h d hd).wt) (Nat.mul_le_mul_right _ hn)
theorem jM{k w n:Nat}{ds:List PyData}(h:∀d∈ds,vJ k w d)(hn:ds.length≤n):vJ (k+1) (n*(w+1)) (.list ds):=by
 refine⟨wy fun d hd=>(h d hd).sh,uw fun d hd=>(h d hd).lf,Nat.succ_le_succ (uv fun d hd=>(h d hd).dp),?_⟩
 exact Nat.le_trans (vq fun d hd=>(h d hd).wt) (Nat.mul_le_mul_right _ hn)
theorem gZ{x:Str}(h1:∀c∈x.cps.toList,c<16 ^ 8)(h2:x.cps.size≤100):vJ 0 100 (.str x):=by
 refine⟨rfl,?_,Nat.zero_le _,h2⟩
 show (x.cps.toList.all fun c=>decide (c<16 ^ 8))=true
 rw[List.all_eq_true]
 exact fun c hc=>decide_eq_true (h1 c hc)
theorem vJ.WX{k w:Nat}{d:PyData}(h:vJ k w d)(hk:k≤50)(hw:w≤300000)(mix:d.hasDict=true→xC d=false):bp d:=by
 refine⟨h.sh,mix,Nat.le_trans h.dp hk,?_⟩
 have e:=PyData.shown_le 40 (by decide) d h.lf
 have e2:=h.wt
 rw[sizeLine_eq]
 have:(40+2)*d.weight≤42*300000:=Nat.mul_le_mul_left _ (Nat.le_trans e2 hw)
 omega
theorem tB:∀{ds:List PyData},(∀d∈ds,d.hasDict=false)→PyData.hasDictAll ds=false
 |[],_=>rfl
 |d::ds,h=>by rw[PyData.hasDictAll,h d List.mem_cons_self,tB fun x hx=>h x (List.mem_cons_of_mem _ hx)];rfl
end L2
end
section
namespace L2
open PySem PySem.Spec PyProof.Rows
section
variable {X:Cx}{pos:Pos}
theorem WB{x:Str}{n:String}(hg:Gl X x)(hm:X.mg x=none)(hv:bootBuiltins x=some (.type n))(hn:x≠"__name__":=by decide)(hd:(x == ("__debug__":Str))=false:=by decide):PE X (.Name x pos) (tC (.ty n)):=
 cV hg hm hv (show RelV (.ty n) (.type n) from rfl) hn hd
noncomputable def noStar:Expr→Bool
 |.Starred ..=>false
 |_=>true
theorem yC{e:Expr}{es:List Expr}{env:Env}(h:noStar e=true):starEach (e::es) env=(false,eval e env)::starEach es env:=by
 cases e<;>first|rfl|cases h
theorem pac{X:Cx}{e:Expr}{es:List Expr}{te:TE}{t:TA}(ha:PE X e te)(hr:PA X es t)(hs:noStar e=true:=by rfl):PA X (e::es) (qo te t):=cT ha hr (yC hs)
noncomputable def nj(sc0:Scope)(N0 N:List Str)(csc:Scope)(fr:List (Option Nat)):Bool:=
 decide (csc.kind=.function)&&csc.names.all (fun x=>decide (x.2≠.cell))&&csc.names.all (fun x=>decide (x.2≠.local)||decide (csc.names.lookup x.1=some .local)) &&
 csc.names.all (fun x=>decide (x.2≠.free)||(decide (sc0.names.lookup x.1=some .cell)||decide (sc0.names.lookup x.1=some .free)))&&decide (fr.length=N.length) &&
 (List.range N.length).all (fun i=>match fr[i]?,N[i]? with|some (some j),some x=>decide (N0[j]?=some x)&&csc.names.any (fun y=>decide (y.1=x)&&decide (y.2=.free))|_,_=>true) &&
 csc.names.all (fun x=>decide (x.2≠.free)||decide (csc.names.lookup x.1≠some .local))
end
end L2
end
section
namespace L2
open PySem PySem.Spec PyProof.Rows
noncomputable def yc{α:Type}(xs:List α)(lo st:Int)(n:Nat):List α:=(List.range n).filterMap fun(k:Nat)=>xs[(lo+(k:Int)*st).toNat]?
theorem Vals.pick{xs:List V}{us:List Value}(r:Vals xs us):∀(is:List Nat),Vals (is.filterMap fun i=>xs[i]?) (is.filterMap fun i=>us[i]?)
 |[]=>.nil
 |i::is=>by
  rw[List.filterMap_cons,List.filterMap_cons]
  cases hx:xs[i]? with
  |none=>rw[r.none_of hx];exact Vals.pick r is
  |some x=>
   obtain⟨u,hu,ru⟩:=r.get hx
   rw[hu]
   exact .cons ru (Vals.pick r is)
theorem Vals.yc{xs:List V}{us:List Value}(r:Vals xs us)(lo st:Int)(n:Nat):Vals (yc xs lo st n) (L2.yc us lo st n):=by
 have h:=r.pick ((List.range n).map fun(k:Nat)=>(lo+(k:Int)*st).toNat)
 rw[List.filterMap_map,List.filterMap_map]at h
 exact h
theorem nA{α:Type}(xs:List α)(lo st:Int)(n:Nat):(yc xs lo st n).length≤n:=by
 have:=List.length_filterMap_le (fun(k:Nat)=>xs[(lo+(k:Int)*st).toNat]?) (List.range n)
 rw[List.length_range]at this
 exact this
noncomputable def yP(n:Nat)(lo hi:Option Int)(st:Int):Int × Nat:=((Builtin.Slice.sliceAdjust lo hi st (n:Int)).1,Builtin.Slice.slicePlaces (Builtin.Slice.sliceAdjust lo hi st (n:Int)).1 (Builtin.Slice.sliceAdjust lo hi st (n:Int)).2 st)
section
variable {prog:Program}{w:World}{A:Around}{E:Value→Shared→Prop}{s:Shared}
theorem r8{sl:Addr}{vl vu vc:Value}{lo hi:Option Int}{st:Int}{n:Nat}{Q:Int × Int × Nat→Shared→Prop}(hs:s.heap.IsSliceOf sl vl vu vc)(pl:IsPart vl lo)(pu:IsPart vu hi)(pc:IsPart vc (some st))(h0:st≠0)
 (h:Q ((yP n lo hi st).1,st,(yP n lo hi st).2) s):wpAny (model prog w) A (Builtin.Slice.sliceApplied (.ref sl) (pure (n:Int))) Q E s:=by
 obtain⟨os,hos,hcs,hds⟩:=id hs
 unfold Builtin.Slice.sliceApplied Builtin.Slice.sliceFields
 refine wpAny_bind (wpAny_bind (wpAny_field hos hds (x:=vl) rfl (wpAny_bind (wpAny_field hos hds (x:=vu) rfl (wpAny_bind (wpAny_field hos hds (x:=vc) rfl (wpAny_pure ?_)))))))
 refine wpAny_bind (HT.wJ pc ?_)
 show wpAny _ _ (if (st == 0)=true then _ else _) _ _ s
 rw[if_neg (by simpa using h0)]
 exact wpAny_bind (HT.wJ pl (wpAny_bind (HT.wJ pu (wpAny_bind (wpAny_pure (wpAny_pure h))))))
theorem eM{t sl:Addr}{items:Array Value}{vl vu vc:Value}{lo hi:Option Int}{st:Int}{Q:Value→Shared→Prop}(ht:IsTup s.heap t items)(hs:s.heap.IsSliceOf sl vl vu vc)(pl:IsPart vl lo)(pu:IsPart vu hi)(pc:IsPart vc (some st))(h0:st≠0)
 (hq1:(yP items.size lo hi st).1=0→st=1→(yP items.size lo hi st).2=items.size→Q (.ref t) s)
 (hq2:Q (.ref s.heap.objs.size) {s with heap:=s.heap.push {cls:=.type "tuple",data:=.seq (yc items.toList (yP items.size lo hi st).1 st (yP items.size lo hi st).2).toArray}})
 (hsz:(yP items.size lo hi st).2≤sizeLine):wpAny (model prog w) A (getItem (.ref t) (.ref sl)) Q E s:=by
 obtain⟨os,hos,hcs,hds⟩:=id hs
 have hTs:s.TypeIs (.ref sl) "slice":=⟨os,hos,hcs⟩
 have htake:sizeOk (.seq (yc items.toList (yP items.size lo hi st).1 st (yP items.size lo hi st).2).toArray):=by
  show (yc items.toList (yP items.size lo hi st).1 st (yP items.size lo hi st).2).toArray.size≤sizeLine
  rw[List.size_toArray]
  exact Nat.le_trans (nA _ _ _ _) hsz
 have epick:((List.range (yP items.size lo hi st).2).filterMap fun(k:Nat)=>items[((yP items.size lo hi st).1+(k:Int)*st).toNat]?).toArray=(yc items.toList (yP items.size lo hi st).1 st (yP items.size lo hi st).2).toArray:=by
  unfold yc
  simp only[Array.getElem?_toList]
 unfold getItem
 try with_reducible refine wpAny_holding ?_
 first|refine wpAny_bind (wpAny_pure ?_)|skip
 refine wpAny_bind (wpAny_sequenceKey ht.typeIs (by decide) ?_)
 refine wpAny_bind (wpAny_callSpecial?_slot (name:=Str.ofString "__getitem__") ht.typeIs PyProof.Rows.slot_tuple_getitem
  (wpAny_call_entry PyProof.Rows.slot_tuple_getitem ht.typeIs entry_tuple_getitem ?_ (args_tuple_getitem _ _)))
 show wpAny _ _ (Builtin.Tuple.tupleItemsOf (.ref t) >>= _) _ _ s
 refine wpAny_bind (tupleItemsOf_ ht ?_)
 refine wpAny_bind (wpAny_typeOf hTs ?_)
 rw[if_pos (by decide)]
 refine wpAny_bind (r8 (n:=items.size) hs pl pu pc h0 ?_)
 by_cases hw:((yP items.size lo hi st).1 == 0&&st == 1&&(yP items.size lo hi st).2 == items.size)=true
 . show wpAny _ _ (if ((yP items.size lo hi st).1 == 0&&st == 1&&(yP items.size lo hi st).2 == items.size)=true then _ else _) _ _ s
   rw[if_pos hw]
   simp only[Bool.and_eq_true,beq_iff_eq]at hw
   unfold Builtin.Tuple.tupleIsExact
   refine wpAny_bind (wpAny_bind (wpAny_typeOf ht.typeIs (wpAny_pure ?_)))
   rw[if_pos (by decide)]
   exact wpAny_bind (wpAny_rule (wpAny_pure ⟨_,rfl,wpAny_pure (hq1 hw.1.1 hw.1.2 hw.2)⟩))
 . show wpAny _ _ (if ((yP items.size lo hi st).1 == 0&&st == 1&&(yP items.size lo hi st).2 == items.size)=true then _ else _) _ _ s
   rw[if_neg hw,epick]
   first
    |exact wpAny_bind (m:=Builtin.Tuple.tupleExact _) (wpAny_newObj_type (wpAny_pure ⟨_,rfl,wpAny_pure hq2⟩) htake)
    |exact wpAny_bind (wpAny_bind (m:=Builtin.Tuple.tupleExact _) (wpAny_newObj_type (wpAny_pure ⟨_,rfl,wpAny_pure hq2⟩) htake))
end
theorem nC{α:Type}:∀xs:List α,(List.range xs.length).filterMap (fun k=>xs[k]?)=xs
 |[]=>rfl
 |x::xs=>by
  rw[List.length_cons,List.range_succ_eq_map,List.filterMap_cons,List.filterMap_map]
  show x::_=_
  refine congrArg (x::·) (Eq.trans ?_ (nC xs))
  congr 1
theorem md{α:Type}(xs:List α):yc xs 0 1 xs.length=xs:=by
 unfold yc
 have e:(fun(k:Nat)=>xs[(0+(k:Int)*1).toNat]?)=fun k=>xs[k]?:=by
  funext k
  rw[show (0+(k:Int)*1).toNat=k by omega]
 rw[e]
 exact nC xs
noncomputable def VB:V→Option Int→Option Int→Option Int→Hp→VK→Prop:=fun x lo hi st H Q=>∃a xs c,x=.ref a∧H a=some (.tup xs)∧st=some c∧c≠0∧(yP xs.length lo hi c).2≤sizeLine∧tL H (yc xs (yP xs.length lo hi c).1 c (yP xs.length lo hi c).2) Q
noncomputable def VP(r:V→Option Int→Option Int→Option Int→Hp→VK→Prop)(te:TE)(tl th tc:TO):TE:=fun σ H Q=>te σ H fun x H1=>tl σ H1 fun l H2=>th σ H2 fun u H3=>tc σ H3 fun c H4=>r x l u c H4 Q
theorem jt{X:Cx}{e:Expr}{te:TE}{lo hi:Option Expr}{st:Expr}{tl th tc:TO}{pos p2:Pos}(he:PE X e te)(hl:PO X lo tl)(hu:PO X hi th)(hc:PO X (some st) tc):PE X (.Subscript e (.Slice lo hi (some st) p2) pos) (VP VB te tl th tc):=by
 intro pins s σ H Q I h
 refine Subscript_ (thn (he pins s σ H _ I h) fun v s1 ⟨x,H1,I1,r1,q1⟩=>?_)
 refine wpAny_Slice (thn (hl pins s1 σ H1 _ I1 q1) fun vl s2 ⟨l,H2,I2,pl,q2⟩=>thn (hu pins s2 σ H2 _ I2 q2) fun vu s3 ⟨u,H3,I3,pu,q3⟩=>thn (hc pins s3 σ H3 _ I3 q3) fun vc s4 ⟨c,H4,I4,pc,q4⟩=>?_)
 obtain⟨a,xs,cc,rfl,hx,ec,h0,hsz,g⟩:=q4
 subst ec
 cases r1
 have I5:Inv X pins σ H4 {s4 with heap:=s4.heap.push {cls:=.type "slice",data:=.fields #[vl,vu,vc]}}:=I4.kept (t':=s4.toks) fun b ob q=>Heap.get?_push_of_some _ q
 obtain⟨its,r,ht,hz⟩:=I5.tuple (.inl (.inl hx))
 have hlen:its.toArray.size=xs.length:=by rw[List.size_toArray];exact r.length.symm
 show wpAny (model X.prog X.w) X.A (subscriptTail e (.Slice lo hi (some st) p2) (.ref a) (.ref s4.heap.objs.size)) (EP X pins σ Q) X.xe {s4 with heap:=s4.heap.push {cls:=.type "slice",data:=.fields #[vl,vu,vc]}}
 refine tail_any (ops:=[.ref a,.ref s4.heap.objs.size]) ht.typeIs PyProof.Rows.slot_tuple_getitem.lookup (eM ht (Heap.IsSliceOf.new ..) pl pu pc h0 (fun z1 z2 z3=>?_) ?_ (by rw[hlen];exact hsz)) (by with_unfolding_all rfl)
 . refine⟨.ref a,H4,I5,rfl,g a H4 (sN.refl H4) ?_⟩
   rw[hlen]at z1 z3
   rw[hx,z1,z3,z2,md]
 . rw[hlen]
   refine⟨.ref _,_,I5.laid (t':=s4.toks) (o:=.tup (yc xs (yP xs.length l u cc).1 cc (yP xs.length l u cc).2)) (fun b ob q=>Heap.get?_push_of_some _ q) (Nat.le_refl _) ?_,rfl,g.new _ (I5.hok.fresh (Nat.le_refl _))⟩
   refine⟨Nat.le_trans (nA _ _ _ _) hsz,_,r.yc _ _ _,?_⟩
   exact ur.new _ _
end L2
end
section
namespace L2
open PySem PyProof.Rows
section
variable {X:Cx}
noncomputable def tS(d:Int):List Int→Int
 |[]=>d
 |n::ns=>ns.foldl (fun a b=>if b > a then b else a) n
theorem sV:∀(ns:List Int) (a:Int),a≤ns.foldl (fun a b=>if b > a then b else a) a∧(∀x∈ns,x≤ns.foldl (fun a b=>if b > a then b else a) a)∧(ns.foldl (fun a b=>if b > a then b else a) a=a∨ns.foldl (fun a b=>if b > a then b else a) a∈ns)
 |[],a=>⟨Int.le_refl _,fun _ h=>(nomatch h),.inl rfl⟩
 |n::ns,a=>by
  obtain⟨h1,h2,h3⟩:=sV ns (if n > a then n else a)
  show a≤ns.foldl _ (if n > a then n else a)∧_
  have hc:a≤(if n > a then n else a)∧n≤(if n > a then n else a):=by split<;>omega
  refine⟨Int.le_trans hc.1 h1,fun x hx=>?_,?_⟩
  . rcases List.mem_cons.mp hx with e|hx
    . rw[e];exact Int.le_trans hc.2 h1
    . exact h2 x hx
  . rcases h3 with h3|h3
    . show ns.foldl _ (if n > a then n else a)=a∨ns.foldl _ (if n > a then n else a)∈n::ns
      rw[h3]
      split
      . exact .inr (List.mem_cons_self ..)
      . exact .inl rfl
    . exact .inr (List.mem_cons_of_mem _ h3)
theorem mI{d:Int}{ns:List Int}(h:ns≠[]):tS d ns∈ns∧∀x∈ns,x≤tS d ns:=by
 cases ns with
 |nil=>exact absurd rfl h
 |cons n ns=>
  obtain⟨h1,h2,h3⟩:=sV ns n
  refine⟨?_,fun x hx=>?_⟩
  . rcases h3 with h3|h3
    . show ns.foldl _ n∈_;rw[h3];exact List.mem_cons_self ..
    . exact List.mem_cons_of_mem _ h3
  . rcases List.mem_cons.mp hx with e|hx
    . rw[e];exact h1
    . exact h2 x hx
theorem gg{d M:Int}{ns:List Int}(h1:M∈ns)(h2:∀x∈ns,x≤M):tS d ns=M:=by
 have hne:ns≠[]:=fun e=>by rw[e]at h1;exact nomatch h1
 obtain⟨a,b⟩:=mI (d:=d) hne
 exact Int.le_antisymm (h2 _ a) (b _ h1)
theorem Vals.ints:∀{ns:List Int} {us:List Value},Vals (ns.map V.int) us→∀{i:Nat} {v:Value},us[i]?=some v→∃t,v=.int (ns.getD i 0) t
 |[],_,.nil,_,_,h=>by cases h
 |n::ns,_,.cons r rs,0,v,h=>by
  obtain⟨t,e⟩:=r
  have:v=.int n t:=(Option.some.inj h).symm.trans e
  exact⟨t,this⟩
 |n::ns,_,.cons r rs,i+1,v,h=>by
  have:=Vals.ints rs (i:=i) (v:=v) h
  exact this
end
end L2
end
section
namespace L2
open PySem PyProof PyProof.Rows
section
variable {X:Cx}
theorem lE(l:Addr)(items:Array Value)(n:Nat)(u:Tok)(dd:Option Addr)(sl:Array (Option Value)) :
 Meets (Builtin.«tuple.__mul__» ⟨[.ref l,.int 1 u],[]⟩) (fun _ R s=>s.heap.get? l=some {cls:=.type "tuple",dict:=dd,data:=.seq items n,slots:=sl}∧R (.ok (.ret (Value.ref l))) s):=
 .of_wp fun prog w A R s h=>by
  obtain⟨hp,g,d,tk,os⟩:=s;obtain⟨hl,h⟩:=h
  have f1:=AutoSeq1.idx_int
  have c1:¬((decide ((1:Int) < -(2 ^ 63))||decide ((1:Int) ≥ 2 ^ 63))=true):=by decide
  have c2:((items.isEmpty||((1:Int) == 1))=true):=by simp
  wp_walk using wpAny_loadPart' hl
  exact⟨_,rfl,h⟩
theorem lD(l:Addr)(items:Array Value)(n:Nat)(x:Int)(u:Tok)(dd:Option Addr)(sl:Array (Option Value))(h1:x≤0)(h2:-1000≤x)(h3:¬items.isEmpty=true) :
 Meets (Builtin.«tuple.__mul__» ⟨[.ref l,.int x u],[]⟩) (fun _ R s=>s.heap.get? l=some {cls:=.type "tuple",dict:=dd,data:=.seq items n,slots:=sl} ∧
  R (.ok (.ret (Value.ref s.heap.objs.size))) {s with heap:=s.heap.push {cls:=Value.type "tuple",data:=Data.seq #[]},toks:=s.toks}):=
 .of_wp fun prog w A R s h=>by
  obtain⟨hp,g,d,tk,os⟩:=s;obtain⟨hl,h⟩:=h
  have f1:=AutoSeq1.idx_int
  have c1:¬((decide (x < -(2 ^ 63))||decide (x ≥ 2 ^ 63))=true):=by simp;omega
  have c2:¬((items.isEmpty||x == 1)=true):=by simp at h3 ⊢;exact⟨h3,by omega⟩
  have c3:((decide (x≤0)||items.isEmpty)=true):=by simp;exact .inl h1
  wp_walk using wpAny_loadPart' hl
  rw[if_neg c1]
  refine wpAny_bind (tupleItemsOf_ (items:=items) ⟨_,hl,rfl,n,rfl⟩ ?_)
  rw[if_neg c2]
  show wpAny _ _ (if (decide (x≤0)||items.isEmpty)=true then _ else _) _ _ _
  rw[if_pos c3]
  exact wpAny_bind (m:=Builtin.Tuple.tupleExact _) (wpAny_newObj_type (wpAny_pure ⟨_,rfl,h⟩))
noncomputable def WT:R2:=fun x y H Q=>∃a k xs,x=.ref a∧y=.int k∧H a=some (.tup xs)∧-1000≤k∧k≤1000∧xs≠[]∧xs.length≤1000∧tL H (List.replicate k.toNat xs).flatten Q
theorem cI:OpR X (binaryOp .Mult) WT:=by
 intro pins s σ H x y v u Q I rx ry h
 obtain⟨a,k,xs,rfl,rfl,ha,h1,h2,h3,h4,g⟩:=h
 by_cases hk2:2≤k
 . exact cJ pins s σ H _ _ v u Q I rx ry ⟨a,k,xs,rfl,rfl,ha,hk2,h2,h3,h4,g⟩
 cases rx
 obtain⟨t,rfl⟩:=ry
 obtain⟨its,r,p1,_⟩:=I.tuple (.inl (.inl ha))
 obtain⟨⟨cls,dd,data,sl⟩,ho,hc,n,hd⟩:=id p1
 simp only at hc hd
 subst hc hd
 by_cases hk1:k=1
 . subst hk1
   refine wpAny_binaryOp_repeat_ref (T:="tuple") (U:="int") (by decide) ⟨_,ho,rfl⟩ (fun s'=>typeIs_int s' 1 t) xU F.fills_int_mul F.slot_int_rmul vF F.slot_int_index.lookup
    (call_meets F.slot_int_rmul (typeIs_int s 1 t) F.entry_int_rmul (F.args_int_rmul_2 _ _) (wC 1 t a its.toArray n dd sl)
     ⟨ho,rfl,⟨_,ho,rfl⟩,call_meets F.slot_tuple_mul ⟨_,ho,rfl⟩ F.entry_tuple_mul (F.args_tuple_mul_2 _ _) (lE a its.toArray n t dd sl) ⟨ho,?_⟩⟩)
   refine⟨.ref a,H,I,rfl,g a H (sN.refl H) ?_⟩
   rw[ha];simp
 . have hne:¬its.toArray.isEmpty=true:=by
    simp
    intro e
    exact h3 (r.uY.mp e)
   have e0:k.toNat=0:=by omega
   refine wpAny_binaryOp_repeat_ref (T:="tuple") (U:="int") (by decide) ⟨_,ho,rfl⟩ (fun s'=>typeIs_int s' k t) xU F.fills_int_mul F.slot_int_rmul vF F.slot_int_index.lookup
    (call_meets F.slot_int_rmul (typeIs_int s k t) F.entry_int_rmul (F.args_int_rmul_2 _ _) (wC k t a its.toArray n dd sl)
     ⟨ho,rfl,⟨_,ho,rfl⟩,call_meets F.slot_tuple_mul ⟨_,ho,rfl⟩ F.entry_tuple_mul (F.args_tuple_mul_2 _ _) (lD a its.toArray n k t dd sl (by omega) h1 hne) ⟨ho,?_⟩⟩)
   rw[e0]at g
   refine⟨.ref s.heap.objs.size,_,I.laid (t':=s.toks) (o:=.tup []) (fun b ob q=>Heap.get?_push_of_some _ q) (Nat.le_refl _) ⟨Nat.zero_le _,[],.nil,ur.new _ _⟩,rfl,g.new _ (I.hok.fresh (Nat.le_refl _))⟩
noncomputable def YV(a b c:Int):List Int:=(List.range (Builtin.Range.rangeSize a b c).toNat).map fun(i:Nat)=>a+(i:Int)*c
end
end L2
end
section
namespace L2
open PySem PyProof PyProof.Rows
section
variable {X:Cx}
theorem u0{x:V}:∀{xs:List V} {us:List Value},Vals xs us→xs.all wM=true→us.countP (eqU x)=xs.countP fun y=>eqV y x
 |_,_,.nil,_=>rfl
 |y::ys,u::us,.cons r rs,h=>by
  rw[List.all_cons,Bool.and_eq_true]at h
  rw[List.countP_cons,List.countP_cons,u0 rs h.2,n3 r h.1]
noncomputable def pj(K:PySem.W.Frag)(tup:Bool):V→List V→Hp→VK→Prop:=fun x vs H Q=>∃t xs y,x=.ref t∧vs=[y]∧(if tup=true then SqT K H t xs else SqL K H t xs)∧wM y=true∧xs.all wM=true∧Q (.int (xs.countP fun z=>eqV z y:Nat)) H
theorem jW:MtR X "tuple.count" (pj X.K true):=by
 intro pins s σ H x xs v us Q I rx rs h
 obtain⟨t,ys,y,rfl,rfl,ht,fy,fs,q⟩:=h
 cases rx
 obtain⟨u,rfl,ru⟩:=vals1 rs
 obtain⟨its,r,p1,_⟩:=I.tuple ht
 obtain⟨⟨cls,dd,data,sl⟩,ho,hc,n,hd⟩:=id p1
 simp only at hc hd
 subst hc hd
 refine call_meets F.slot_tuple_count ⟨_,ho,rfl⟩ F.entry_tuple_count (F.args_tuple_count_2 _ _) (SeqAt.tuple_countAt t its.toArray n dd sl u (eqU y)) ⟨ho,fun w hw=>wD ru fy r fs w (by simpa using hw),?_⟩
 rw[show its.toArray.toList=its from rfl,u0 r fs]
 exact⟨.int _,H,I.tok _,⟨s.toks,rfl⟩,q⟩
theorem jV:MtR X "list.count" (pj X.K false):=by
 intro pins s σ H x xs v us Q I rx rs h
 obtain⟨t,ys,y,rfl,rfl,ht,fy,fs,q⟩:=h
 cases rx
 obtain⟨u,rfl,ru⟩:=vals1 rs
 obtain⟨its,r,p1,_⟩:=I.list ht
 obtain⟨⟨cls,dd,data,sl⟩,ho,hc,n,hd⟩:=id p1.isList
 simp only at hc hd
 subst hc hd
 refine call_meets F.slot_list_count ⟨_,ho,rfl⟩ F.entry_list_count (F.args_list_count_2 _ _) (SeqAt.list_countAt t its.toArray n dd sl u (eqU y)) ⟨ho,fun w hw=>wD ru fy r fs w (by simpa using hw),?_⟩
 rw[show its.toArray.toList=its from rfl,u0 r fs]
 exact⟨.int _,H,I.tok _,⟨s.toks,rfl⟩,q⟩
theorem vy(h:Int):∀ns:List Int,((ns.map V.int).countP fun z=>eqV z (.int h))=ns.count h
 |[]=>rfl
 |n::ns=>by
  rw[List.map_cons,List.countP_cons,vy h ns,List.count_cons]
  rfl
theorem ve:∀ns:List Int,(ns.map V.int).all wM=true
 |[]=>rfl
 |n::ns=>by rw[List.map_cons,List.all_cons,ve ns];rfl
noncomputable def rG(d:Int):List Int→Int
 |[]=>d
 |n::ns=>ns.foldl (fun a b=>if b<a then b else a) n
theorem sW:∀(ns:List Int) (a:Int),ns.foldl (fun a b=>if b<a then b else a) a≤a∧(∀x∈ns,ns.foldl (fun a b=>if b<a then b else a) a≤x)∧(ns.foldl (fun a b=>if b<a then b else a) a=a∨ns.foldl (fun a b=>if b<a then b else a) a∈ns)
 |[],a=>⟨Int.le_refl _,fun _ h=>(nomatch h),.inl rfl⟩
 |n::ns,a=>by
  obtain⟨h1,h2,h3⟩:=sW ns (if n<a then n else a)
  show ns.foldl _ (if n<a then n else a)≤a∧_
  have hc:(if n<a then n else a)≤a∧(if n<a then n else a)≤n:=by split<;>omega
  refine⟨Int.le_trans h1 hc.1,fun x hx=>?_,?_⟩
  . rcases List.mem_cons.mp hx with e|hx
    . rw[e];exact Int.le_trans h1 hc.2
    . exact h2 x hx
  . rcases h3 with h3|h3
    . show ns.foldl _ (if n<a then n else a)=a∨ns.foldl _ (if n<a then n else a)∈n::ns
      rw[h3]
      split
      . exact .inr (List.mem_cons_self ..)
      . exact .inl rfl
    . exact .inr (List.mem_cons_of_mem _ h3)
theorem mL{d:Int}{ns:List Int}(h:ns≠[]):rG d ns∈ns∧∀x∈ns,rG d ns≤x:=by
 cases ns with
 |nil=>exact absurd rfl h
 |cons n ns=>
  obtain⟨h1,h2,h3⟩:=sW ns n
  refine⟨?_,fun x hx=>?_⟩
  . rcases h3 with h3|h3
    . show ns.foldl _ n∈_;rw[h3];exact List.mem_cons_self ..
    . exact List.mem_cons_of_mem _ h3
  . rcases List.mem_cons.mp hx with e|hx
    . rw[e];exact h1
    . exact h2 x hx
theorem gi{d M:Int}{ns:List Int}(h1:M∈ns)(h2:∀x∈ns,M≤x):rG d ns=M:=by
 have hne:ns≠[]:=fun e=>by rw[e]at h1;exact nomatch h1
 obtain⟨a,b⟩:=mL (d:=d) hne
 exact Int.le_antisymm (b _ h1) (h2 _ a)
noncomputable def aB(K:PySem.W.Frag)(g:List Int→Int):List V→Hp→VK→Prop:=fun xs H Q=>∃(a:Addr) (ns:List Int),xs=[.ref a]∧SqL K H a (ns.map V.int)∧ns≠[]∧Q (.int (g ns)) H
theorem kq(hc:X.calm=true):z9 X (.builtin "max") (aB X.K (tS 0)):=by
 intro pins s σ H xs us Q I r h
 obtain⟨a,ns,rfl,ha,hne,q⟩:=h
 obtain⟨u,rfl,ru⟩:=vals1 r
 cases ru
 obtain⟨its,rv,pl,hz⟩:=I.list ha
 have hlen:=rv.length
 have alt:a<s.heap.objs.size:=by obtain⟨o,ho,_⟩:=pl.isList;exact Heap.lt_size ho
 have hl:its.toArray.size=ns.length:=by rw[List.size_toArray,←hlen,List.length_map]
 have hpos:0<ns.length:=List.length_pos_iff.mpr hne
 have hat:∀(i:Nat) (v:Value),its.toArray[i]?=some v→∃t,v=.int (ns.getD i 0) t:=fun i v hv=>rv.ints (by simpa using hv)
 refine call_max_walk (wpAny_pyIter_list pl.isList ?_)
 refine⟨s.heap.objs.size,_,_,_,_,_,_,rfl,Walks.list (A:=X.A.in1) (I.ok.hd hc) s.heap.objs.size a (Nat.ne_of_lt alt) its.toArray,⟨⟨_,Heap.get?_push_size _ rfl,rfl,rfl⟩,?_⟩,fun b hb=>?_,by omega,CmpOf.ints_gt (fun i=>ns.getD i 0) hat,fun v h' tk hP hk=>?_⟩
 . obtain⟨o,ho,hc',n,hd⟩:=pl.isList
   exact⟨o,Heap.get?_push_of_some _ ho,hc',n,hd⟩
 . rw[Heap.size_push]
   simp only[List.mem_cons,List.not_mem_nil,or_false]at hb
   rcases hb with e|e
   . rw[e];exact Nat.lt_succ_self _
   . rw[e];exact Nat.lt_succ_of_lt alt
 . obtain⟨t,rfl⟩:=hat _ _ hP
   obtain⟨b1,b2⟩:=argBest_gt (fun i=>ns.getD i 0) (its.toArray.size-1)
   have e:tS 0 ns=ns.getD (argBest (fun i j=>decide (ns.getD i 0 > ns.getD j 0)) (its.toArray.size-1)) 0:=by
    refine gg ?_ fun x hx=>?_
    . have:argBest (fun i j=>decide (ns.getD i 0 > ns.getD j 0)) (its.toArray.size-1)<ns.length:=by omega
      rw[List.getD_eq_getElem?_getD,List.getElem?_eq_getElem this];exact List.getElem_mem this
    . obtain⟨i,hi,rfl⟩:=List.getElem_of_mem hx
      have:=b2 i (by omega)
      simpa [List.getD_eq_getElem?_getD,List.getElem?_eq_getElem hi] using this
   refine⟨.int (tS 0 ns),H,I.kept fun b o ho=>hk b o ?_ (Heap.get?_push_of_some _ ho),⟨t,by rw[e]⟩,q⟩
   simpa using Nat.ne_of_lt (Heap.lt_size ho)
theorem ku(hc:X.calm=true):z9 X (.builtin "min") (aB X.K (rG 0)):=by
 intro pins s σ H xs us Q I r h
 obtain⟨a,ns,rfl,ha,hne,q⟩:=h
 obtain⟨u,rfl,ru⟩:=vals1 r
 cases ru
 obtain⟨its,rv,pl,hz⟩:=I.list ha
 have hlen:=rv.length
 have alt:a<s.heap.objs.size:=by obtain⟨o,ho,_⟩:=pl.isList;exact Heap.lt_size ho
 have hl:its.toArray.size=ns.length:=by rw[List.size_toArray,←hlen,List.length_map]
 have hpos:0<ns.length:=List.length_pos_iff.mpr hne
 have hat:∀(i:Nat) (v:Value),its.toArray[i]?=some v→∃t,v=.int (ns.getD i 0) t:=fun i v hv=>rv.ints (by simpa using hv)
 refine call_min_walk (wpAny_pyIter_list pl.isList ?_)
 refine⟨s.heap.objs.size,_,_,_,_,_,_,rfl,Walks.list (A:=X.A.in1) (I.ok.hd hc) s.heap.objs.size a (Nat.ne_of_lt alt) its.toArray,⟨⟨_,Heap.get?_push_size _ rfl,rfl,rfl⟩,?_⟩,fun b hb=>?_,by omega,CmpOf.ints_lt (fun i=>ns.getD i 0) hat,fun v h' tk hP hk=>?_⟩
 . obtain⟨o,ho,hc',n,hd⟩:=pl.isList
   exact⟨o,Heap.get?_push_of_some _ ho,hc',n,hd⟩
 . rw[Heap.size_push]
   simp only[List.mem_cons,List.not_mem_nil,or_false]at hb
   rcases hb with e|e
   . rw[e];exact Nat.lt_succ_self _
   . rw[e];exact Nat.lt_succ_of_lt alt
 . obtain⟨t,rfl⟩:=hat _ _ hP
   obtain⟨b1,b2⟩:=argBest_lt (fun i=>ns.getD i 0) (its.toArray.size-1)
   have e:rG 0 ns=ns.getD (argBest (fun i j=>decide (ns.getD i 0<ns.getD j 0)) (its.toArray.size-1)) 0:=by
    refine gi ?_ fun x hx=>?_
    . have:argBest (fun i j=>decide (ns.getD i 0<ns.getD j 0)) (its.toArray.size-1)<ns.length:=by omega
      rw[List.getD_eq_getElem?_getD,List.getElem?_eq_getElem this];exact List.getElem_mem this
    . obtain⟨i,hi,rfl⟩:=List.getElem_of_mem hx
      have:=b2 i (by omega)
      simpa [List.getD_eq_getElem?_getD,List.getElem?_eq_getElem hi] using this
   refine⟨.int (rG 0 ns),H,I.kept fun b o ho=>hk b o ?_ (Heap.get?_push_of_some _ ho),⟨t,by rw[e]⟩,q⟩
   simpa using Nat.ne_of_lt (Heap.lt_size ho)
theorem jq{o e:Expr}{to te:TE}{apos cpos:Pos}{es:List Expr}(ho:PE X o to)(he:PE X e te)(hbase:attributeBase o "append" X.env (eval o X.env)=eval o X.env:=by rfl)(hst:noStar e=true:=by rfl)(hline:(apos.endLine == cpos.line)=true:=by rfl) :
 PE X (.Call (.Attribute o "append" apos) [e] [] cpos) (tBM X.K "list" kU to (qo te iD)):=by
 have hs1:starEach [e] X.env=(false,eval e X.env)::starEach [] X.env:=yC hst
 refine fF PySem.F.plainAttrs_list PySem.F.slot_list_append PySem.F.type_list_append qb ho (pac he vR hst) hbase ?_ hline hs1 rfl
 rw[hs1];rfl
theorem jr{o e:Expr}{to te:TE}{apos cpos:Pos}(ho:PE X o to)(he:PE X e te)(hbase:attributeBase o "count" X.env (eval o X.env)=eval o X.env:=by rfl)(hst:noStar e=true:=by rfl)(hline:(apos.endLine == cpos.line)=true:=by rfl) :
 PE X (.Call (.Attribute o "count" apos) [e] [] cpos) (tBM X.K "list" (pj X.K false) to (qo te iD)):=by
 have hs1:starEach [e] X.env=(false,eval e X.env)::starEach [] X.env:=yC hst
 refine fF PySem.F.plainAttrs_list PySem.F.slot_list_count PySem.F.type_list_count jV ho (pac he vR hst) hbase ?_ hline hs1 rfl
 rw[hs1];rfl
noncomputable def VG(r:V→List V→Hp→VK→Prop)(to:TE)(t:TA):TE:=fun σ H Q=>to σ H fun x H1=>(∃a xs,x=.ref a∧H1 a=some (.tup xs))∧t σ H1 fun xs H2=>r x xs H2 Q
theorem js{o e:Expr}{to te:TE}{apos cpos:Pos}(ho:PE X o to)(he:PE X e te)(hbase:attributeBase o "count" X.env (eval o X.env)=eval o X.env:=by rfl)(hst:noStar e=true:=by rfl)(hline:(apos.endLine == cpos.line)=true:=by rfl) :
 PE X (.Call (.Attribute o "count" apos) [e] [] cpos) (VG (pj X.K true) to (qo te iD)):=by
 have hs1:starEach [e] X.env=(false,eval e X.env)::starEach [] X.env:=yC hst
 intro pins s σ H Q I h
 refine wpAny_Call_method_late hbase (by rw[hs1];rfl) hline rfl (thn (ho pins s σ H _ I h) fun v s1 ⟨x,H1,I1,r1,ty,q1⟩=>?_)
 obtain⟨a,xs,rfl,hx⟩:=ty
 cases r1
 obtain⟨z,its,rv,ob,e1,c1,n,d1,nd⟩:=(show z5 X.prog X.w H1 s1.heap a (.tup xs) from I1.hok a _ hx)
 refine⟨"tuple",_,PySem.F.plainAttrs_tuple,PySem.F.slot_tuple_count,PySem.F.type_tuple_count,⟨ob,e1,c1⟩,fun b hb=>?_,?_⟩
 . cases hb;exact⟨ob,e1,nd⟩
 have hA:=(pac he vR hst:PA X [e] _) cpos pins s1 σ H1 _ I1 q1
 rw[hs1]at hA ⊢
 refine Calls.callWith_builtin rfl (Calls.evalArgs_plain ?_)
 exact thn hA fun us s2 ⟨vs,H2,I2,r2,q2⟩=>jW pins s2 σ H2 (.ref a) vs _ us Q I2 rfl r2 q2
end
end L2
namespace L2
open PySem
end L2
namespace L2
open PySem
end L2
end
section
namespace L2
open PySem PySem.W PySem.Calls PyProof PyProof.Rows
noncomputable def Wo(K:PySem.W.Frag)(H:Hp)(ys:List V)(zs:List (Int × Int)):Prop:=ys.length=zs.length∧∀(i:Nat) (z:Int × Int),zs[i]?=some z→∃b,ys[i]?=some (V.ref b)∧SqT K H b [.int z.1,.int z.2]
noncomputable def yU(z:Int × Int):Int:=z.1*1000+z.2
theorem ik{a b:Int × Int}(ha:0≤a.2∧a.2<1000)(hb:0≤b.2∧b.2<1000):yU a<yU b↔a.1<b.1∨a.1=b.1∧a.2<b.2:=by
 unfold yU;omega
theorem qN{a b:Int × Int}(ha:0≤a.2∧a.2<1000)(hb:0≤b.2∧b.2<1000)(e:yU a=yU b):a=b:=by
 unfold yU at e
 have h1:a.1=b.1:=by omega
 have h2:a.2=b.2:=by omega
 exact Prod.ext h1 h2
end L2
end
section
namespace L2
open PySem PySem.W PySem.Calls PyProof PyProof.Rows
section
variable {prog:Program}{w:World}{A:Around}{E:Value→Shared→Prop}{s:Shared}
theorem p7{l:Addr}{vs:List Value}{Q:Value→Shared→Prop}(hl:s.heap.IsList l vs.toArray)(h2:vs.length<2)
 (h:∀(h':Heap) (c:Nat),(∀b o,s.heap.get? b=some o→h'.get? b=some o)→h'.get? (s.heap.objs.size+1)=some (seqObj "list" vs.toArray c)→Q (.ref (s.heap.objs.size+1)) {s with heap:=h'}) :
 wpAny (model prog w) A (call (.builtin "sorted") [.ref l]) Q E s:=by
 refine Calls.call_function_entry kind_sorted plain_sorted entry_sorted (args_sorted1 _) ?_
 unfold Builtin.«sorted»
 refine wpAny_bind (m:=checkCount "sorted" 1 1 _) (wpAny_pure ?_)
 refine wpAny_bind (collect_list hl ?_ (by rw[sizeLine_eq];omega))
 refine wpAny_bind (wpAny_newList ?_ (by rw[sizeLine_eq];omega))
 have hsz:((s.heap.push (seqObj "list" #[] 0)).update s.heap.objs.size (Obj.mapSeq (·++vs.toArray))).objs.size=s.heap.objs.size+1:=by
  rw[Heap.size_update,size_push']
 have hoL:(((s.heap.push (seqObj "list" #[] 0)).update s.heap.objs.size (Obj.mapSeq (·++vs.toArray))).push (seqObj "list" vs.toArray 0)).get? (s.heap.objs.size+1)=some (seqObj "list" vs.toArray 0):=by
  rw[←hsz];exact Heap.get?_push_size _ rfl
 have keep:∀b o,s.heap.get? b=some o→(((s.heap.push (seqObj "list" #[] 0)).update s.heap.objs.size (Obj.mapSeq (·++vs.toArray))).push (seqObj "list" vs.toArray 0)).get? b=some o:=fun b o q=>by
  have hlt:b<s.heap.objs.size:=Heap.lt_size q
  rw[Heap.get?_push_ne _ _ _ (by rw[hsz];exact Nat.ne_of_lt (Nat.lt_succ_of_lt hlt)),Heap.get?_update_ne _ _ _ _ (Nat.ne_of_lt hlt),Heap.get?_push_ne _ _ _ (Nat.ne_of_lt hlt)]
  exact q
 show wpAny _ _ _ _ _ {s with heap:=((s.heap.push (seqObj "list" #[] 0)).update s.heap.objs.size (Obj.mapSeq (·++vs.toArray))).push (seqObj "list" vs.toArray 0)}
 rw[hsz]
 generalize hg:((s.heap.push (seqObj "list" #[] 0)).update s.heap.objs.size (Obj.mapSeq (·++vs.toArray))).push (seqObj "list" vs.toArray 0)=g at hoL keep ⊢
 refine wpAny_bind (wpAny_holding (wpAny_call_entry slot_list_sort ⟨_,hoL,rfl⟩ entry_list_sort ?body (args_list_sort _)))
 case body=>
  have ha:s.heap.objs.size+1<g.objs.size:=Heap.lt_size hoL
  rw[list_sort_plain]
  refine wpAny_bind (listItems_at hoL rfl ?_)
  refine wpAny_bind (listUpdate_at hoL rfl ?_ (by rw[List.size_toArray,sizeLine_eq];omega) (Nat.zero_le _))
  obtain⟨e1,ho1⟩:∃e1,(g.update (s.heap.objs.size+1) (Obj.mapSeq fun _=>(#[]:Array Value))).get? (s.heap.objs.size+1)=some (seqObj "list" #[] e1):=⟨_,get?_update_seq hoL fun _=>#[]⟩
  refine wpAny_bind (seqEpoch_at ho1 rfl ?_)
  refine wpAny_bind (wpAny_newTuple ?_ (by show vs.length≤_;rw[sizeLine_eq];omega))
  refine wpAny_bind (wpAny_newList ?_ (Nat.zero_le _))
  refine wpAny_holding ?_
  have ho6:(((g.update (s.heap.objs.size+1) (Obj.mapSeq fun _=>(#[]:Array Value))).push (seqObj "tuple" vs.toArray 0)).push (seqObj "list" #[] 0)).get? (s.heap.objs.size+1)=some (seqObj "list" #[] e1):=
   Heap.get?_push_of_some _ (Heap.get?_push_of_some _ ho1)
  show wpAny (model prog w) _ _ _ _ {s with heap:=((g.update (s.heap.objs.size+1) (Obj.mapSeq fun _=>(#[]:Array Value))).push (seqObj "tuple" vs.toArray 0)).push (seqObj "list" #[] 0)}
  dsimp only
  have h2':vs.toArray.size<2:=by rw[List.size_toArray];exact h2
  rw[if_pos h2',if_pos h2']
  refine wpAny_bind (wpAny_pure ?_)
  rw[StateT.run_pure]
  refine wpAny_bind (wpAny_pure ?_)
  dsimp only
  refine wpAny_bind (seqEpoch_at ho6 rfl ?_)
  have hout:(arrOf (SortSt.mk' general' (vs.toArray.zip vs.toArray) #[] 7 none)).map (·.2)=vs.toArray:=by
   show (vs.toArray.zip vs.toArray).map (·.2)=vs.toArray
   apply Array.toList_inj.mp
   simp[List.map_snd_zip]
  rw[hout]
  refine wpAny_bind (listUpdate_at ho6 rfl ?_ (Nat.zero_le _) (by rw[List.size_toArray,sizeLine_eq];omega))
  simp only[bne_self_eq_false,Bool.false_eq_true,if_false]
  refine wpAny_pure ⟨_,rfl,wpAny_pure ⟨_,rfl,?_⟩⟩
  have hc:=get?_update_seq ho6 fun _=>vs.toArray
  refine h _ _ (fun b o e=>?_) hc
  have hlt:b<s.heap.objs.size:=Heap.lt_size e
  have hb:b≠s.heap.objs.size+1:=Nat.ne_of_lt (Nat.lt_succ_of_lt hlt)
  rw[Heap.get?_update_ne _ _ _ _ hb]
  refine Heap.get?_push_of_some _ (Heap.get?_push_of_some _ ?_)
  rw[Heap.get?_update_ne _ _ _ _ hb]
  exact keep b o e
end
section
variable {P:Program}{w:World}{H:Hp}{h:Heap}{a:Addr}{o:HO}
theorem z5.got(x:z5 P w H h a o):∃u,h.get? a=some u:=by
 cases o with
 |lst xs=>obtain⟨_,_,_,_,e⟩:=x;exact⟨_,e⟩
 |tup xs=>obtain⟨_,_,_,_,e,_⟩:=x;exact⟨_,e⟩
 |dK kvs=>obtain⟨_,_,_,_,o,_,_,e,_⟩:=x;exact⟨_,e⟩
 |dT kvs=>obtain⟨_,_,_,_,o,_,_,e,_⟩:=x;exact⟨_,e⟩
 |set S n=>obtain⟨o,_,_,_,e,_⟩:=x;exact⟨_,e⟩
 |ins C dx fs=>obtain⟨_,_,_,e,_⟩:=x;exact⟨_,e⟩
 |own y=>exact x
 |xd fs=>obtain⟨_,⟨_,_,_,e,_⟩,_⟩:=x;exact⟨_,e⟩
 |rng lo hi=>obtain⟨_,_,_,e⟩:=x;exact⟨_,e⟩
 |frz ob u=>obtain⟨e,_⟩:=x;exact⟨_,e⟩
 |tbl ps=>exact⟨_,x⟩
 |met f y=>exact⟨_,x⟩
 |ext φ=>exact x.2.1
end
end L2
end
section
namespace L2
open PySem PySem.W PySem.Calls PyProof PyProof.Rows
theorem qu{ys:List V}{its:List Value}(r:Vals ys its):∀(l:List Nat),(∀i∈l,i<ys.length)→Vals (l.map fun i=>ys.getD i .non) (l.map fun i=>its.getD i Value.none)
 |[],_=>.nil
 |i::l,h=>by
  have hi:i<ys.length:=h i (.head _)
  obtain⟨u,e,ru⟩:=r.get (i:=i) (x:=ys[i]) (by simp[hi])
  refine .cons ?_ (qu r l fun j hj=>h j (.tail _ hj))
  show RelV (ys.getD i .non) (its.getD i Value.none)
  rw[List.getD_eq_getElem?_getD,List.getD_eq_getElem?_getD,e]
  simp only[List.getElem?_eq_getElem hi,Option.getD_some]
  exact ru
section
variable {X:Cx}{pins:List (Addr × Obj)}{σ:St}{H:Hp}{s:Shared}
theorem jw{α:Type}(d:α){zs:List α}{l:List Nat}(h:l.Perm (List.range zs.length)):(l.map fun i=>zs.getD i d).Perm zs:=by
 have e:(List.range zs.length).map (fun i=>zs.getD i d)=zs:=by
  apply List.ext_getElem
  . simp
  . intro i h1 h2
    simp[List.getElem?_eq_getElem h2]
 exact(h.map _).trans (.of_eq e)
theorem Inv.iS{D:Addr}{ys:List V}{its:List Value}{c:Nat}{h':Heap}(I:Inv X pins σ H s)(hz:ys.length≤sizeLine)(r:Vals ys its)(hD:s.heap.get? D=none)(keep:∀b o,b≠X.env.locals→s.heap.get? b=some o→h'.get? b=some o)
 (ns:∀m,s.heap.Ns X.env.locals m→h'.Ns X.env.locals m) (e:h'.get? D=some {cls:=.type "list",data:=.seq its.toArray c}):H D=none∧Inv X pins σ (upd H D (.lst ys)) {s with heap:=h'}:=by
 have hn:H D=none:=by
  cases q:H D with
  |none=>rfl
  |some o=>
   obtain⟨u,hu⟩:=z5.got (I.hok D o q)
   rw[hD]at hu;cases hu
 have ne:∀b o,H b=some o→b≠D:=fun b o q z=>by rw[z,hn]at q;cases q
 have neo:∀b o,s.heap.get? b=some o→b≠D:=fun b o q z=>by rw[z,hD]at q;cases q
 refine⟨hn,I.step (g':=s.gens) (d':=s.drawn) (t':=s.toks) (ch:=[]) (fun _ z=>nomatch z) (fun b o hL _ _ q _=>keep b o hL q) (fun b o hL _ _ q _=>⟨o.slots,keep b o hL q⟩) (fun b o _ q n=>?_) (fun b o _ q=>?_) (fun b xs q=>?_) (fun b o u q=>?_) (fun b ps q=>?_) ns (fun b o q=>?_) I.bare⟩
 . rw[zS (neo b o q)];exact n
 . by_cases hb:b=X.env.locals
   . subst hb
     obtain⟨m,hm,_⟩:=I.loc
     obtain⟨o',_,_,ho',_⟩:=ns m hm
     exact⟨o',ho'⟩
   . exact⟨o,keep b o hb q⟩
 . rw[zS (ne b _ q)];exact q
 . rw[zS (ne b _ q)];exact q
 . exact⟨#[],by rw[zS (ne b _ q),q];simp⟩
 . by_cases hb:b=D
   . subst hb
     rw[z8]at q
     cases q
     exact⟨hz,its,c,r,e⟩
   . rw[zS hb]at q
     refine(I.hok b o q).m5 (fun x u hx hu=>keep x u ?_ hu) (fun x hx=>by rw[zS (ne x _ hx)];exact hx) (fun x xs hx=>by rw[zS (ne x _ hx)];exact hx)
     rcases hx with rfl|hx
     . intro z;rw[z,I.free]at q;cases q
     . intro z;rw[z,I.free]at hx;cases hx
end
end L2
end
section
namespace L2
open PySem PySem.W PySem.Calls PyProof PyProof.Rows Att
theorem qf{α:Type}{zs:List α}(d:α):(List.range zs.length).map (fun i=>zs.getD i d)=zs:=by
 apply List.ext_getElem
 . simp
 . intro i h1 h2
   simp[List.getElem?_eq_getElem h2]
theorem rT:∀{l l':List (Int × Int)},l.Pairwise (fun a b=>yU a<yU b)→l'.Pairwise (fun a b=>yU a<yU b)→(∀x,x∈l↔x∈l')→l=l'
 |[],[],_,_,_=>rfl
 |[],y::t',_,_,h=>by have:=(h y).mpr (.head _);cases this
 |x::t,[],_,_,h=>by have:=(h x).mp (.head _);cases this
 |x::t,y::t',h1,h2,h=>by
  rw[List.pairwise_cons]at h1 h2
  have exy:x=y:=by
   rcases List.mem_cons.mp ((h x).mp (.head _)) with e|m
   . exact e
   . rcases List.mem_cons.mp ((h y).mpr (.head _)) with e|m'
     . exact e.symm
     . have a:=h2.1 x m
       have b:=h1.1 y m'
       omega
  subst exy
  congr 1
  refine rT h1.2 h2.2 fun a=>⟨fun m=>?_,fun m=>?_⟩
  . rcases List.mem_cons.mp ((h a).mp (.tail _ m)) with e|m'
    . have:=h1.1 a m
      rw[e]at this;omega
    . exact m'
  . rcases List.mem_cons.mp ((h a).mpr (.tail _ m)) with e|m'
    . have:=h2.1 a m
      rw[e]at this;omega
    . exact m'
end L2
end
section
namespace L2
open PySem PySem.W PySem.Calls PyProof PyProof.Rows
inductive vm:List Value→List Int→Prop
 |nil:vm [] []
 |cons {i:Int} {t:Tok} {us:List Value} {ns:List Int}:vm us ns→vm (.int i t::us) (i::ns)
theorem bw:∀{ns:List Int} {us:List Value},Vals (ns.map V.int) us→vm us ns
 |[],_,.nil=>.nil
 |n::ns,_,.cons r rs=>by
  obtain⟨t,rfl⟩:=(show ∃t,_=Value.int n t from r)
  exact .cons (bw rs)
noncomputable def eX(K:PySem.W.Frag)(H:Hp)(ys:List V)(zs:List (List Int)):Prop:=ys.length=zs.length∧∀(i:Nat) (z:List Int),zs[i]?=some z→∃b,ys[i]?=some (V.ref b)∧SqT K H b (z.map V.int)
noncomputable def TV(h:Heap)(its:List Value)(zs:List (List Int)):Prop:=
 its.length=zs.length∧∀(i:Nat) (z:List Int),zs[i]?=some z→∃b o n us,its[i]?=some (Value.ref b)∧h.get? b=some o∧o.cls=.type "tuple"∧o.data=.seq (List.toArray us) n∧vm us z
theorem eX.tv{X:Cx}{pins:List (Addr × Obj)}{σ:St}{H:Hp}{s:Shared}(I:Inv X pins σ H s){ys:List V}{its:List Value}{zs:List (List Int)}(h:eX X.K H ys zs)(r:Vals ys its):TV s.heap its zs:=by
 refine⟨by rw[←r.length];exact h.1,fun i z e=>?_⟩
 obtain⟨b,e1,e2⟩:=h.2 i z e
 obtain⟨u,e3,ru⟩:=r.get e1
 obtain⟨us,rt,⟨o,ho,hc,n,hd⟩,_⟩:=I.tuple e2
 have ru':u=Value.ref b:=ru
 subst ru'
 exact⟨b,o,n,us,e3,ho,hc,hd,bw rt⟩
theorem TV.rh{h:Heap}:∀{its:List Value} {zs:List (List Int)},TV h its zs→(∀z∈zs,z≠[])→∃fs,KatTups h its fs∧fs.length=its.length∧∀v∈fs,∃i t,v=Value.int i t
 |[],[],_,_=>⟨[],KatTups.nil,rfl,fun _ x=>nomatch x⟩
 |[],_::_,⟨l,_⟩,_=>by cases l
 |_::_,[],⟨l,_⟩,_=>by cases l
 |v::its,z::zs,⟨l,f⟩,hn=>by
  obtain⟨b,o,n,us,e,ho,hc,hd,iv⟩:=f 0 z rfl
  have e':v=Value.ref b:=by simpa using e
  subst e'
  obtain⟨fs,k,kl,ki⟩:=TV.rh (h:=h) (its:=its) (zs:=zs) ⟨by simpa using l,fun i z' e=>by simpa using f (i+1) z' (by simpa using e)⟩ fun z' hz=>hn z' (.tail _ hz)
  cases iv with
  |nil=>exact absurd rfl (hn [] (.head _))
  |@cons i t us ns r=>
   refine⟨Value.int i t::fs,KatTups.cons ho hc hd (by simp) k,by simp[kl],fun v hv=>?_⟩
   rcases List.mem_cons.mp hv with rfl|hv
   . exact⟨_,_,rfl⟩
   . exact ki v hv
theorem qT{us:List Value}{ns:List Int}(h:vm us ns):us.length=ns.length:=by
 induction h with
 |nil=>rfl
 |cons _ ih=>simp[ih]
end L2
end
section
namespace L2.Tim
open PySem PySem.W PySem.Calls PyProof PyProof.Rows
section
variable {prog:Program}{w:World}{A:Around}{E:Value→Shared→Prop}{s:Shared}{κ:SortKind}{a₀:Array Keyed}{key:Keyed→Int}
noncomputable def kk(key:Keyed→Int)(a:Array Keyed)(i:Nat):Int:=key (a.getD i (Value.none,Value.none))
noncomputable def SIn(key:Keyed→Int)(a:Array Keyed)(lo n:Nat):Prop:=∀i j,i≤j→j<n→kk key a (lo+i)≤kk key a (lo+j)
noncomputable def NIn(key:Keyed→Int)(a:Array Keyed)(lo n:Nat):Prop:=∀i j,i≤j→j<n→kk key a (lo+j)≤kk key a (lo+i)
noncomputable def Pre(lo:Nat)(a b:Array Keyed):Prop:=∀i,i<lo→b[i]?=a[i]?
theorem Pre.refl{lo:Nat}{a:Array Keyed}:Pre lo a a:=fun _ _=>rfl
theorem Pre.trans{lo:Nat}{a b c:Array Keyed}(h:Pre lo a b)(k:Pre lo b c):Pre lo a c:=fun i hi=>(k i hi).trans (h i hi)
structure Bs(κ:SortKind)(a₀:Array Keyed)(st:SortSt):Prop where
 kind:kindOf st=κ
 perm:(arrOf st).Perm a₀
 fail:failedOf st=none
theorem Bs.size{st:SortSt}(h:Bs κ a₀ st):(arrOf st).size=a₀.size:=h.perm.size_eq
theorem Bs.set{st:SortSt}{xs:Array Keyed}(h:Bs κ a₀ st)(hp:xs.Perm (arrOf st)):Bs κ a₀ (setArr st xs):=⟨h.kind,hp.trans h.perm,h.fail⟩
noncomputable def sM(prog:Program)(w:World)(A:Around)(E:Value→Shared→Prop)(s:Shared)(κ:SortKind)(a₀:Array Keyed)(key:Keyed→Int):Prop:=
 ∀(x y:Keyed) (st:SortSt) (Q:Option Bool→SortSt→Prop),x∈a₀.toList→y∈a₀.toList→kindOf st=κ→Q (some (decide (key x<key y))) st→wpS (model prog w) A E s (lt' x y) Q st
theorem xE{a b:Array Keyed}{i j:Nat}(h:a[i]?=b[j]?):kk key a i=kk key b j:=by
 unfold kk;rw[Array.getD_eq_getD_getElem?,Array.getD_eq_getD_getElem?,h]
theorem Bs.at{st:SortSt}(h:Bs κ a₀ st){i:Nat}(hi:i<a₀.size):∃x,(arrOf st)[i]?=some x∧x∈a₀.toList∧kk key (arrOf st) i=key x:=by
 have hi':i<(arrOf st).size:=by rw[h.size];exact hi
 refine⟨(arrOf st)[i],by simp[hi'],?_,?_⟩
 . exact(Array.perm_iff_toList_perm.mp h.perm).mem_iff.mp (by simp)
 . unfold kk;simp[Array.getD,hi']
theorem zk{arr:Array Keyed}{i:Nat}{x:Keyed}{st:SortSt}{Q:Keyed→SortSt→Prop}(h:arr[i]?=some x)(q:Q x st):wpS (model prog w) A E s (elem' arr i) Q st:=by
 rw[elem'_eq,h];exact wpS_pure q
theorem nX(L:sM prog w A E s κ a₀ key){st:SortSt}{i j:Nat}{Q:Option Bool→SortSt→Prop}(hB:Bs κ a₀ st)(hi:i<a₀.size)(hj:j<a₀.size)
 (h:Q (some (decide (kk key (arrOf st) i<kk key (arrOf st) j))) st):wpS (model prog w) A E s (ltAt' i j) Q st:=by
 obtain⟨x,e1,m1,k1⟩:=hB.at (key:=key) hi
 obtain⟨y,e2,m2,k2⟩:=hB.at (key:=key) hj
 rw[ltAt'_eq]
 refine wpS_bind (wpS_get ?_)
 refine wpS_bind (zk e1 (wpS_bind (zk e2 ?_)))
 rw[k1,k2]at h
 exact L x y st Q m1 m2 hB.kind h
theorem qW{xs:Array Keyed}{i j:Nat}(hj:j≤xs.size)(k:Nat):kk key (mirror xs i j ((j-i)/2)) k=if i≤k∧k<j then kk key xs (i+j-1-k) else kk key xs k:=by
 have e:=getElem?_mirror_all (i:=i) hj k
 by_cases h1:i≤k∧k<j
 . rw[if_pos h1]at e ⊢;exact xE e
 . rw[if_neg h1]at e ⊢;exact xE e
theorem mf{xs:Array Keyed}{lo i j:Nat}(hj:j≤xs.size)(hi:lo≤i):Pre lo xs (mirror xs i j ((j-i)/2)):=fun k hk=>by
 rw[getElem?_mirror_all (i:=i) hj k,if_neg (by omega)]
theorem qV{xs:Array Keyed}{src d:Nat}(hs:src<xs.size)(hd:d≤src)(k:Nat):kk key (bubble xs src d) k=if k=src-d then kk key xs src else if src-d<k∧k≤src then kk key xs (k-1) else kk key xs k:=by
 have e:=getElem?_bubble hs d hd k
 by_cases h1:k=src-d
 . rw[if_pos h1]at e ⊢;exact xE e
 . rw[if_neg h1]at e ⊢
   by_cases h2:src-d<k∧k≤src
   . rw[if_pos h2]at e ⊢;exact xE e
   . rw[if_neg h2]at e ⊢;exact xE e
theorem Yr{st:SortSt}{i j:Nat}{Q:Unit→SortSt→Prop}(h:Q () (setArr st (mirror (arrOf st) i j ((j-i)/2)))):wpS (model prog w) A E s (reverseSlice' i j) Q st:=by
 rw[reverseSlice'_eq];exact wpS_modify h
theorem Yq(L:sM prog w A E s κ a₀ key){st:SortSt}{lo n ok:Nat}{Q:Bool→SortSt→Prop}(hn:lo+n≤a₀.size)(hok:ok≤n)(hB:Bs κ a₀ st)(hs:SIn key (arrOf st) lo ok)
 (h:∀st',Bs κ a₀ st'→Pre lo (arrOf st) (arrOf st')→pendingOf st'=pendingOf st→SIn key (arrOf st') lo n→Q true st'):wpS (model prog w) A E s (binarySort' lo n ok) Q st:=by
 rw[binarySort'_eq]
 refine wpS_bind (wpS_mono (wpS_forRange (I:=fun k c st'=>c=(none,())∧Bs κ a₀ st'∧Pre lo (arrOf st) (arrOf st')∧pendingOf st'=pendingOf st∧SIn key (arrOf st') lo (min k n))
  (Q:=fun c st'=>c=(none,())∧Bs κ a₀ st'∧Pre lo (arrOf st) (arrOf st')∧pendingOf st'=pendingOf st∧SIn key (arrOf st') lo n) ?step ?fin ?init) ?post)
 case post=>
  rintro c st' ⟨rfl,hB',hp,hpe,hs'⟩
  exact wpS_pure (h st' hB' hp hpe hs')
 case init=>
  refine⟨rfl,hB,.refl,rfl,fun i j hij hj=>?_⟩
  by_cases h1:ok=0
  . have:i=j:=by omega
    subst this;exact Int.le_refl _
  . exact hs i j hij (by omega)
 case fin=>
  rintro c st' ⟨hc,hB',hp,hpe,hs'⟩
  refine⟨hc,hB',hp,hpe,?_⟩
  rwa [show min (max (max ok 1) n) n=n by omega]at hs'
 case step=>
  rintro k c st' hak hkn ⟨rfl,hB',hp,hpe,hs'⟩
  rw[show min k n=k by omega]at hs'
  have hk:lo+k<a₀.size:=by omega
  refine wpS_bind (wpS_mono (wpS_forRange (I:=fun x c st''=>st''=st'∧∃l r,c=(none,l,r)∧l≤r∧r≤k∧r-l≤k-x ∧
   (∀i,i<l→kk key (arrOf st') (lo+i)≤kk key (arrOf st') (lo+k))∧(∀i,r≤i→i<k→kk key (arrOf st') (lo+k)<kk key (arrOf st') (lo+i)))
   (Q:=fun c st''=>st''=st'∧∃l r,c=(none,l,r)∧l≤k ∧
    (∀i,i<l→kk key (arrOf st') (lo+i)≤kk key (arrOf st') (lo+k))∧(∀i,l≤i→i<k→kk key (arrOf st') (lo+k)<kk key (arrOf st') (lo+i))) ?istep ?ifin ?iinit) ?ipost)
  case iinit=>exact⟨rfl,0,k,rfl,by omega,by omega,by omega,fun i hi=>by omega,fun i h1 h2=>by omega⟩
  case ifin=>
   rintro c st'' ⟨rfl,l,r,rfl,hlr,hrk,hm,hlo,hhi⟩
   have:l=r:=by omega
   subst this
   exact⟨rfl,l,l,rfl,hrk,hlo,hhi⟩
  case istep=>
   rintro x c st'' _ hxk ⟨rfl,l,r,rfl,hlr,hrk,hm,hlo,hhi⟩
   dsimp only
   by_cases hge:l ≥ r
   . rw[if_pos hge]
     have:l=r:=by omega
     subst this
     exact wpS_pure ⟨rfl,l,l,rfl,hrk,hlo,hhi⟩
   . rw[if_neg hge]
     refine wpS_bind (nX L hB' hk (by omega) ?_)
     by_cases hless:kk key (arrOf st'') (lo+k)<kk key (arrOf st'') (lo+(l+r)/2)
     . simp only[hless,decide_true,if_true]
       refine wpS_pure ⟨rfl,l,(l+r)/2,rfl,by omega,by omega,by omega,hlo,fun i h1 h2=>?_⟩
       exact Int.lt_of_lt_of_le hless (hs' _ _ h1 h2)
     . simp only[hless,decide_false,Bool.false_eq_true,if_false]
       refine wpS_pure ⟨rfl,(l+r)/2+1,r,rfl,by omega,by omega,by omega,fun i h1=>?_,hhi⟩
       exact Int.le_trans (hs' i ((l+r)/2) (by omega) (by omega)) (Int.not_lt.mp hless)
  case ipost=>
   rintro c st'' ⟨rfl,l,r,rfl,hlk,hlo,hhi⟩
   show wpS _ _ _ _ (do moveDown' (lo+k) (lo+l);pure (ForInStep.yield (none,()))) _ _
   rw[moveDown'_eq]
   have hks:lo+k<(arrOf st'').size:=by rw[hB'.size];exact hk
   refine wpS_bind (wpS_modify (wpS_pure ⟨rfl,hB'.set (bubble_perm _ _ _),hp.trans fun i hi=>?_,hpe,?_⟩))
   . show (bubble (arrOf st'') (lo+k) (lo+k-(lo+l)))[i]?=_
     rw[getElem?_bubble hks _ (by omega),if_neg (by omega),if_neg (by omega)]
   rw[show min (k+1) n=k+1 by omega]
   intro i j hij hj
   show kk key (bubble (arrOf st'') (lo+k) (lo+k-(lo+l))) (lo+i)≤kk key (bubble (arrOf st'') (lo+k) (lo+k-(lo+l))) (lo+j)
   rw[qV hks (by omega),qV hks (by omega),show lo+k-(lo+k-(lo+l))=lo+l by omega]
   have e1:lo+i-1=lo+(i-1)∨i=0:=by omega
   have e2:lo+j-1=lo+(j-1)∨j=0:=by omega
   repeat' split
   all_goals first
    |(exfalso;omega)
    |exact Int.le_refl _
    |(rcases e1 with e1|e1<;>rcases e2 with e2|e2<;>first|(exfalso;omega)|(simp only[e1,e2];first|exact Int.le_refl _|exact hlo _ (by omega)|exact Int.le_of_lt (hhi _ (by omega) (by omega))|exact hs' _ _ (by omega) (by omega)))
    |exact hlo _ (by omega)
    |exact Int.le_of_lt (hhi _ (by omega) (by omega))
    |exact hs' _ _ (by omega) (by omega)
end
end L2.Tim
end
section
namespace L2.Tim
open PySem PySem.W PySem.Calls PyProof PyProof.Rows
section
variable {prog:Program}{w:World}{A:Around}{E:Value→Shared→Prop}{s:Shared}{κ:SortKind}{a₀:Array Keyed}{key:Keyed→Int}
noncomputable def Dis(key:Keyed→Int)(a₀:Array Keyed):Prop:=∀a:Array Keyed,a.Perm a₀→∀i j,i<a₀.size→j<a₀.size→i≠j→kk key a i≠kk key a j
theorem eT(L:sM prog w A E s κ a₀ key)(D:Dis key a₀){st:SortSt}{lo nrem:Nat}{Q:Option Nat→SortSt→Prop}(hn:lo+nrem≤a₀.size)(h1:1≤nrem)(hB:Bs κ a₀ st)
 (h:∀m st',Bs κ a₀ st'→Pre lo (arrOf st) (arrOf st')→pendingOf st'=pendingOf st→1≤m→m≤nrem→SIn key (arrOf st') lo m→Q (some m) st') :
 wpS (model prog w) A E s (countRun' lo nrem) Q st:=by
 rw[countRun'_eq]
 have asc:∀(a:Nat) (st1:SortSt) (Q':Option (Option Nat) × Nat→SortSt→Prop) (body:Nat→Option (Option Nat) × Nat→StateT SortSt Sem (ForInStep (Option (Option Nat) × Nat))),1≤a→a≤nrem→Bs κ a₀ st1→SIn key (arrOf st1) lo a →
  (∀i c,body i c=(do
   let __x ←ltAt' (lo+c.snd) (lo+c.snd-1)
   match __x with
   |some smaller=>if smaller=true then pure (ForInStep.done (none,c.snd)) else pure (ForInStep.yield (none,c.snd+1))
   |_=>pure (ForInStep.done (some none,c.snd)))) →
  (∀n,a≤n→n≤nrem→SIn key (arrOf st1) lo n→(n=nrem∨kk key (arrOf st1) (lo+n)<kk key (arrOf st1) (lo+n-1))→Q' (none,n) st1) →
  wpS (model prog w) A E s (forIn [a:nrem] ((none,a):Option (Option Nat) × Nat) body) Q' st1:=by
  intro a st1 Q' body ha han hB1 hs1 hb hq
  refine wpS_forRange (I:=fun x c st'=>st'=st1∧c=(none,x)∧SIn key (arrOf st1) lo x) ?step ?fin ⟨rfl,rfl,hs1⟩
  case fin=>
   rintro c st' ⟨rfl,rfl,hs'⟩
   rw[show max a nrem=nrem by omega]at hs' ⊢
   exact hq nrem han (Nat.le_refl _) hs' (.inl rfl)
  case step=>
   rintro x c st' hax hxn ⟨rfl,rfl,hs'⟩
   rw[hb]
   dsimp only
   refine wpS_bind (nX L hB1 (by omega) (by omega) ?_)
   by_cases hless:kk key (arrOf st') (lo+x)<kk key (arrOf st') (lo+x-1)
   . simp only[hless,decide_true,if_true]
     exact wpS_pure (hq x hax (by omega) hs' (.inr hless))
   . simp only[hless,decide_false,Bool.false_eq_true,if_false]
     refine wpS_pure ⟨rfl,rfl,fun i j hij hj=>?_⟩
     by_cases hjx:j<x
     . exact hs' i j hij hjx
     . have hj':j=x:=by omega
       subst hj'
       by_cases hi':i=j
       . subst hi';exact Int.le_refl _
       . rw[show lo+j-1=lo+(j-1) by omega]at hless
         exact Int.le_trans (hs' i (j-1) (by omega) (by omega)) (Int.not_lt.mp hless)
 refine wpS_bind (asc 1 st _ _ (Nat.le_refl _) h1 hB (fun i j hij hj=>by have:i=j:=by omega
                                                                         subst this;exact Int.le_refl _) (fun i c=>rfl) fun n hn1 hn2 hsn hor=>?_)
 dsimp only
 by_cases hnn:n=nrem
 . rw[if_pos (by simpa using hnn)]
   exact wpS_pure (h n st hB .refl rfl hn1 hn2 hsn)
 . rw[if_neg (by simpa using hnn)]
   have hlt:kk key (arrOf st) (lo+n)<kk key (arrOf st) (lo+n-1):=hor.resolve_left hnn
   by_cases hgt:n > 1
   . rw[if_pos hgt]
     refine wpS_bind (nX L hB (by omega) (by omega) ?_)
     have hrose:kk key (arrOf st) lo<kk key (arrOf st) (lo+n-1):=by
      have a1:=hsn 0 (n-1) (by omega) (by omega)
      rw[Nat.add_zero,show lo+(n-1)=lo+n-1 by omega]at a1
      have a2:=D _ hB.perm lo (lo+n-1) (by omega) (by omega) (by omega)
      omega
     simp only[hrose,decide_true,if_true]
     exact wpS_pure (h n st hB .refl rfl hn1 hn2 hsn)
   . rw[if_neg hgt]
     have hn1':n=1:=by omega
     subst hn1'
     refine wpS_bind (wpS_lift (wpAny_rule ⟨rfl,?_⟩))
     refine wpS_bind (wpS_mono (wpS_forRange (I:=fun x c st'=>st'=st∧c=(none,x,0)∧NIn key (arrOf st) lo x) (Q:=fun c st'=>st'=st∧∃m,2≤m∧m≤nrem∧c=(none,m,0)∧NIn key (arrOf st) lo m) ?step ?fin ⟨rfl,rfl,?_⟩) ?post)
     case fin=>
      rintro c st' ⟨rfl,rfl,hs'⟩
      exact⟨rfl,max (1+1) nrem,by omega,by omega,rfl,hs'⟩
     case step=>
      rintro x c st' hax hxn ⟨rfl,rfl,hs'⟩
      dsimp only
      refine wpS_bind (nX L hB (by omega) (by omega) ?_)
      by_cases hless:kk key (arrOf st') (lo+x)<kk key (arrOf st') (lo+x-1)
      . simp only[hless,decide_true,if_true]
        rw[if_neg (by omega)]
        refine wpS_pure ⟨rfl,rfl,fun i j hij hj=>?_⟩
        by_cases hjx:j<x
        . exact hs' i j hij hjx
        . have hj':j=x:=by omega
          subst hj'
          by_cases hi':i=j
          . subst hi';exact Int.le_refl _
          . rw[show lo+j-1=lo+(j-1) by omega]at hless
            exact Int.le_trans (Int.le_of_lt hless) (hs' i (j-1) (by omega) (by omega))
      . simp only[hless,decide_false,Bool.false_eq_true,if_false]
        refine wpS_bind (nX L hB (by omega) (by omega) ?_)
        have hl:kk key (arrOf st') (lo+x-1)<kk key (arrOf st') (lo+x):=by
         have:=D _ hB.perm (lo+x) (lo+x-1) (by omega) (by omega) (by omega)
         omega
        simp only[hl,decide_true,if_true]
        exact wpS_pure ⟨rfl,x,by omega,by omega,rfl,hs'⟩
     . intro i j hij hj
       by_cases hi':i=j
       . subst hi';exact Int.le_refl _
       . have hi0:i=0:=by omega
         have hj1:j=1:=by omega
         subst hi0;subst hj1
         rw[show lo+1-1=lo+0 by omega]at hlt
         exact Int.le_of_lt hlt
     case post=>
      rintro c st' ⟨rfl,m,hm2,hmn,rfl,hs'⟩
      dsimp only
      rw[if_neg (by omega)]
      refine wpS_bind (Yr ?_)
      have hsz:lo+m≤(arrOf st').size:=by rw[hB.size];omega
      have hB':=hB.set (mirror_perm (arrOf st') lo (lo+m) ((lo+m-lo)/2))
      refine wpS_bind (asc m _ _ _ (by omega) hmn hB' ?_ (fun i c=>rfl) fun k hk1 hk2 hsk _=>?_)
      . intro i j hij hj
        show kk key (mirror (arrOf st') lo (lo+m) ((lo+m-lo)/2)) (lo+i)≤kk key (mirror (arrOf st') lo (lo+m) ((lo+m-lo)/2)) (lo+j)
        rw[qW hsz,qW hsz,if_pos (by omega),if_pos (by omega)]
        have:=hs' (m-1-j) (m-1-i) (by omega) (by omega)
        rwa [show lo+(m-1-j)=lo+(lo+m)-1-(lo+j) by omega,show lo+(m-1-i)=lo+(lo+m)-1-(lo+i) by omega]at this
      . exact wpS_pure (h k _ hB' (mf hsz (Nat.le_refl _)) rfl (by omega) hk2 hsk)
end
end L2.Tim
end
section
namespace L2.Tim
open PySem PySem.W PySem.Calls PyProof PyProof.Rows
section
variable {prog:Program}{w:World}{A:Around}{E:Value→Shared→Prop}{s:Shared}{κ:SortKind}{a₀:Array Keyed}{key:Keyed→Int}
noncomputable def l7:Bool→Keyed→Array Keyed→Nat→Nat→Nat→StateT SortSt Sem (Option Nat):=sortPriv% PySem.Builtin.gallop
noncomputable def Cut(a₀:Array Keyed)(key:Keyed→Int)(left:Bool)(x:Keyed)(arr:Array Keyed)(base n k0:Nat):Prop:=
 ∀i,i<n→∃y,arr[base+i]?=some y∧y∈a₀.toList∧(if left=true then decide (key y<key x) else !decide (key x<key y))=decide (i<k0)
theorem wu(L:sM prog w A E s κ a₀ key){left:Bool}{x:Keyed}{arr:Array Keyed}{base n k0 i:Nat}(hc:Cut a₀ key left x arr base n k0)(hx:x∈a₀.toList){st:SortSt}(hk:kindOf st=κ)(hi:i<n){Q:Option Bool→SortSt→Prop}(h:Q (some (decide (i<k0))) st)
 {m:StateT SortSt Sem (Option Bool)} (hm:m=(elem' arr (base+i) >>= fun y=>if left=true then lt' y x else lt' x y >>= fun r=>pure (r.map (!·)))):wpS (model prog w) A E s m Q st:=by
 obtain⟨y,e1,e2,e3⟩:=hc i hi
 rw[hm]
 refine wpS_bind (zk e1 ?_)
 cases left with
 |true=>
  rw[if_pos rfl]at e3 ⊢
  refine L y x st _ e2 hx hk ?_
  rw[e3];exact h
 |false=>
  rw[if_neg Bool.false_ne_true]at e3 ⊢
  refine wpS_bind (L x y st _ hx e2 hk (wpS_pure ?_))
  show Q (some (!decide (key x<key y))) st
  rw[e3];exact h
theorem qv{n k0:Nat}{st:SortSt}{body:Nat→Option (Option Nat) × Nat × Nat→StateT SortSt Sem (ForInStep (Option (Option Nat) × Nat × Nat))}
 (h1:∀i lo hi (Q':ForInStep (Option (Option Nat) × Nat × Nat)→SortSt→Prop),lo ≥ hi→Q' (.done (none,lo,hi)) st→wpS (model prog w) A E s (body i (none,lo,hi)) Q' st)
 (h2:∀i lo hi (Q':ForInStep (Option (Option Nat) × Nat × Nat)→SortSt→Prop),lo<hi→hi≤n→Q' (if lo+(hi-lo)/2<k0 then .yield (none,lo+(hi-lo)/2+1,hi) else .yield (none,lo,lo+(hi-lo)/2)) st→wpS (model prog w) A E s (body i (none,lo,hi)) Q' st)
 {lo hi:Nat} (a1:lo≤k0) (a2:k0≤hi) (a3:hi≤n) {Q:Option (Option Nat) × Nat × Nat→SortSt→Prop} (q:∀l,Q (none,l,k0) st):wpS (model prog w) A E s (forIn [:n] ((none,lo,hi):Option (Option Nat) × Nat × Nat) body) Q st:=by
 refine wpS_forRange (I:=fun x c st'=>st'=st∧∃lo hi,c=(none,lo,hi)∧lo≤k0∧k0≤hi∧hi≤n∧hi-lo≤n-x) ?step ?fin ⟨rfl,lo,hi,rfl,a1,a2,a3,by omega⟩
 case fin=>
  rintro c st' ⟨rfl,lo,hi,rfl,b1,b2,b3,b4⟩
  have:hi=k0:=by omega
  subst this;exact q lo
 case step=>
  rintro x c st' _ hx ⟨rfl,lo,hi,rfl,b1,b2,b3,b4⟩
  by_cases hge:lo ≥ hi
  . refine h1 x lo hi _ hge ?_
    have:hi=k0:=by omega
    subst this;exact q lo
  . refine h2 x lo hi _ (by omega) b3 ?_
    by_cases hm:lo+(hi-lo)/2<k0
    . rw[if_pos hm]
      exact⟨rfl,_,_,rfl,by omega,by omega,by omega,by omega⟩
    . rw[if_neg hm]
      exact⟨rfl,_,_,rfl,by omega,by omega,by omega,by omega⟩
theorem wA(L:sM prog w A E s κ a₀ key){left:Bool}{x:Keyed}{arr:Array Keyed}{base n hint k0:Nat}(hh:hint<n)(h0:k0≤n)(hc:Cut a₀ key left x arr base n k0)(hx:x∈a₀.toList){st:SortSt}(hk:kindOf st=κ){Q:Option Nat→SortSt→Prop}(h:Q (some k0) st) :
 wpS (model prog w) A E s (l7 left x arr base n hint) Q st:=by
 unfold l7
 refine wpS_bind (wu L hc hx hk hh ?_ rfl)
 by_cases hr:hint<k0
 . rw[decide_eq_true hr]
   dsimp only
   rw[if_pos rfl]
   refine wpS_bind (wpS_mono (wpS_forRange (I:=fun y c st'=>st'=st∧∃la o,c=(none,la,o)∧la<o∧hint+la<k0∧y<o) (Q:=fun c st'=>st'=st∧∃la o,c=(none,la,o)∧hint+la<k0∧k0≤hint+min o (n-hint)) ?step ?fin ⟨rfl,0,1,rfl,by omega,by omega,by omega⟩) ?post)
   case fin=>
    rintro c st' ⟨rfl,la,o,rfl,b1,b2,b3⟩
    exact⟨rfl,la,o,rfl,b2,by omega⟩
   case step=>
    rintro y c st' _ hy ⟨rfl,la,o,rfl,b1,b2,b3⟩
    dsimp only
    by_cases hge:o ≥ n-hint
    . rw[if_pos hge]
      exact wpS_pure ⟨rfl,la,o,rfl,b2,by omega⟩
    . rw[if_neg hge]
      refine wpS_bind (wu L hc hx hk (show hint+o<n by omega) ?_ rfl)
      by_cases hm:hint+o<k0
      . rw[decide_eq_true hm]
        dsimp only
        rw[if_neg (by simp)]
        exact wpS_pure ⟨rfl,o,2*o+1,rfl,by omega,hm,by omega⟩
      . rw[decide_eq_false hm]
        dsimp only
        rw[if_pos (by simp)]
        exact wpS_pure ⟨rfl,la,o,rfl,b2,by omega⟩
   case post=>
    rintro c st' ⟨rfl,la,o,rfl,b1,b2⟩
    dsimp only
    refine wpS_bind (qv (n:=n) (k0:=k0) (fun i lo hi Q' hge q=>?_) (fun i lo hi Q' hl hn q=>?_) (by omega) b2 (by omega) fun l=>wpS_pure h)
    . dsimp only
      rw[if_pos hge]
      exact wpS_pure q
    . dsimp only
      rw[if_neg (by omega)]
      refine wpS_bind (wu L hc hx hk (show lo+(hi-lo)/2<n by omega) ?_ rfl)
      by_cases hm:lo+(hi-lo)/2<k0
      . rw[decide_eq_true hm];rw[if_pos hm]at q
        dsimp only
        rw[if_pos rfl];exact wpS_pure q
      . rw[decide_eq_false hm];rw[if_neg hm]at q
        dsimp only
        rw[if_neg Bool.false_ne_true];exact wpS_pure q
 . rw[decide_eq_false hr]
   dsimp only
   rw[if_neg Bool.false_ne_true]
   refine wpS_bind (wpS_mono (wpS_forRange (I:=fun y c st'=>st'=st∧∃la o,c=(none,la,o)∧la<o∧k0≤hint-la∧y<o∧la≤hint) (Q:=fun c st'=>st'=st∧∃la o,c=(none,la,o)∧k0≤hint-la∧hint+1-min o (hint+1)≤k0) ?step ?fin ⟨rfl,0,1,rfl,by omega,by omega,by omega,by omega⟩) ?post)
   case fin=>
    rintro c st' ⟨rfl,la,o,rfl,b1,b2,b3,b4⟩
    exact⟨rfl,la,o,rfl,b2,by omega⟩
   case step=>
    rintro y c st' _ hy ⟨rfl,la,o,rfl,b1,b2,b3,b4⟩
    dsimp only
    by_cases hge:o ≥ hint+1
    . rw[if_pos hge]
      exact wpS_pure ⟨rfl,la,o,rfl,b2,by omega⟩
    . rw[if_neg hge]
      refine wpS_bind (wu L hc hx hk (show hint-o<n by omega) ?_ rfl)
      by_cases hm:hint-o<k0
      . rw[decide_eq_true hm]
        dsimp only
        rw[if_pos rfl]
        exact wpS_pure ⟨rfl,la,o,rfl,b2,by omega⟩
      . rw[decide_eq_false hm]
        dsimp only
        rw[if_neg Bool.false_ne_true]
        exact wpS_pure ⟨rfl,o,2*o+1,rfl,by omega,by omega,by omega,by omega⟩
   case post=>
    rintro c st' ⟨rfl,la,o,rfl,b1,b2⟩
    dsimp only
    refine wpS_bind (qv (n:=n) (k0:=k0) (fun i lo hi Q' hge q=>?_) (fun i lo hi Q' hl hn q=>?_) b2 b1 (by omega) fun l=>wpS_pure h)
    . dsimp only
      rw[if_pos hge]
      exact wpS_pure q
    . dsimp only
      rw[if_neg (by omega)]
      refine wpS_bind (wu L hc hx hk (show lo+(hi-lo)/2<n by omega) ?_ rfl)
      by_cases hm:lo+(hi-lo)/2<k0
      . rw[decide_eq_true hm];rw[if_pos hm]at q
        dsimp only
        rw[if_pos rfl];exact wpS_pure q
      . rw[decide_eq_false hm];rw[if_neg hm]at q
        dsimp only
        rw[if_neg Bool.false_ne_true];exact wpS_pure q
end
end L2.Tim
end
section
namespace L2.Tim
open PySem PySem.W PySem.Calls PyProof PyProof.Rows
section
variable {prog:Program}{w:World}{A:Around}{E:Value→Shared→Prop}{s:Shared}{κ:SortKind}{a₀:Array Keyed}{key:Keyed→Int}
noncomputable def Srt(key:Keyed→Int)(l:List Keyed):Prop:=l.Pairwise fun x y=>key x≤key y
theorem p9{o p q r:List Keyed}(h1:Srt key (o++(p++q)))(h2:Srt key (o++r))(h:∀u∈p,∀v∈r,key u≤key v):Srt key ((o++p)++r):=by
 unfold Srt at *
 rw[List.pairwise_append]at h1 h2 ⊢
 have h3:=List.pairwise_append.mp h1.2.1
 refine⟨List.pairwise_append.mpr ⟨h1.1,h3.1,fun a ha b hb=>h1.2.2 a ha b (List.mem_append_left _ hb)⟩,h2.2.1,fun a ha b hb=>?_⟩
 rcases List.mem_append.mp ha with ha|ha
 . exact h2.2.2 a ha b hb
 . exact h a ha b hb
structure Mg(key:Keyed→Int)(X Y:List Keyed)(out:Array Keyed)(ia ib:Nat):Prop where
 sx:Srt key (out.toList++X.drop ia)
 sy:Srt key (out.toList++Y.drop ib)
 pm:out.toList.Perm (X.take ia++Y.take ib)
theorem Mg.qg{X Y:List Keyed}{out:Array Keyed}{ia ib:Nat}{y:Keyed}(h:Mg key X Y out ia ib)(hy:Y[ib]?=some y)(hx:∀u∈X.drop ia,key y≤key u):Mg key X Y (out.push y) ia (ib+1):=by
 obtain⟨hlt,e⟩:=List.getElem?_eq_some_iff.mp hy
 have ed:Y.drop ib=[y]++Y.drop (ib+1):=by rw[List.drop_eq_getElem_cons hlt,e];rfl
 have et:Y.take (ib+1)=Y.take ib++[y]:=by rw[List.take_succ,hy];rfl
 have sy:=h.sy
 rw[ed]at sy
 refine⟨?_,?_,?_⟩
 . rw[Array.toList_push]
   exact p9 sy h.sx fun u hu v hv=>by rw[List.mem_singleton.mp hu];exact hx v hv
 . rw[Array.toList_push,List.append_assoc];exact sy
 . rw[Array.toList_push,et,←List.append_assoc]
   exact h.pm.append_right _
theorem Mg.qa{X Y:List Keyed}{out:Array Keyed}{ia ib k:Nat}{mid:List Keyed}(h:Mg key X Y out ia ib)(hm:X.drop ia=mid++X.drop (ia+k))(ht:X.take (ia+k)=X.take ia++mid)(hle:∀u∈mid,∀v∈Y.drop ib,key u≤key v){out':Array Keyed}(ho:out'.toList=out.toList++mid):Mg key X Y out' (ia+k) ib:=by
 have sx:=h.sx
 rw[hm]at sx
 refine⟨?_,?_,?_⟩
 . rw[ho,List.append_assoc];exact sx
 . rw[ho];exact p9 sx h.sy hle
 . rw[ho,ht]
   refine(h.pm.append_right mid).trans ?_
   rw[List.append_assoc,List.append_assoc]
   exact(List.perm_append_comm).append_left _
theorem Mg.oh{X Y:List Keyed}{out:Array Keyed}{ia ib k:Nat}{mid:List Keyed}(h:Mg key X Y out ia ib)(hm:Y.drop ib=mid++Y.drop (ib+k))(ht:Y.take (ib+k)=Y.take ib++mid)(hle:∀u∈mid,∀v∈X.drop ia,key u≤key v){out':Array Keyed}(ho:out'.toList=out.toList++mid):Mg key X Y out' ia (ib+k):=by
 have sy:=h.sy
 rw[hm]at sy
 refine⟨?_,?_,?_⟩
 . rw[ho];exact p9 sy h.sx hle
 . rw[ho,List.append_assoc];exact sy
 . rw[ho,ht,←List.append_assoc]
   exact h.pm.append_right mid
theorem Mg.pushX{X Y:List Keyed}{out:Array Keyed}{ia ib:Nat}{x:Keyed}(h:Mg key X Y out ia ib)(hx:X[ia]?=some x)(hy:∀u∈Y.drop ib,key x≤key u):Mg key X Y (out.push x) (ia+1) ib:=by
 obtain⟨hlt,e⟩:=List.getElem?_eq_some_iff.mp hx
 refine h.qa (mid:=[x]) (by rw[List.drop_eq_getElem_cons hlt,e];rfl) (by rw[List.take_succ,hx];rfl) (fun u hu v hv=>by rw[List.mem_singleton.mp hu];exact hy v hv) (Array.toList_push)
structure Res(key:Keyed→Int)(X Y:List Keyed)(r:Array Keyed):Prop where
 srt:Srt key r.toList
 perm:r.toList.Perm (X++Y)
theorem Mg.tZ{X Y:List Keyed}{out r:Array Keyed}{ia ib:Nat}(h:Mg key X Y out ia ib)(hb:Y.length≤ib)(hr:r.toList=out.toList++X.drop ia):Res key X Y r:=by
 refine⟨by rw[hr];exact h.sx,?_⟩
 have:=h.pm
 rw[List.take_of_length_le hb]at this
 rw[hr]
 refine(this.append_right _).trans ?_
 rw[List.append_assoc]
 refine(List.perm_append_comm.append_left _).trans ?_
 rw[←List.append_assoc,List.take_append_drop]
theorem Mg.rq{X Y:List Keyed}{out r:Array Keyed}{ia ib:Nat}(h:Mg key X Y out ia ib)(hl:∀u∈Y,∀v∈X.drop ia,key u≤key v)(hr:r.toList=out.toList++Y.drop ib++X.drop ia):Res key X Y r:=by
 have m:=h.oh (k:=Y.length) (mid:=Y.drop ib) (by rw[List.drop_of_length_le (show Y.length≤ib+Y.length by omega),List.append_nil]) (by rw[List.take_of_length_le (by omega),List.take_append_drop]) (fun u hu v hv=>hl u (List.mem_of_mem_drop hu) v hv) (out':=(out.toList++Y.drop ib).toArray) rfl
 exact m.tZ (by omega) hr
theorem xk{l:List Keyed}(h:Srt key l){i:Nat}{x:Keyed}(hx:l[i]?=some x):∀u∈l.drop i,key x≤key u:=fun u hu=>by
 obtain⟨hlt,e⟩:=List.getElem?_eq_some_iff.mp hx
 rw[List.drop_eq_getElem_cons hlt,e]at hu
 rcases List.mem_cons.mp hu with rfl|hu
 . exact Int.le_refl _
 . obtain⟨j,hj,rfl⟩:=List.getElem_of_mem hu
   rw[List.getElem_drop]
   rw[←e]
   rw[List.length_drop]at hj
   exact List.pairwise_iff_getElem.mp h i (i+1+j) hlt (by omega) (by omega)
theorem zc{α:Type}{c:Prop} [Decidable c] {m1 m2:StateT SortSt Sem α}{Q:α→SortSt→Prop}{st:SortSt}(h1:c→wpS (model prog w) A E s m1 Q st)(h2:¬c→wpS (model prog w) A E s m2 Q st):wpS (model prog w) A E s (if c then m1 else m2) Q st:=by
 by_cases h:c
 . rw[if_pos h];exact h1 h
 . rw[if_neg h];exact h2 h
structure Sm(st st':SortSt):Prop where
 kind:kindOf st'=kindOf st
 arr:arrOf st'=arrOf st
 pend:pendingOf st'=pendingOf st
 fail:failedOf st'=failedOf st
theorem Sm.refl{st:SortSt}:Sm st st:=⟨rfl,rfl,rfl,rfl⟩
theorem Sm.trans{a b c:SortSt}(h:Sm a b)(k:Sm b c):Sm a c:=⟨k.kind.trans h.kind,k.arr.trans h.arr,k.pend.trans h.pend,k.fail.trans h.fail⟩
theorem Mg.Y6{X Y:List Keyed}{out r:Array Keyed}{ia ib:Nat}(h:Mg key X Y out ia ib)(hb:X.length≤ia)(hr:r.toList=out.toList++Y.drop ib):Res key X Y r:=by
 refine⟨by rw[hr];exact h.sy,?_⟩
 have:=h.pm
 rw[List.take_of_length_le hb]at this
 rw[hr]
 refine(this.append_right _).trans ?_
 rw[List.append_assoc,List.take_append_drop]
theorem vd{a:Array Keyed}{i:Nat}:(a.extract i).toList=a.toList.drop i:=by
 rw[Array.toList_extract,List.extract_eq_drop_take]
 exact List.take_of_length_le (by rw[List.length_drop,Array.length_toList];exact Nat.le_refl _)
theorem pL{a:Array Keyed}{i k:Nat}:(a.extract i (i+k)).toList=(a.toList.drop i).take k:=by
 rw[Array.toList_extract,List.extract_eq_drop_take,Nat.add_sub_cancel_left]
theorem vz{l:List Keyed}{i k:Nat}:l.drop i=(l.drop i).take k++l.drop (i+k):=by
 rw[←List.drop_drop,List.take_append_drop]
theorem Mg.aj{a b out:Array Keyed}{ia ib k:Nat}(h:Mg key a.toList b.toList out ia ib)(hle:∀u∈(a.toList.drop ia).take k,∀v∈b.toList.drop ib,key u≤key v):Mg key a.toList b.toList (out++a.extract ia (ia+k)) (ia+k) ib:=
 h.qa vz List.take_add hle (by rw[Array.toList_append,pL])
theorem Mg.ao{a b out:Array Keyed}{ia ib k:Nat}(h:Mg key a.toList b.toList out ia ib)(hle:∀u∈(b.toList.drop ib).take k,∀v∈a.toList.drop ia,key u≤key v):Mg key a.toList b.toList (out++b.extract ib (ib+k)) ia (ib+k):=
 h.oh vz List.take_add hle (by rw[Array.toList_append,pL])
theorem oP(left:Bool)(x:Keyed):∀{l:List Keyed},Srt key l→∃k0,k0≤l.length∧∀i (hi:i<l.length),(if left=true then decide (key l[i]<key x) else !decide (key x<key l[i]))=decide (i<k0)
 |[],_=>⟨0,Nat.le_refl _,fun i hi=>absurd hi (Nat.not_lt_zero _)⟩
 |y::t,h=>by
  unfold Srt at h
  rw[List.pairwise_cons]at h
  by_cases hp:(if left=true then decide (key y<key x) else !decide (key x<key y))=true
  . obtain⟨k0,h1,h2⟩:=oP left x (l:=t) h.2
    refine⟨k0+1,by rw[List.length_cons];omega,fun i hi=>?_⟩
    cases i with
    |zero=>rw[show decide (0<k0+1)=true from decide_eq_true (by omega)];exact hp
    |succ i=>
     rw[List.length_cons]at hi
     have:=h2 i (by omega)
     rw[List.getElem_cons_succ,this]
     exact decide_eq_decide.mpr (by omega)
  . refine⟨0,Nat.zero_le _,fun i hi=>?_⟩
    rw[decide_eq_false (Nat.not_lt_zero _)]
    have hle:key y≤key (y::t)[i]:=by
     cases i with
     |zero=>exact Int.le_refl _
     |succ i=>
      rw[List.length_cons]at hi
      exact h.1 _ (List.getElem_mem _)
    cases left with
    |true=>
     simp only[if_true,decide_eq_true_eq]at hp ⊢
     exact decide_eq_false (by omega)
    |false=>
     simp only[Bool.false_eq_true,if_false,Bool.not_eq_true',decide_eq_false_iff_not]at hp ⊢
     rw[Bool.not_eq_false',decide_eq_true_eq]
     omega
theorem uK{left:Bool}{x:Keyed}{arr:Array Keyed}{base n:Nat}(hn:base+n≤arr.size)(hs:Srt key ((arr.toList.drop base).take n))(hm:∀u∈(arr.toList.drop base).take n,u∈a₀.toList) :
 ∃k0,k0≤n∧Cut a₀ key left x arr base n k0∧(∀u∈(arr.toList.drop base).take k0,key u≤key x)∧∀u∈((arr.toList.drop base).take n).drop k0,key x≤key u:=by
 have hl:((arr.toList.drop base).take n).length=n:=by rw[List.length_take,List.length_drop,Array.length_toList];omega
 obtain⟨k0,h1,h2⟩:=oP (key:=key) left x hs
 rw[hl]at h1
 have g:∀i (hi:i<((arr.toList.drop base).take n).length),arr[base+i]?=some ((arr.toList.drop base).take n)[i]:=fun i hi=>by
  rw[List.getElem_take,List.getElem_drop,←Array.getElem?_toList,List.getElem?_eq_getElem]
 refine⟨k0,h1,fun i hi=>⟨((arr.toList.drop base).take n)[i]'(by omega),g i (by omega),hm _ (List.getElem_mem _),h2 i (by omega)⟩,fun u hu=>?_,fun u hu=>?_⟩
 . have e:(arr.toList.drop base).take k0=((arr.toList.drop base).take n).take k0:=by rw[List.take_take,Nat.min_eq_left h1]
   rw[e]at hu
   obtain⟨i,hi,rfl⟩:=List.getElem_of_mem hu
   rw[List.length_take]at hi
   rw[List.getElem_take]
   have:=h2 i (by omega)
   rw[decide_eq_true (show i<k0 by omega)]at this
   cases left with
   |true=>simp only[if_true,decide_eq_true_eq]at this;omega
   |false=>simp only[Bool.false_eq_true,if_false,Bool.not_eq_true',decide_eq_false_iff_not]at this;omega
 . obtain⟨i,hi,rfl⟩:=List.getElem_of_mem hu
   rw[List.length_drop]at hi
   rw[List.getElem_drop]
   have:=h2 (k0+i) (by omega)
   rw[decide_eq_false (show ¬k0+i<k0 by omega)]at this
   cases left with
   |true=>simp only[if_true,decide_eq_false_iff_not]at this;omega
   |false=>simp only[Bool.false_eq_true,if_false,Bool.not_eq_false',decide_eq_true_eq]at this;omega
theorem oO{left:Bool}{x:Keyed}{arr:Array Keyed}{base:Nat}(hn:base≤arr.size)(hs:Srt key arr.toList)(hm:∀u∈arr.toList,u∈a₀.toList) :
 ∃k0,k0≤arr.size-base∧Cut a₀ key left x arr base (arr.size-base) k0∧(∀u∈(arr.toList.drop base).take k0,key u≤key x)∧∀u∈arr.toList.drop (base+k0),key x≤key u:=by
 have e:(arr.toList.drop base).take (arr.size-base)=arr.toList.drop base:=List.take_of_length_le (by rw[List.length_drop,Array.length_toList];exact Nat.le_refl _)
 obtain⟨k0,h1,h2,h3,h4⟩:=uK (a₀:=a₀) (key:=key) (left:=left) (x:=x) (arr:=arr) (base:=base) (n:=arr.size-base) (by omega) (by rw[e];exact hs.sublist (List.drop_sublist _ _)) (by rw[e];exact fun u hu=>hm u (List.mem_of_mem_drop hu))
 rw[e,List.drop_drop]at h4
 exact⟨k0,h1,h2,h3,h4⟩
theorem yJ{a:Array Keyed}{i:Nat}(h:i<a.size):a[i]?=some (a.getD i (Value.none,Value.none))∧a.toList[i]?=some (a.getD i (Value.none,Value.none))∧a.getD i (Value.none,Value.none)∈a.toList:=by
 have e:a.getD i (Value.none,Value.none)=a[i]:=by simp[Array.getD,h]
 rw[e]
 exact⟨by simp[h],by simp[h],by simp⟩
noncomputable def vp:Nat→StateT SortSt Sem Unit:=sortPriv% PySem.Builtin.setMinGallop
theorem kf{g:Nat}{st:SortSt}{Q:Unit→SortSt→Prop}(h:∀st2,Sm st st2→Q () st2):wpS (model prog w) A E s (vp g) Q st:=by
 unfold vp
 exact wpS_modify (h _ ⟨rfl,rfl,rfl,rfl⟩)
noncomputable def og:Array Keyed→Array Keyed→StateT SortSt Sem (Array Keyed):=sortPriv% PySem.Builtin.mergeLo
structure LoI(key:Keyed→Int)(a b:Array Keyed)(c:Option (Array Keyed))(out:Array Keyed)(ia ib x:Nat):Prop where
 no:c=none
 mg:Mg key a.toList b.toList out ia ib
 la:ia+1<a.size
 lb:ib<b.size
 lt:x≤ia+ib
theorem LoI.mono{a b out:Array Keyed}{c:Option (Array Keyed)}{ia ib x x':Nat}(h:LoI key a b c out ia ib x)(k:x'≤x):LoI key a b c out ia ib x':=⟨h.no,h.mg,h.la,h.lb,Nat.le_trans k h.lt⟩
inductive LoQ(key:Keyed→Int)(a b:Array Keyed)(c:Option (Array Keyed))(out:Array Keyed)(ia ib x:Nat):Prop where
 |res (r:Array Keyed) (h:c=some r) (hr:Res key a.toList b.toList r):LoQ key a b c out ia ib x
 |go (h:LoI key a b c out ia ib x):LoQ key a b c out ia ib x
theorem zw{i j:Nat}(h:(i == j)=true):i=j:=eq_of_beq h
theorem xK{i j:Nat}(h:¬(i == j)=true):i≠j:=fun e=>h (beq_iff_eq.mpr e)
theorem lt2{i k n:Nat}(h:k≤n-i)(h':i+1<n)(e:i+k+1≠n)(e':i+k≠n):i+k+1<n:=by omega
theorem lt3{i k n:Nat}(h:k≤n-i)(h':i<n)(e:i+k≠n):i+k<n:=by omega
theorem Wl(L:sM prog w A E s κ a₀ key){a b:Array Keyed}(ha:0<a.size)(hb:0<b.size)(ma:∀x∈a.toList,x∈a₀.toList)(mb:∀x∈b.toList,x∈a₀.toList)(sa:Srt key a.toList)(sb:Srt key b.toList)
 (h1:∀u∈a.toList,key (b.getD 0 (Value.none,Value.none))≤key u) (h2:∀u∈b.toList,key u≤key (a.getD (a.size-1) (Value.none,Value.none))) {st:SortSt} (hk:kindOf st=κ) {Q:Array Keyed→SortSt→Prop} (q:∀r st',Sm st st'→Res key a.toList b.toList r→Q r st') :
 wpS (model prog w) A E s (og a b) Q st:=by
 have lastA:∀{i:Nat},i+1=a.size→∀u∈b.toList,∀v∈a.toList.drop i,key u≤key v:=fun{i} hi u hu v hv=>by
  have gl:=yJ (show i<a.size by omega)
  have:a.toList.drop i=[a.getD i (Value.none,Value.none)]:=by
   obtain⟨hlt,e⟩:=List.getElem?_eq_some_iff.mp gl.2.1
   rw[List.drop_eq_getElem_cons hlt,e,List.drop_of_length_le (by rw[Array.length_toList];omega)]
  rw[this,List.mem_singleton]at hv
  rw[hv,show i=a.size-1 by omega]
  exact h2 u hu
 have endB:∀{out:Array Keyed} {i j:Nat},b.size≤j→(out++a.extract i++b.extract j).toList=out.toList++a.toList.drop i:=fun{out i j} hj=>by
  rw[Array.toList_append,Array.toList_append,vd,vd,List.drop_of_length_le (show b.toList.length≤j by rw[Array.length_toList];exact hj),List.append_nil]
 have endA:∀{out:Array Keyed} {i j:Nat},(out++b.extract j++a.extract i).toList=out.toList++b.toList.drop j++a.toList.drop i:=fun{out i j}=>by
  rw[Array.toList_append,Array.toList_append,vd,vd]
 have tZ:∀{out:Array Keyed} {i j:Nat},Mg key a.toList b.toList out i j→j=b.size→Res key a.toList b.toList (out++a.extract i++b.extract j):=fun{out i j} h e=>h.tZ (by rw[Array.length_toList,e];exact Nat.le_refl _) (endB (Nat.le_of_eq e.symm))
 have endA0:∀{out:Array Keyed} {i j:Nat},i=a.size→(out++a.extract i++b.extract j).toList=out.toList++b.toList.drop j:=fun{out i j} hj=>by
  rw[Array.toList_append,Array.toList_append,vd,vd,List.drop_of_length_le (show a.toList.length≤i by rw[Array.length_toList,hj];exact Nat.le_refl _),List.append_nil]
 have gb0:=yJ hb
 have J0:Mg key a.toList b.toList #[b.getD 0 (Value.none,Value.none)] 0 1:=by
  have:Mg key a.toList b.toList #[] 0 0:=⟨sa,sb,.refl _⟩
  exact this.qg gb0.2.1 h1
 unfold og
 refine wpS_bind (wpS_lift (wpAny_rule ⟨rfl,?_⟩))
 refine wpS_bind (zk gb0.1 ?_)
 refine zc (fun e1=>wpS_pure (q _ _ .refl (tZ J0 (zw e1)))) fun e1=>?_
 refine zc (fun e2=>wpS_pure (q _ _ .refl (J0.rq (lastA (zw e2)) endA))) fun e2=>?_
 refine wpS_bind (wpS_get ?_)
 refine wpS_bind (wpS_mono (wpS_forRange (I:=fun x c st'=>Sm st st'∧LoI key a b c.1 c.2.1 c.2.2.1 c.2.2.2.1 (x+1)) (Q:=fun c st'=>Sm st st'∧∃r,c.1=some r∧Res key a.toList b.toList r) ?step ?fin ⟨.refl,⟨rfl,J0,Nat.lt_of_le_of_ne ha (xK e2),Nat.lt_of_le_of_ne hb (xK e1),Nat.le_refl _⟩⟩) ?post)
 case fin=>
  intro c st' h
  have h1:=h.2.la
  have h2:=h.2.lb
  have h3:=h.2.lt
  omega
 case post=>
  rintro ⟨c1,c⟩ st' ⟨hS,r,hr,hR⟩
  cases hr
  exact wpS_pure (q r _ hS hR)
 case step=>
  intro x c st' _ hx ⟨hS,I⟩
  refine wpS_bind (wpS_mono (wpS_forRange (I:=fun y c' st''=>Sm st st''∧LoI key a b c'.1 c'.2.1 c'.2.2.1 c'.2.2.2.1 (c.2.2.1+c.2.2.2.1+y)) (Q:=fun c' st''=>Sm st st''∧LoQ key a b c'.1 c'.2.1 c'.2.2.1 c'.2.2.2.1 (c.2.2.1+c.2.2.2.1+1)) ?istep ?ifin ⟨hS,⟨rfl,I.mg,I.la,I.lb,Nat.le_refl _⟩⟩) ?ipost)
  case ifin=>exact fun c st'' h=>⟨h.1,.go (h.2.mono (Nat.add_le_add_left (Nat.le_trans ha (Nat.le_trans (Nat.le_add_right _ _) (Nat.le_max_right _ _))) _))⟩
  case istep=>
   intro y c' st'' _ hy ⟨hS2,I'⟩
   have gx:=yJ (Nat.lt_of_succ_lt I'.la)
   have gy:=yJ I'.lb
   refine wpS_bind (zk gy.1 (wpS_bind (zk gx.1 (wpS_bind (L _ _ _ _ (mb _ gy.2.2) (ma _ gx.2.2) (hS2.kind.trans hk) ?_)))))
   refine zc (fun hlt=>wpS_bind (zk gy.1 ?_)) (fun hlt=>wpS_bind (zk gx.1 ?_))
   . have J2:=I'.mg.qg gy.2.1 fun u hu=>Int.le_trans (Int.le_of_lt (of_decide_eq_true hlt)) (xk sa gx.2.1 u hu)
     refine zc (fun e3=>wpS_pure ⟨hS2,.res _ rfl (tZ J2 (zw e3))⟩) fun e3=>?_
     have I2:LoI key a b none _ _ _ (c.2.2.1+c.2.2.2.1+(y+1)):=⟨rfl,J2,I'.la,Nat.lt_of_le_of_ne I'.lb (xK e3),Nat.succ_le_succ I'.lt⟩
     exact zc (fun _=>wpS_pure ⟨hS2,.go (I2.mono (Nat.add_le_add_left (Nat.le_add_left 1 y) _))⟩) fun _=>wpS_pure ⟨hS2,I2⟩
   . have J2:=I'.mg.pushX gx.2.1 fun u hu=>Int.le_trans (Int.not_lt.mp (of_decide_eq_false (Bool.eq_false_iff.mpr hlt))) (xk sb gy.2.1 u hu)
     refine zc (fun e3=>wpS_pure ⟨hS2,.res _ rfl (J2.rq (lastA (zw e3)) endA)⟩) fun e3=>?_
     have I2:LoI key a b none _ _ _ (c.2.2.1+c.2.2.2.1+(y+1)):=⟨rfl,J2,Nat.lt_of_le_of_ne I'.la (xK e3),I'.lb,Nat.le_trans (Nat.succ_le_succ I'.lt) (Nat.le_of_eq (Nat.add_right_comm _ _ 1))⟩
     exact zc (fun _=>wpS_pure ⟨hS2,.go (I2.mono (Nat.add_le_add_left (Nat.le_add_left 1 y) _))⟩) fun _=>wpS_pure ⟨hS2,I2⟩
  case ipost=>
   rintro ⟨c1,c'⟩ st'' ⟨hS2,hQ⟩
   cases hQ with
   |res r hr hR=>cases hr;exact wpS_pure ⟨hS2,r,rfl,hR⟩
   |go I'=>
    have hc:=I'.no
    cases hc
    refine wpS_bind (wpS_lift (wpAny_rule ⟨rfl,?_⟩))
    refine wpS_bind (wpS_mono (wpS_forRange (I:=fun y c1 st3=>Sm st st3∧LoI key a b c1.1 c1.2.1 c1.2.2.1 c1.2.2.2.1 (c.2.2.1+c.2.2.2.1+1)) (Q:=fun c1 st3=>Sm st st3∧LoQ key a b c1.1 c1.2.1 c1.2.2.1 c1.2.2.2.1 (c.2.2.1+c.2.2.2.1+1)) ?gstep (fun c st3 h=>⟨h.1,.go h.2⟩) ⟨hS2,⟨rfl,I'.mg,I'.la,I'.lb,I'.lt⟩⟩) ?gpost)
    case gpost=>
     rintro ⟨c2,c3⟩ st3 ⟨hS3,hQ⟩
     cases hQ with
     |res r hr hR=>cases hr;exact wpS_pure ⟨hS3,r,rfl,hR⟩
     |go I3=>
      have hc:=I3.no
      cases hc
      exact wpS_bind (wpS_modify (wpS_pure ⟨hS3.trans ⟨rfl,rfl,rfl,rfl⟩,⟨rfl,I3.mg,I3.la,I3.lb,Nat.le_trans (Nat.succ_le_succ I.lt) I3.lt⟩⟩))
    case gstep=>
     intro y c1 st1 _ hy ⟨Sm1,I1⟩
     have gy:=yJ I1.lb
     have la:=I1.la
     extract_lets s1 out s2 ia s3 ib s4 mg s5 ac bc ib1 jp mg1
     refine have hjp:∀g st2,Sm st st2→wpS (model prog w) A E s (jp () g) _ st2:=?_;zc (fun _=>hjp _ _ Sm1) fun _=>hjp _ _ Sm1
     intro g st0 Sm0
     refine wpS_bind (kf fun st2 Sm2=>?_)
     have Sm':=Sm0.trans Sm2
     obtain⟨k,d1,d2,d3,d4⟩:=oO (a₀:=a₀) (key:=key) (left:=false) (x:=b.getD ib (Value.none,Value.none)) (arr:=a) (base:=ia) (Nat.le_of_lt (Nat.lt_of_succ_lt la)) sa ma
     refine wpS_bind (zk gy.1 (wpS_bind (wA L (Nat.sub_pos_of_lt (Nat.lt_of_succ_lt la)) d1 d2 (mb _ gy.2.2) (Sm'.kind.trans hk) ?_)))
     clear_value jp
     dsimp -zeta only
     extract_lets ak jp2 out1 ia1
     have J1:=I1.mg.aj (k:=k) fun u hu v hv=>Int.le_trans (d3 u hu) (xk sb gy.2.1 v hv)
     have gl:c.2.2.1+c.2.2.2.1+1≤ia+ib:=I1.lt
     refine have h2:∀out ia,Mg key a.toList b.toList out ia ib→ia+1<a.size→(∀u∈a.toList.drop ia,key (b.getD ib (Value.none,Value.none))≤key u)→c.2.2.1+c.2.2.2.1+1≤ia+ib→wpS (model prog w) A E s (jp2 () out ia) _ st2:=?_
      zc (fun _=>zc (fun e=>wpS_pure ⟨Sm',.res _ rfl (J1.rq (lastA (zw e)) endA)⟩) fun e=>zc (fun e'=>wpS_pure ⟨Sm',.res _ rfl (J1.Y6 (by rw[Array.length_toList];exact Nat.le_of_eq (zw e').symm) (endA0 (zw e')))⟩) fun e'=>h2 _ _ J1 (lt2 d1 la (xK e) (xK e')) d4 (Nat.le_trans gl (Nat.add_le_add_right (Nat.le_add_right _ _) _)))
       fun hk=>h2 _ _ I1.mg la (by rw[Nat.eq_zero_of_not_pos hk]at d4;exact d4) gl
     intro out0 ia0 J la0 d5 gl0
     have J2:=J.qg gy.2.1 d5
     have gx:=yJ (Nat.lt_of_succ_lt la0)
     refine wpS_bind (zk gy.1 (zc (fun e=>wpS_pure ⟨Sm',.res _ rfl (tZ J2 (zw e))⟩) fun e=>wpS_bind (zk gx.1 ?_)))
     have lb1:ib+1<b.size:=Nat.lt_of_le_of_ne I1.lb (xK e)
     obtain⟨k1,c1,c2,c3,c4⟩:=oO (a₀:=a₀) (key:=key) (left:=true) (x:=a.getD ia0 (Value.none,Value.none)) (arr:=b) (base:=ib+1) (Nat.le_of_lt lb1) sb mb
     refine wpS_bind (wA L (Nat.sub_pos_of_lt lb1) c1 c2 (ma _ gx.2.2) (Sm'.kind.trans hk) ?_)
     clear_value jp2
     dsimp -zeta only
     extract_lets bk ia3 jp3 out3 ib3
     have J3:=J2.ao (k:=k1) fun u hu v hv=>Int.le_trans (c3 u hu) (xk sa gx.2.1 v hv)
     refine have h3:∀out ib',Mg key a.toList b.toList out ia0 ib'→ib'<b.size→(∀u∈b.toList.drop ib',key (a.getD ia0 (Value.none,Value.none))≤key u)→ib≤ib'→wpS (model prog w) A E s (jp3 () out ib') _ st2:=?_
      zc (fun _=>zc (fun e=>wpS_pure ⟨Sm',.res _ rfl (tZ J3 (zw e))⟩) fun e=>h3 _ _ J3 (lt3 c1 lb1 (xK e)) c4 (Nat.le_trans (Nat.le_succ _) (Nat.le_add_right _ _)))
       fun hk=>h3 _ _ J2 lb1 (by rw[Nat.eq_zero_of_not_pos hk]at c4;exact c4) (Nat.le_succ _)
     intro out4 ib4 J' lb4 d6 g4
     have J4:=J'.pushX gx.2.1 d6
     refine wpS_bind (zk gx.1 (zc (fun e=>wpS_pure ⟨Sm',.res _ rfl (J4.rq (lastA (zw e)) endA)⟩) fun e=>?_))
     have I4:LoI key a b none _ _ _ (c.2.2.1+c.2.2.2.1+1):=⟨rfl,J4,Nat.lt_of_le_of_ne la0 (xK e),lb4,Nat.le_trans gl0 (Nat.add_le_add (Nat.le_succ _) g4)⟩
     exact zc (fun _=>wpS_pure ⟨Sm',.go I4⟩) fun _=>wpS_pure ⟨Sm',I4⟩
end
end L2.Tim
end
section
namespace L2.Tim
open PySem PySem.W PySem.Calls PyProof PyProof.Rows
section
variable {prog:Program}{w:World}{A:Around}{E:Value→Shared→Prop}{s:Shared}{κ:SortKind}{a₀:Array Keyed}{key:Keyed→Int}
structure Mh(key:Keyed→Int)(X Y:List Keyed)(out:Array Keyed)(na nb:Nat):Prop where
 sx:Srt key (X.take na++out.toList.reverse)
 sy:Srt key (Y.take nb++out.toList.reverse)
 pm:out.toList.reverse.Perm (X.drop na++Y.drop nb)
theorem nO{o p q r:List Keyed}(h1:Srt key ((p++q)++o))(h2:Srt key (r++o))(h:∀u∈r,∀v∈q,key u≤key v):Srt key (r++(q++o)):=by
 unfold Srt at *
 rw[List.append_assoc]at h1
 rw[List.pairwise_append]at h1 h2 ⊢
 refine⟨h2.1,h1.2.1,fun a ha b hb=>?_⟩
 rcases List.mem_append.mp hb with hb|hb
 . exact h a ha b hb
 . exact h2.2.2 a ha b hb
theorem Mh.qa{X Y:List Keyed}{out out':Array Keyed}{na nb na':Nat}{mid:List Keyed}(h:Mh key X Y out na nb)(hm:X.take na=X.take na'++mid)(hd:X.drop na'=mid++X.drop na)(hle:∀u∈Y.take nb,∀v∈mid,key u≤key v)(ho:out'.toList.reverse=mid++out.toList.reverse):Mh key X Y out' na' nb:=by
 have sx:=h.sx
 rw[hm]at sx
 refine⟨?_,?_,?_⟩
 . rw[ho,←List.append_assoc];exact sx
 . rw[ho];exact nO sx h.sy hle
 . rw[ho,hd,List.append_assoc];exact h.pm.append_left _
theorem Mh.oh{X Y:List Keyed}{out out':Array Keyed}{na nb nb':Nat}{mid:List Keyed}(h:Mh key X Y out na nb)(hm:Y.take nb=Y.take nb'++mid)(hd:Y.drop nb'=mid++Y.drop nb)(hle:∀u∈X.take na,∀v∈mid,key u≤key v)(ho:out'.toList.reverse=mid++out.toList.reverse):Mh key X Y out' na nb':=by
 have sy:=h.sy
 rw[hm]at sy
 refine⟨?_,?_,?_⟩
 . rw[ho];exact nO sy h.sx hle
 . rw[ho,←List.append_assoc];exact sy
 . rw[ho,hd]
   refine(h.pm.append_left mid).trans ?_
   rw[←List.append_assoc,←List.append_assoc]
   exact List.perm_append_comm.append_right _
theorem nE{out:Array Keyed}{x:Keyed}:(out.push x).toList.reverse=[x]++out.toList.reverse:=by
 rw[Array.toList_push,List.reverse_append];rfl
theorem vi{X:List Keyed}{na:Nat}{x:Keyed}(h0:0<na)(hx:X[na-1]?=some x):X.take na=X.take (na-1)++[x]∧X.drop (na-1)=[x]++X.drop na:=by
 obtain⟨hlt,e⟩:=List.getElem?_eq_some_iff.mp hx
 refine⟨?_,?_⟩
 . have:=List.take_succ (l:=X) (i:=na-1)
   rw[show na-1+1=na by omega,hx]at this
   exact this
 . rw[List.drop_eq_getElem_cons hlt,e,show na-1+1=na by omega];rfl
theorem Mh.pushX{X Y:List Keyed}{out:Array Keyed}{na nb:Nat}{x:Keyed}(h:Mh key X Y out na nb)(h0:0<na)(hx:X[na-1]?=some x)(hle:∀u∈Y.take nb,key u≤key x):Mh key X Y (out.push x) (na-1) nb:=
 h.qa (vi h0 hx).1 (vi h0 hx).2 (fun u hu v hv=>by rw[List.mem_singleton.mp hv];exact hle u hu) nE
theorem Mh.qg{X Y:List Keyed}{out:Array Keyed}{na nb:Nat}{y:Keyed}(h:Mh key X Y out na nb)(h0:0<nb)(hy:Y[nb-1]?=some y)(hle:∀u∈X.take na,key u≤key y):Mh key X Y (out.push y) na (nb-1):=
 h.oh (vi h0 hy).1 (vi h0 hy).2 (fun u hu v hv=>by rw[List.mem_singleton.mp hv];exact hle u hu) nE
theorem lS{out a:Array Keyed}{i n:Nat}:(out++(a.extract i n).reverse).toList.reverse=(a.toList.take n).drop i++out.toList.reverse:=by
 rw[Array.toList_append,Array.toList_reverse,List.reverse_append,List.reverse_reverse,Array.toList_extract,List.extract_eq_drop_take,←List.drop_take]
theorem wK{X:List Keyed}{i n:Nat}(h:i≤n):X.take n=X.take i++(X.take n).drop i∧X.drop i=(X.take n).drop i++X.drop n:=by
 refine⟨?_,?_⟩
 . have:=(List.take_append_drop i (X.take n)).symm
   rwa [List.take_take,Nat.min_eq_left h]at this
 . have:X.drop n=(X.drop i).drop (n-i):=by rw[List.drop_drop];congr 1;omega
   rw[List.drop_take,this,List.take_append_drop]
theorem Mh.aj{a b out:Array Keyed}{na nb k:Nat}(h:Mh key a.toList b.toList out na nb)(hk:k≤na)(hle:∀u∈b.toList.take nb,∀v∈(a.toList.take na).drop k,key u≤key v):Mh key a.toList b.toList (out++(a.extract k na).reverse) k nb:=
 h.qa (wK hk).1 (wK hk).2 hle lS
theorem Mh.ao{a b out:Array Keyed}{na nb k:Nat}(h:Mh key a.toList b.toList out na nb)(hk:k≤nb)(hle:∀u∈a.toList.take na,∀v∈(b.toList.take nb).drop k,key u≤key v):Mh key a.toList b.toList (out++(b.extract k nb).reverse) na k:=
 h.oh (wK hk).1 (wK hk).2 hle lS
theorem Mh.rq{X Y:List Keyed}{out r:Array Keyed}{na nb:Nat}(h:Mh key X Y out na nb)(h0:na=0)(hr:r.toList=Y.take nb++out.toList.reverse):Res key X Y r:=by
 subst h0
 refine⟨by rw[hr];exact h.sy,?_⟩
 rw[hr]
 refine(h.pm.append_left _).trans ?_
 rw[List.drop_zero,←List.append_assoc]
 refine(List.perm_append_comm.append_right _).trans ?_
 rw[List.append_assoc,List.take_append_drop]
theorem Mh.Y7{X Y:List Keyed}{out r:Array Keyed}{na nb:Nat}(h:Mh key X Y out na nb)(h0:nb=0)(hr:r.toList=X.take na++out.toList.reverse):Res key X Y r:=by
 subst h0
 refine⟨by rw[hr];exact h.sx,?_⟩
 rw[hr]
 refine(h.pm.append_left _).trans ?_
 rw[List.drop_zero,←List.append_assoc,List.take_append_drop]
theorem Mh.tZ{X Y:List Keyed}{out r:Array Keyed}{na nb:Nat}(h:Mh key X Y out na nb)(hl:∀u∈Y.take nb,∀v∈X,key u≤key v)(hr:r.toList=Y.take nb++X.take na++out.toList.reverse):Res key X Y r:=by
 have m:=h.qa (na':=0) (mid:=X.take na) (by simp) (by rw[List.drop_zero,List.take_append_drop]) (fun u hu v hv=>hl u hu v (List.mem_of_mem_take hv)) (out':=(X.take na++out.toList.reverse).reverse.toArray) (by simp)
 refine m.rq rfl ?_
 rw[hr];simp
theorem xm{l:List Keyed}(h:Srt key l){i:Nat}{x:Keyed}(hx:l[i]?=some x):∀u∈l.take (i+1),key u≤key x:=fun u hu=>by
 obtain⟨hlt,e⟩:=List.getElem?_eq_some_iff.mp hx
 obtain⟨j,hj,rfl⟩:=List.getElem_of_mem hu
 rw[List.length_take]at hj
 rw[List.getElem_take,←e]
 by_cases hji:j=i
 . subst hji;exact Int.le_refl _
 . exact List.pairwise_iff_getElem.mp h j i (by omega) hlt (by omega)
theorem wg{a:Array Keyed}{n:Nat}:(a.extract 0 n).toList=a.toList.take n:=by
 rw[Array.toList_extract,List.extract_eq_drop_take,List.drop_zero,Nat.sub_zero]
noncomputable def oe:Array Keyed→Array Keyed→StateT SortSt Sem (Array Keyed):=sortPriv% PySem.Builtin.mergeHi
theorem le0{m n:Nat}(h:0<m):m-1+n+(0+1)≤m+n:=by omega
theorem le1{m n y t:Nat}(h:0<m)(h':m+n+y≤t):m-1+n+(y+1)≤t:=by omega
theorem le2{m n y t:Nat}(h:1<n)(h':m+n+y≤t):m+(n-1)+(y+1)≤t:=by omega
theorem le3{m t x u:Nat}(h:m+1≤t)(h':t+(x+1)≤u):m+(x+1+1)≤u:=by omega
theorem le4{m n m' n' t:Nat}(h:m'≤m)(h':n'≤n-1)(g:m+n+1≤t):m'-1+n'+1≤t:=by omega
theorem gt1{n:Nat}(h:1<n)(h':n-1≠1):1<n-1:=by omega
theorem kR{l:List Keyed}{n:Nat}{u:Keyed}(h:0<n)(hu:u∈l.take n):u∈l.take (n-1+1):=by rwa [Nat.sub_add_cancel h]
structure HiI(key:Keyed→Int)(a b:Array Keyed)(c:Option (Array Keyed))(na nb:Nat)(out:Array Keyed)(x t:Nat):Prop where
 no:c=none
 mg:Mh key a.toList b.toList out na nb
 la:0<na
 lb:1<nb
 ua:na≤a.size
 ub:nb≤b.size
 lt:na+nb+x≤t
theorem HiI.mono{a b out:Array Keyed}{c:Option (Array Keyed)}{na nb x x' t:Nat}(h:HiI key a b c na nb out x t)(k:x'≤x):HiI key a b c na nb out x' t:=⟨h.no,h.mg,h.la,h.lb,h.ua,h.ub,Nat.le_trans (Nat.add_le_add_left k _) h.lt⟩
inductive HiQ(key:Keyed→Int)(a b:Array Keyed)(c:Option (Array Keyed))(na nb:Nat)(out:Array Keyed)(x t:Nat):Prop where
 |res (r:Array Keyed) (h:c=some r) (hr:Res key a.toList b.toList r):HiQ key a b c na nb out x t
 |go (h:HiI key a b c na nb out x t):HiQ key a b c na nb out x t
theorem Wk(L:sM prog w A E s κ a₀ key){a b:Array Keyed}(ha:0<a.size)(hb:0<b.size)(ma:∀x∈a.toList,x∈a₀.toList)(mb:∀x∈b.toList,x∈a₀.toList)(sa:Srt key a.toList)(sb:Srt key b.toList)
 (h1:∀u∈a.toList,key (b.getD 0 (Value.none,Value.none))≤key u) (h2:∀u∈b.toList,key u≤key (a.getD (a.size-1) (Value.none,Value.none))) {st:SortSt} (hk:kindOf st=κ) {Q:Array Keyed→SortSt→Prop} (q:∀r st',Sm st st'→Res key a.toList b.toList r→Q r st') :
 wpS (model prog w) A E s (oe a b) Q st:=by
 have gb0:=yJ hb
 have firstB:∀{n:Nat},n≤1→∀u∈b.toList.take n,∀v∈a.toList,key u≤key v:=fun{n} hn u hu v hv=>by
  have hu:u∈b.toList.take 1:=List.mem_of_mem_take (i:=n) (by rwa [List.take_take,Nat.min_eq_left hn])
  have e:b.toList.take 1=[b.getD 0 (Value.none,Value.none)]:=by
   have:=List.take_succ (l:=b.toList) (i:=0)
   rw[gb0.2.1]at this
   exact this
  rw[e,List.mem_singleton]at hu
  rw[hu];exact h1 v hv
 have endA:∀{out:Array Keyed} {n m:Nat},n=0→(a.extract 0 n++b.extract 0 m++out.reverse).toList=b.toList.take m++out.toList.reverse:=fun{out n m} hn=>by
  subst hn
  rw[Array.toList_append,Array.toList_append,wg,wg,Array.toList_reverse,List.take_zero,List.nil_append]
 have endZ:∀{out:Array Keyed} {n m:Nat},m=0→(a.extract 0 n++b.extract 0 m++out.reverse).toList=a.toList.take n++out.toList.reverse:=fun{out n m} hn=>by
  subst hn
  rw[Array.toList_append,Array.toList_append,wg,wg,Array.toList_reverse,List.take_zero,List.append_nil]
 have endF:∀{out:Array Keyed} {n m:Nat},(b.extract 0 m++a.extract 0 n++out.reverse).toList=b.toList.take m++a.toList.take n++out.toList.reverse:=fun{out n m}=>by
  rw[Array.toList_append,Array.toList_append,wg,wg,Array.toList_reverse]
 have ga0:=yJ (show a.size-1<a.size by omega)
 have J0:Mh key a.toList b.toList #[a.getD (a.size-1) (Value.none,Value.none)] (a.size-1) b.size:=by
  have:Mh key a.toList b.toList #[] a.size b.size:=by
   have ea:a.toList.take a.size=a.toList:=List.take_of_length_le (by rw[Array.length_toList];exact Nat.le_refl _)
   have eb:b.toList.take b.size=b.toList:=List.take_of_length_le (by rw[Array.length_toList];exact Nat.le_refl _)
   refine⟨?_,?_,?_⟩
   . rw[ea];simpa using sa
   . rw[eb];simpa using sb
   . rw[List.drop_of_length_le (by rw[Array.length_toList];exact Nat.le_refl _),List.drop_of_length_le (by rw[Array.length_toList];exact Nat.le_refl _)];exact .refl _
  exact this.pushX ha ga0.2.1 fun u hu=>h2 u (List.mem_of_mem_take hu)
 unfold oe
 refine wpS_bind (wpS_lift (wpAny_rule ⟨rfl,?_⟩))
 refine wpS_bind (zk ga0.1 ?_)
 refine zc (fun e1=>wpS_pure (q _ _ .refl (J0.rq (zw e1) (endA (zw e1))))) fun e1=>?_
 refine zc (fun e2=>wpS_pure (q _ _ .refl (J0.tZ (firstB (Nat.le_of_eq (zw e2))) endF))) fun e2=>?_
 refine wpS_bind (wpS_get ?_)
 refine wpS_bind (wpS_mono (wpS_forRange (I:=fun x c st'=>Sm st st'∧HiI key a b c.1 c.2.1 c.2.2.1 c.2.2.2.1 (x+1) (a.size+b.size)) (Q:=fun c st'=>Sm st st'∧∃r,c.1=some r∧Res key a.toList b.toList r) ?step ?fin ⟨.refl,⟨rfl,J0,Nat.pos_of_ne_zero (xK e1),Nat.lt_of_le_of_ne hb (xK e2).symm,Nat.sub_le _ _,Nat.le_refl _,le0 ha⟩⟩) ?post)
 case fin=>
  intro c st' h
  have h3:=h.2.lt
  omega
 case post=>
  rintro ⟨c1,c⟩ st' ⟨hS,r,hr,hR⟩
  cases hr
  exact wpS_pure (q r _ hS hR)
 case step=>
  intro x c st' _ hx ⟨hS,I⟩
  refine wpS_bind (wpS_mono (wpS_forRange (I:=fun y c' st''=>Sm st st''∧HiI key a b c'.1 c'.2.1 c'.2.2.1 c'.2.2.2.1 y (c.2.1+c.2.2.1)) (Q:=fun c' st''=>Sm st st''∧HiQ key a b c'.1 c'.2.1 c'.2.2.1 c'.2.2.2.1 1 (c.2.1+c.2.2.1)) ?istep ?ifin ⟨hS,⟨rfl,I.mg,I.la,I.lb,I.ua,I.ub,Nat.le_refl _⟩⟩) ?ipost)
  case ifin=>exact fun c st'' h=>⟨h.1,.go (h.2.mono (Nat.le_trans ha (Nat.le_trans (Nat.le_add_right _ _) (Nat.le_max_right _ _))))⟩
  case istep=>
   intro y c' st'' _ hy ⟨hS2,I'⟩
   have gx:=yJ (Nat.lt_of_lt_of_le (Nat.sub_lt I'.la Nat.one_pos) I'.ua)
   have gy:=yJ (Nat.lt_of_lt_of_le (Nat.sub_lt (Nat.lt_of_succ_lt I'.lb) Nat.one_pos) I'.ub)
   refine wpS_bind (zk gy.1 (wpS_bind (zk gx.1 (wpS_bind (L _ _ _ _ (mb _ gy.2.2) (ma _ gx.2.2) (hS2.kind.trans hk) ?_)))))
   refine zc (fun hlt=>wpS_bind (zk gx.1 ?_)) (fun hlt=>wpS_bind (zk gy.1 ?_))
   . have J2:=I'.mg.pushX I'.la gx.2.1 fun u hu=>Int.le_trans (xm sb gy.2.1 u (kR (Nat.lt_of_succ_lt I'.lb) hu)) (Int.le_of_lt (of_decide_eq_true hlt))
     refine zc (fun e3=>wpS_pure ⟨hS2,.res _ rfl (J2.rq (zw e3) (endA (zw e3)))⟩) fun e3=>?_
     have I2:HiI key a b none _ _ _ (y+1) (c.2.1+c.2.2.1):=⟨rfl,J2,Nat.pos_of_ne_zero (xK e3),I'.lb,Nat.le_trans (Nat.sub_le _ _) I'.ua,I'.ub,le1 I'.la I'.lt⟩
     exact zc (fun _=>wpS_pure ⟨hS2,.go (I2.mono (Nat.le_add_left 1 y))⟩) fun _=>wpS_pure ⟨hS2,I2⟩
   . have J2:=I'.mg.qg (Nat.lt_of_succ_lt I'.lb) gy.2.1 fun u hu=>Int.le_trans (xm sa gx.2.1 u (kR I'.la hu)) (Int.not_lt.mp (of_decide_eq_false (Bool.eq_false_iff.mpr hlt)))
     refine zc (fun e3=>wpS_pure ⟨hS2,.res _ rfl (J2.tZ (firstB (Nat.le_of_eq (zw e3))) endF)⟩) fun e3=>?_
     have I2:HiI key a b none _ _ _ (y+1) (c.2.1+c.2.2.1):=⟨rfl,J2,I'.la,gt1 I'.lb (xK e3),I'.ua,Nat.le_trans (Nat.sub_le _ _) I'.ub,le2 I'.lb I'.lt⟩
     exact zc (fun _=>wpS_pure ⟨hS2,.go (I2.mono (Nat.le_add_left 1 y))⟩) fun _=>wpS_pure ⟨hS2,I2⟩
  case ipost=>
   rintro ⟨c1,c'⟩ st'' ⟨hS2,hQ⟩
   cases hQ with
   |res r hr hR=>cases hr;exact wpS_pure ⟨hS2,r,rfl,hR⟩
   |go I'=>
    have hc:=I'.no
    cases hc
    refine wpS_bind (wpS_lift (wpAny_rule ⟨rfl,?_⟩))
    refine wpS_bind (wpS_mono (wpS_forRange (I:=fun y c1 st3=>Sm st st3∧HiI key a b c1.1 c1.2.1 c1.2.2.1 c1.2.2.2.1 1 (c.2.1+c.2.2.1)) (Q:=fun c1 st3=>Sm st st3∧HiQ key a b c1.1 c1.2.1 c1.2.2.1 c1.2.2.2.1 1 (c.2.1+c.2.2.1)) ?gstep (fun c st3 h=>⟨h.1,.go h.2⟩) ⟨hS2,⟨rfl,I'.mg,I'.la,I'.lb,I'.ua,I'.ub,I'.lt⟩⟩) ?gpost)
    case gpost=>
     rintro ⟨c2,c3⟩ st3 ⟨hS3,hQ⟩
     cases hQ with
     |res r hr hR=>cases hr;exact wpS_pure ⟨hS3,r,rfl,hR⟩
     |go I3=>
      have hc:=I3.no
      cases hc
      exact wpS_bind (wpS_modify (wpS_pure ⟨hS3.trans ⟨rfl,rfl,rfl,rfl⟩,⟨rfl,I3.mg,I3.la,I3.lb,I3.ua,I3.ub,le3 I3.lt I.lt⟩⟩))
    case gstep=>
     intro y c1 st1 _ hy ⟨Sm1,I1⟩
     have gy:=yJ (Nat.lt_of_lt_of_le (Nat.sub_lt (Nat.lt_of_succ_lt I1.lb) Nat.one_pos) I1.ub)
     extract_lets s1 na s2 nb s3 out s4 mg s5 ac bc nb1 jp mg1
     have gl:na+nb+1≤c.2.1+c.2.2.1:=I1.lt
     have la:0<na:=I1.la
     have lb:0<nb:=Nat.lt_of_succ_lt I1.lb
     have ua:na≤a.size:=I1.ua
     refine have hjp:∀g st2,Sm st st2→wpS (model prog w) A E s (jp () g) _ st2:=?_;zc (fun _=>hjp _ _ Sm1) fun _=>hjp _ _ Sm1
     intro g st0 Sm0
     refine wpS_bind (kf fun st2 Sm2=>?_)
     have Sm':=Sm0.trans Sm2
     obtain⟨k,d1,d2,d3,d4⟩:=uK (a₀:=a₀) (key:=key) (left:=false) (x:=b.getD (nb-1) (Value.none,Value.none)) (arr:=a) (base:=0) (n:=na) (Nat.le_trans (Nat.le_of_eq (Nat.zero_add _)) ua) (sa.sublist (List.take_sublist _ _)) (fun u hu=>ma u (List.mem_of_mem_take hu))
     refine wpS_bind (zk gy.1 (wpS_bind (wA L (Nat.sub_lt la Nat.one_pos) d1 d2 (mb _ gy.2.2) (Sm'.kind.trans hk) ?_)))
     clear_value jp
     dsimp -zeta only
     extract_lets kk ak jp2 out1 na1
     have J1:=I1.mg.aj d1 fun u hu v hv=>Int.le_trans (xm sb gy.2.1 u (kR lb hu)) (d4 v hv)
     refine have h2:∀na' out,Mh key a.toList b.toList out na' nb→0<na'→(∀u∈a.toList.take na',key u≤key (b.getD (nb-1) (Value.none,Value.none)))→na'≤na→wpS (model prog w) A E s (jp2 () na' out) _ st2:=?_
      zc (fun _=>zc (fun e=>wpS_pure ⟨Sm',.res _ rfl (J1.rq (zw e) (endA (zw e)))⟩) fun e=>h2 _ _ J1 (Nat.pos_of_ne_zero (xK e)) d3 d1)
       fun hk=>h2 _ _ I1.mg la (Nat.le_antisymm d1 (Nat.le_of_sub_eq_zero (Nat.eq_zero_of_not_pos hk))▸d3) (Nat.le_refl _)
     intro na0 out0 J la0 d5 g0
     have J2:=J.qg lb gy.2.1 d5
     have gx:=yJ (Nat.lt_of_lt_of_le (Nat.sub_lt la0 Nat.one_pos) (Nat.le_trans g0 ua))
     refine wpS_bind (zk gy.1 (zc (fun e=>wpS_pure ⟨Sm',.res _ rfl (J2.tZ (firstB (Nat.le_of_eq (zw e))) endF)⟩) fun e=>wpS_bind (zk gx.1 ?_)))
     have lb1:1<nb-1:=gt1 I1.lb (xK e)
     have ub1:nb-1≤b.size:=Nat.le_trans (Nat.sub_le _ _) I1.ub
     obtain⟨k1,c1,c2,c3,c4⟩:=uK (a₀:=a₀) (key:=key) (left:=true) (x:=a.getD (na0-1) (Value.none,Value.none)) (arr:=b) (base:=0) (n:=nb-1) (Nat.le_trans (Nat.le_of_eq (Nat.zero_add _)) ub1) (sb.sublist (List.take_sublist _ _)) (fun u hu=>mb u (List.mem_of_mem_take hu))
     refine wpS_bind (wA L (Nat.sub_lt (Nat.lt_of_succ_lt lb1) Nat.one_pos) c1 c2 (ma _ gx.2.2) (Sm'.kind.trans hk) ?_)
     clear_value jp2
     dsimp -zeta only
     extract_lets kk1 bk na3 jp3 out3 nb3
     have J3:=J2.ao c1 fun u hu v hv=>Int.le_trans (xm sa gx.2.1 u (kR la0 hu)) (c4 v hv)
     refine have h3:∀nb' out,Mh key a.toList b.toList out na0 nb'→1<nb'→(∀u∈b.toList.take nb',key u≤key (a.getD (na0-1) (Value.none,Value.none)))→nb'≤nb-1→wpS (model prog w) A E s (jp3 () nb' out) _ st2:=?_
      zc (fun _=>zc (fun e=>wpS_pure ⟨Sm',.res _ rfl (J3.tZ (firstB (Nat.le_of_eq (zw e))) endF)⟩) fun e=>zc (fun e'=>wpS_pure ⟨Sm',.res _ rfl (J3.Y7 (zw e') (endZ (zw e')))⟩) fun e'=>h3 _ _ J3 (Nat.lt_of_le_of_ne (Nat.pos_of_ne_zero (xK e')) (xK e).symm) c3 c1)
       fun hk=>h3 _ _ J2 lb1 ((congrArg (fun n=>∀u∈b.toList.take n,key u≤key (a.getD (na0-1) (Value.none,Value.none))) (Nat.le_antisymm c1 (Nat.le_of_sub_eq_zero (Nat.eq_zero_of_not_pos hk)))).mp c3) (Nat.le_refl _)
     intro nb4 out4 J' lb4 d6 g4
     have J4:=J'.pushX la0 gx.2.1 d6
     refine wpS_bind (zk gx.1 (zc (fun e=>wpS_pure ⟨Sm',.res _ rfl (J4.rq (zw e) (endA (zw e)))⟩) fun e=>?_))
     have I4:HiI key a b none _ _ _ 1 (c.2.1+c.2.2.1):=⟨rfl,J4,Nat.pos_of_ne_zero (xK e),lb4,Nat.le_trans (Nat.sub_le _ _) (Nat.le_trans g0 ua),Nat.le_trans g4 ub1,le4 g0 g4 gl⟩
     exact zc (fun _=>wpS_pure ⟨Sm',.go I4⟩) fun _=>wpS_pure ⟨Sm',I4⟩
end
end L2.Tim
end
section
namespace L2.Tim
open PySem PySem.W PySem.Calls PyProof PyProof.Rows
section
variable {prog:Program}{w:World}{A:Around}{E:Value→Shared→Prop}{s:Shared}{κ:SortKind}{a₀:Array Keyed}{key:Keyed→Int}
theorem bZ{σ:Type}{M:Model}{x:σ}{Q:PUnit→σ→Prop}{st:σ}(h:Q ⟨⟩ x):wpS M A E s (set x:StateT σ Sem PUnit) Q st:=by
 unfold wpS;rw[StateT.run_set];exact wpAny_pure ⟨rfl,h⟩
theorem pR{a:Array Keyed}{i:Nat}(h:i<a.size):kk key a i=key (a.toList[i]'(by rw[Array.length_toList];exact h)):=by
 unfold kk
 congr 1
 simp[Array.getD,h]
theorem x9{a:Array Keyed}{lo n:Nat}(h:lo+n≤a.size):((a.toList.drop lo).take n).length=n:=by rw[List.length_take,List.length_drop,Array.length_toList];omega
theorem eF{a:Array Keyed}{lo n:Nat}(h:lo+n≤a.size)(hs:SIn key a lo n):Srt key ((a.toList.drop lo).take n):=by
 unfold Srt
 rw[List.pairwise_iff_getElem]
 intro i j hi hj hij
 rw[x9 h]at hi hj
 have e1:=pR (key:=key) (a:=a) (i:=lo+i) (by omega)
 have e2:=pR (key:=key) (a:=a) (i:=lo+j) (by omega)
 rw[List.getElem_take,List.getElem_drop,List.getElem_take,List.getElem_drop,←e1,←e2]
 exact hs i j (by omega) hj
theorem gk{a:Array Keyed}{lo n:Nat}(h:lo+n≤a.size)(hs:Srt key ((a.toList.drop lo).take n)):SIn key a lo n:=fun i j hij hj=>by
 by_cases e:i=j
 . subst e;exact Int.le_refl _
 . have:=List.pairwise_iff_getElem.mp hs i j (by rw[x9 h];omega) (by rw[x9 h];omega) (by omega)
   have e1:=pR (key:=key) (a:=a) (i:=lo+i) (by omega)
   have e2:=pR (key:=key) (a:=a) (i:=lo+j) (by omega)
   rw[List.getElem_take,List.getElem_drop,List.getElem_take,List.getElem_drop,←e1,←e2]at this
   exact this
theorem nG(o:Nat):∀(m:List Keyed) (j:Nat) (a:Array Keyed),o+j+m.length≤a.size→((m.zipIdx j).foldl (fun a p=>a.setIfInBounds (o+p.2) p.1) a).toList=a.toList.take (o+j)++m++a.toList.drop (o+j+m.length)
 |[],j,a,_=>by simp
 |x::t,j,a,h=>by
  rw[List.length_cons]at h
  rw[List.zipIdx_cons,List.foldl_cons,nG o t (j+1) _ (by rw[Array.size_setIfInBounds];omega)]
  have hl:o+j<a.toList.length:=by rw[Array.length_toList];omega
  show ((a.setIfInBounds (o+j) x).toList.take (o+(j+1))++t)++_=_
  rw[Array.toList_setIfInBounds]
  have e1:(a.toList.set (o+j) x).take (o+(j+1))=a.toList.take (o+j)++[x]:=by
   rw[show o+(j+1)=(o+j)+1 by omega,List.take_succ,List.take_set_of_le (Nat.le_refl _),List.getElem?_set_self hl];rfl
  have e2:(a.toList.set (o+j) x).drop (o+(j+1)+t.length)=a.toList.drop (o+j+(x::t).length):=by
   rw[List.drop_set_of_lt (by omega),List.length_cons];congr 1;omega
  rw[e1,e2,List.append_assoc,List.append_assoc,List.append_assoc];rfl
theorem eH{a a':Array Keyed}{sa n:Nat}{M:List Keyed}(hz:sa+n≤a.size)(hM:M.Perm ((a.toList.drop sa).take n))(e:a'.toList=a.toList.take sa++M++a.toList.drop (sa+n)):a'.Perm a∧(a'.toList.drop sa).take n=M∧∀j,j<sa∨sa+n≤j→a'[j]?=a[j]?:=by
 have hl:M.length=n:=by rw[hM.length_eq,x9 hz]
 have ht:(a.toList.take sa).length=sa:=by rw[List.length_take,Array.length_toList];omega
 refine⟨?_,?_,fun j hj=>?_⟩
 . rw[Array.perm_iff_toList_perm,e]
   have e2:a.toList=a.toList.take sa++(a.toList.drop sa).take n++a.toList.drop (sa+n):=by
    rw[List.append_assoc,←vz,List.take_append_drop]
   refine List.Perm.trans ?_ (.of_eq e2.symm)
   exact(hM.append_left _).append_right _
 . rw[e,List.append_assoc,List.drop_append_of_le_length (by omega),List.drop_of_length_le (by omega),List.nil_append,List.take_append_of_le_length (by omega),List.take_of_length_le (by omega)]
 . rw[←Array.getElem?_toList,←Array.getElem?_toList,e,List.append_assoc]
   rcases hj with hj|hj
   . rw[List.getElem?_append_left (by omega),List.getElem?_take_of_lt hj]
   . rw[List.getElem?_append_right (by omega),List.getElem?_append_right (by omega),List.getElem?_drop]
     congr 1;omega
theorem p8{l m:List Keyed}(h1:Srt key l)(h2:Srt key m)(h:∀u∈l,∀v∈m,key u≤key v):Srt key (l++m):=List.pairwise_append.mpr ⟨h1,h2,h⟩
theorem mK(L:sM prog w A E s κ a₀ key){st:SortSt}{i sa na sb nb p1 p2:Nat}{Q:Bool→SortSt→Prop}(hB:Bs κ a₀ st)(h1:(pendingOf st)[i]?=some (sa,na,p1))(h2:(pendingOf st)[i+1]?=some (sb,nb,p2))(hs:sb=sa+na)(ha:0<na)(hb:0<nb)(hz:sb+nb≤a₀.size)(sA:SIn key (arrOf st) sa na)(sB:SIn key (arrOf st) sb nb)
 (h:∀st',Bs κ a₀ st'→pendingOf st'=((pendingOf st).setIfInBounds i (sa,na+nb,p1)).eraseIdxIfInBounds (i+1)→SIn key (arrOf st') sa (na+nb)→(∀j,j<sa∨sa+(na+nb)≤j→(arrOf st')[j]?=(arrOf st)[j]?)→Q true st') :
 wpS (model prog w) A E s (mergeAt' i) Q st:=by
 subst hs
 have hsz:=hB.size
 have mem:∀x∈(arrOf st).toList,x∈a₀.toList:=fun x hx=>(Array.perm_iff_toList_perm.mp hB.perm).mem_iff.mp hx
 have hkd:=hB.kind
 have hfl:=hB.fail
 have hpm:=hB.perm
 cases st with
 |mk kd a pd mg fl=>
 dsimp only[arrOf,pendingOf,PyProof.Rows.kindOf,failedOf]at *
 have srA:=eF (by omega) sA
 have srB:=eF (by omega) sB
 have gb:=yJ (a:=a) (i:=sa+na) (by omega)
 have gl:=yJ (a:=a) (i:=sa+na-1) (by omega)
 obtain⟨k,d1,d2,d3,d4⟩:=uK (a₀:=a₀) (key:=key) (left:=false) (x:=a.getD (sa+na) (Value.none,Value.none)) (arr:=a) (base:=sa) (n:=na) (by omega) srA (fun u hu=>mem u (List.mem_of_mem_drop (List.mem_of_mem_take hu)))
 obtain⟨k1,c1,c2,c3,c4⟩:=uK (a₀:=a₀) (key:=key) (left:=true) (x:=a.getD (sa+na-1) (Value.none,Value.none)) (arr:=a) (base:=sa+na) (n:=nb) (by omega) srB (fun u hu=>mem u (List.mem_of_mem_drop (List.mem_of_mem_take hu)))
 -- the two runs as lists
 have hAB:(a.toList.drop sa).take (na+nb)=(a.toList.drop sa).take na++(a.toList.drop (sa+na)).take nb:=by rw[List.take_add,List.drop_drop]
 have fst:∀u∈(a.toList.drop (sa+na)).take nb,key (a.getD (sa+na) (Value.none,Value.none))≤key u:=fun u hu=>by
  have e0:((a.toList.drop (sa+na)).take nb)[0]?=some (a.getD (sa+na) (Value.none,Value.none)):=by rw[List.getElem?_take_of_lt hb,List.getElem?_drop,Nat.add_zero];exact gb.2.1
  exact xk srB e0 u hu
 have lst:∀u∈(a.toList.drop sa).take na,key u≤key (a.getD (sa+na-1) (Value.none,Value.none)):=fun u hu=>by
  have e0:((a.toList.drop sa).take na)[na-1]?=some (a.getD (sa+na-1) (Value.none,Value.none)):=by rw[List.getElem?_take_of_lt (by omega),List.getElem?_drop,show sa+(na-1)=sa+na-1 by omega];exact gl.2.1
  exact xm srA e0 u (by rw[show na-1+1=na by omega,List.take_take,Nat.min_self];exact hu)
 have whole:(∀u∈(a.toList.drop sa).take na,∀v∈(a.toList.drop (sa+na)).take nb,key u≤key v)→SIn key a sa (na+nb):=fun hh=>gk (by omega) (by rw[hAB];exact p8 srA srB hh)
 unfold mergeAt'
 refine wpS_bind (wpS_get ?_)
 dsimp only
 rw[h1,h2]
 dsimp only
 refine wpS_bind (bZ ?_)
 refine wpS_bind (zk gb.1 (wpS_bind (wA L ha d1 d2 (mem _ gb.2.2) hkd ?_)))
 dsimp only
 by_cases e1:na-k=0
 . rw[if_pos (by simpa using e1)]
   refine wpS_pure (h _ ⟨hkd,hpm,hfl⟩ rfl (whole fun u hu v hv=>?_) fun j _=>rfl)
   rw[show na=k by omega]at hu
   exact Int.le_trans (d3 u hu) (fst v hv)
 . rw[if_neg (by simpa using e1)]
   rw[show sa+k+(na-k)-1=sa+na-1 by omega]
   refine wpS_bind (zk gl.1 (wpS_bind (wA L (show nb-1<nb by omega) c1 c2 (mem _ gl.2.2) hkd ?_)))
   dsimp only
   by_cases e2:k1=0
   . rw[if_pos (by simpa using e2)]
     refine wpS_pure (h _ ⟨hkd,hpm,hfl⟩ rfl (whole fun u hu v hv=>?_) fun j _=>rfl)
     rw[e2,List.drop_zero]at c4
     exact Int.le_trans (lst u hu) (c4 v hv)
   . rw[if_neg (by simpa using e2)]
     have ex:(a.extract (sa+k) (sa+na)).toList=((a.toList.drop sa).take na).drop k:=by
      rw[Array.toList_extract,List.extract_eq_drop_take,List.drop_take,List.drop_drop,show sa+na-(sa+k)=na-k by omega]
     have ey:(a.extract (sa+na) (sa+na+k1)).toList=(a.toList.drop (sa+na)).take k1:=pL
     have eyy:(a.toList.drop (sa+na)).take k1=((a.toList.drop (sa+na)).take nb).take k1:=by rw[List.take_take,Nat.min_eq_left c1]
     have lx:(a.extract (sa+k) (sa+na)).size=na-k:=by rw[←Array.length_toList,ex,List.length_drop,x9 (by omega)]
     have ly:(a.extract (sa+na) (sa+na+k1)).size=k1:=by rw[←Array.length_toList,ey,x9 (by omega)]
     have y0:(a.extract (sa+na) (sa+na+k1)).getD 0 (Value.none,Value.none)=a.getD (sa+na) (Value.none,Value.none):=by
      have:=(yJ (a:=a.extract (sa+na) (sa+na+k1)) (i:=0) (by omega)).2.1
      rw[ey,List.getElem?_take_of_lt (by omega),List.getElem?_drop,Nat.add_zero,gb.2.1]at this
      exact(Option.some.inj this).symm
     have xl:(a.extract (sa+k) (sa+na)).getD ((a.extract (sa+k) (sa+na)).size-1) (Value.none,Value.none)=a.getD (sa+na-1) (Value.none,Value.none):=by
      have:=(yJ (a:=a.extract (sa+k) (sa+na)) (i:=(a.extract (sa+k) (sa+na)).size-1) (by omega)).2.1
      rw[lx]at this ⊢
      rw[ex,List.getElem?_drop,List.getElem?_take_of_lt (by omega),List.getElem?_drop,show sa+(k+(na-k-1))=sa+na-1 by omega,gl.2.1]at this
      exact(Option.some.inj this).symm
     have fin:∀(r:Array Keyed) (st2:SortSt),Sm (SortSt.mk' kd a ((pd.setIfInBounds i (sa,na+nb,p1)).eraseIdxIfInBounds (i+1)) mg fl) st2→Res key (a.extract (sa+k) (sa+na)).toList (a.extract (sa+na) (sa+na+k1)).toList r →
      Q (failedOf st2).isNone (SortSt.mk' (PyProof.Rows.kindOf st2) (r.toList.zipIdx.foldl (fun a p=>a.setIfInBounds (sa+k+p.2) p.1) (arrOf st2)) (pendingOf st2) (gallopOf st2) (failedOf st2)):=fun r st2 S R=>by
      have f1:=S.fail
      have f2:=S.arr
      have f3:=S.pend
      have f4:=S.kind
      dsimp only[arrOf,pendingOf,PyProof.Rows.kindOf,failedOf]at f1 f2 f3 f4
      have hrl:r.toList.length=na-k+k1:=by rw[R.perm.length_eq,List.length_append,Array.length_toList,Array.length_toList,lx,ly]
      have pl:=nG (sa+k) r.toList 0 a (by omega)
      rw[Nat.add_zero,hrl,show sa+k+(na-k+k1)=sa+na+k1 by omega]at pl
      have sp:a.toList.take (sa+k)=a.toList.take sa++(a.toList.drop sa).take k:=List.take_add
      have sq:a.toList.drop (sa+na+k1)=((a.toList.drop (sa+na)).take nb).drop k1++a.toList.drop (sa+(na+nb)):=by
       have:=(wK (X:=a.toList.drop (sa+na)) c1).2
       rw[List.drop_drop,List.drop_drop]at this
       rw[this];congr 2;omega
      rw[sp,sq]at pl
      have pl2:(r.toList.zipIdx.foldl (fun a p=>a.setIfInBounds (sa+k+p.2) p.1) a).toList=a.toList.take sa++((a.toList.drop sa).take k++r.toList++((a.toList.drop (sa+na)).take nb).drop k1)++a.toList.drop (sa+(na+nb)):=by
       rw[pl];simp only[List.append_assoc]
      have rp:=R.perm
      rw[ex,ey,eyy]at rp
      have ekk:(a.toList.drop sa).take k=((a.toList.drop sa).take na).take k:=by rw[List.take_take,Nat.min_eq_left d1]
      have hMp:((a.toList.drop sa).take k++r.toList++((a.toList.drop (sa+na)).take nb).drop k1).Perm ((a.toList.drop sa).take (na+nb)):=by
       rw[hAB]
       refine((rp.append_left _).append_right _).trans ?_
       rw[ekk,←List.append_assoc,List.take_append_drop,List.append_assoc,List.take_append_drop]
      obtain⟨w1,w2,w3⟩:=eH (n:=na+nb) (by omega) hMp pl2
      have hsrt:Srt key ((a.toList.drop sa).take k++r.toList++((a.toList.drop (sa+na)).take nb).drop k1):=by
       have inr:∀u∈r.toList,u∈((a.toList.drop sa).take na).drop k∨u∈((a.toList.drop (sa+na)).take nb).take k1:=fun u hu=>List.mem_append.mp (rp.mem_iff.mp hu)
       refine p8 (p8 (by rw[ekk];exact srA.sublist (List.take_sublist _ _)) R.srt fun u hu v hv=>?_) (srB.sublist (List.drop_sublist _ _)) fun u hu v hv=>?_
       . rcases inr v hv with hv|hv
         . exact Int.le_trans (d3 u hu) (d4 v hv)
         . exact Int.le_trans (d3 u hu) (fst v (List.mem_of_mem_take hv))
       . rcases List.mem_append.mp hu with hu|hu
         . exact Int.le_trans (d3 u hu) (fst v (List.mem_of_mem_drop hv))
         . rcases inr u hu with hu|hu
           . exact Int.le_trans (lst u (List.mem_of_mem_drop hu)) (c4 v hv)
           . rw[←eyy]at hu
             exact Int.le_trans (c3 u hu) (c4 v hv)
      have f0:failedOf st2=none:=f1.trans hfl
      have q0:(failedOf st2).isNone=true:=by rw[f0];rfl
      rw[q0]
      refine h _ ⟨f4.trans hkd,?_,f0⟩ f3 ?_ ?_
      . show (r.toList.zipIdx.foldl _ (arrOf st2)).Perm a₀
        rw[show arrOf st2=a from f2]
        exact w1.trans hpm
      . show SIn key (r.toList.zipIdx.foldl _ (arrOf st2)) sa (na+nb)
        rw[show arrOf st2=a from f2]
        exact gk (by rw[w1.size_eq];omega) (by rw[w2];exact hsrt)
      . show ∀j,_→(r.toList.zipIdx.foldl _ (arrOf st2))[j]?=_
        rw[show arrOf st2=a from f2]
        exact w3
     have mx:∀x∈(a.extract (sa+k) (sa+na)).toList,x∈a₀.toList:=fun x hx=>mem x (by rw[ex]at hx;exact List.mem_of_mem_drop (List.mem_of_mem_take (List.mem_of_mem_drop hx)))
     have my:∀x∈(a.extract (sa+na) (sa+na+k1)).toList,x∈a₀.toList:=fun x hx=>mem x (by rw[ey]at hx;exact List.mem_of_mem_drop (List.mem_of_mem_take hx))
     have sx:Srt key (a.extract (sa+k) (sa+na)).toList:=by rw[ex];exact srA.sublist (List.drop_sublist _ _)
     have sy:Srt key (a.extract (sa+na) (sa+na+k1)).toList:=by rw[ey,eyy];exact srB.sublist (List.take_sublist _ _)
     have hx1:∀u∈(a.extract (sa+k) (sa+na)).toList,key ((a.extract (sa+na) (sa+na+k1)).getD 0 (Value.none,Value.none))≤key u:=by
      rw[y0,ex];exact d4
     have hy1:∀u∈(a.extract (sa+na) (sa+na+k1)).toList,key u≤key ((a.extract (sa+k) (sa+na)).getD ((a.extract (sa+k) (sa+na)).size-1) (Value.none,Value.none)):=by
      rw[xl,ey];exact c3
     refine zc (fun _=>?_) fun _=>?_
     . exact wpS_bind (Wl L (by omega) (by omega) mx my sx sy hx1 hy1 hkd fun r st2 S R=>wpS_bind (wpS_modify (wpS_bind (wpS_get (wpS_pure (fin r st2 S R))))))
     . exact wpS_bind (Wk L (by omega) (by omega) mx my sx sy hx1 hy1 hkd fun r st2 S R=>wpS_bind (wpS_modify (wpS_bind (wpS_get (wpS_pure (fin r st2 S R))))))
end
end L2.Tim
end
section
namespace L2.Tim
open PySem PySem.W PySem.Calls PyProof PyProof.Rows
section
variable {prog:Program}{w:World}{A:Around}{E:Value→Shared→Prop}{s:Shared}{κ:SortKind}{a₀:Array Keyed}{key:Keyed→Int}
noncomputable def Runs(key:Keyed→Int)(a:Array Keyed):Nat→List (Nat × Nat × Nat)→Nat→Prop
 |st,[],fin=>st=fin
 |st,(x,n,_)::r,fin=>x=st∧0<n∧SIn key a x n∧Runs key a (st+n) r fin
theorem ui{a:Array Keyed}:∀{l r:List (Nat × Nat × Nat)} {st fin:Nat},Runs key a st (l++r) fin↔∃m,Runs key a st l m∧Runs key a m r fin
 |[],r,st,fin=>⟨fun h=>⟨st,rfl,h⟩,fun⟨m,h1,h2⟩=>by cases h1;exact h2⟩
 |(x,n,p)::l,r,st,fin=>by
  show (x=st∧0<n∧SIn key a x n∧Runs key a (st+n) (l++r) fin)↔_
  rw[ui (l:=l)]
  exact⟨fun⟨h1,h2,h3,m,h4,h5⟩=>⟨m,⟨h1,h2,h3,h4⟩,h5⟩,fun⟨m,⟨h1,h2,h3,h4⟩,h5⟩=>⟨h1,h2,h3,m,h4,h5⟩⟩
theorem uj{a:Array Keyed}:∀{l:List (Nat × Nat × Nat)} {st fin:Nat},Runs key a st l fin→st+l.length≤fin
 |[],st,fin,h=>by cases h;exact Nat.le_refl _
 |(x,n,p)::l,st,fin,h=>by
  have:=uj h.2.2.2
  have:=h.2.1
  rw[List.length_cons];omega
theorem wG{a b:Array Keyed}:∀{l:List (Nat × Nat × Nat)} {st fin:Nat},(∀j,st≤j→j<fin→b[j]?=a[j]?)→Runs key a st l fin→Runs key b st l fin
 |[],st,fin,_,h=>h
 |(x,n,p)::l,st,fin,hc,h=>by
  have hl:=uj h.2.2.2
  refine⟨h.1,h.2.1,fun i j hij hj=>?_,wG (fun j h1 h2=>hc j (by omega) h2) h.2.2.2⟩
  have hx:=h.1
  rw[xE (hc (x+i) (by omega) (by omega)),xE (hc (x+j) (by omega) (by omega))]
  exact h.2.2.1 i j hij hj
structure Rn(κ:SortKind)(a₀:Array Keyed)(key:Keyed→Int)(lo:Nat)(st:SortSt):Prop where
 bs:Bs κ a₀ st
 runs:Runs key (arrOf st) 0 (pendingOf st).toList lo
theorem qk{a b:Array Keyed}{lo n:Nat}(h:∀j,lo≤j→b[j]?=a[j]?)(hs:SIn key a lo n):SIn key b lo n:=fun i j hij hj=>by
 rw[xE (h (lo+i) (by omega)),xE (h (lo+j) (by omega))];exact hs i j hij hj
theorem qj{a:Array Keyed}:∀{l l':List (Nat × Nat × Nat)} {st fin:Nat},l.map (fun x=>(x.1,x.2.1))=l'.map (fun x=>(x.1,x.2.1))→Runs key a st l fin→Runs key a st l' fin
 |[],[],st,fin,_,h=>h
 |[],_::_,st,fin,e,h=>by cases e
 |_::_,[],st,fin,e,h=>by cases e
 |(x,n,p)::l,(x',n',p')::l',st,fin,e,h=>by
  rw[List.map_cons,List.map_cons]at e
  injection e with e1 e2
  injection e1 with e3 e4
  dsimp only at e3 e4
  subst e3 e4
  exact⟨h.1,h.2.1,h.2.2.1,qj e2 h.2.2.2⟩
theorem sI{st:SortSt}{lo n:Nat}(h:Rn κ a₀ key lo st)(hs:SIn key (arrOf st) lo n)(hn:0<n):Rn κ a₀ key (lo+n) (setPending st ((pendingOf st).push (lo,n,0))):=by
 refine⟨⟨h.bs.kind,h.bs.perm,h.bs.fail⟩,?_⟩
 show Runs key (arrOf st) 0 ((pendingOf st).push (lo,n,0)).toList (lo+n)
 rw[Array.toList_push,ui]
 exact⟨lo,h.runs,rfl,hn,hs,rfl⟩
theorem fR{st:SortSt}{lo k pw:Nat}(h:Rn κ a₀ key lo st):Rn κ a₀ key lo (setPending st ((pendingOf st).modify k fun x=>(x.1,x.2.1,pw))):=by
 refine⟨⟨h.bs.kind,h.bs.perm,h.bs.fail⟩,?_⟩
 show Runs key (arrOf st) 0 ((pendingOf st).modify k fun x=>(x.1,x.2.1,pw)).toList lo
 refine qj ?_ h.runs
 rw[Array.toList_modify]
 refine List.ext_getElem? fun i=>?_
 rw[List.getElem?_map,List.getElem?_map,List.getElem?_modify]
 cases (pendingOf st).toList[i]? with
 |none=>rfl
 |some v=>
  show some (v.1,v.2.1)=some ((if k=i then (v.1,v.2.1,pw) else v).1,(if k=i then (v.1,v.2.1,pw) else v).2.1)
  split<;>rfl
theorem gB{c:Prop} [Decidable c] {a b n:Nat}(ha:a+1<n)(hb:b+1<n):(if c then a else b)+1<n:=by
 by_cases h:c
 . rw[if_pos h];exact ha
 . rw[if_neg h];exact hb
theorem Yb{α:Type}{l:List α}{i:Nat}(h:i+1<l.length):∃l1 x y l2,l=l1++x::y::l2∧l1.length=i:=by
 refine⟨l.take i,l[i],l[i+1],l.drop (i+2),?_,by rw[List.length_take];omega⟩
 rw[←List.drop_eq_getElem_cons,←List.drop_eq_getElem_cons,List.take_append_drop]
theorem rF(L:sM prog w A E s κ a₀ key){st:SortSt}{i lo:Nat}{Q:Bool→SortSt→Prop}(h:Rn κ a₀ key lo st)(hlo:lo≤a₀.size)(hi:i+1<(pendingOf st).size)
 (q:∀st',Rn κ a₀ key lo st'→(pendingOf st').size+1=(pendingOf st).size→(∀j,lo≤j→(arrOf st')[j]?=(arrOf st)[j]?)→Q true st'):wpS (model prog w) A E s (mergeAt' i) Q st:=by
 obtain⟨l1,⟨xa,na,pa⟩,⟨xb,nb,pb⟩,l2,el,hl1⟩:=Yb (l:=(pendingOf st).toList) (i:=i) (by rw[Array.length_toList];exact hi)
 have hr:=h.runs
 rw[el,ui]at hr
 obtain⟨m,r1,ea,ha,sA,eb,hb,sB,r2⟩:=hr
 subst ea
 subst eb
 have hr2:=uj r2
 have hr1:=uj r1
 have g1:(pendingOf st)[i]?=some (xa,na,pa):=by rw[←Array.getElem?_toList,el,List.getElem?_append_right (by omega),hl1,Nat.sub_self];rfl
 have g2:(pendingOf st)[i+1]?=some (xa+na,nb,pb):=by rw[←Array.getElem?_toList,el,List.getElem?_append_right (by omega),hl1,Nat.add_sub_cancel_left];rfl
 refine mK L h.bs g1 g2 rfl ha hb (by omega) sA sB fun st' hB' hp hs hk=>q st' ⟨hB',?_⟩ ?_ fun j hj=>hk j (.inr (by omega))
 . have ep:(pendingOf st').toList=l1++(xa,na+nb,pa)::l2:=by
    rw[hp,Array.eraseIdxIfInBounds,dif_pos (by rw[Array.size_setIfInBounds];exact hi),Array.toList_eraseIdx,Array.toList_setIfInBounds,el]
    rw[List.set_append_right _ _ (by omega),hl1,Nat.sub_self,List.set_cons_zero,List.eraseIdx_append_of_length_le (by omega),hl1,Nat.add_sub_cancel_left]
    rfl
   rw[ep,ui]
   refine⟨xa,wG (fun j _ hj=>hk j (.inl hj)) r1,rfl,by omega,hs,?_⟩
   rw[←Nat.add_assoc]
   exact wG (fun j hj _=>hk j (.inr (by omega))) r2
 . rw[hp,Array.eraseIdxIfInBounds,dif_pos (by rw[Array.size_setIfInBounds];exact hi),Array.size_eraseIdx,Array.size_setIfInBounds]
   omega
theorem bC(L:sM prog w A E s κ a₀ key)(D:Dis key a₀){st:SortSt}{Q:Unit→SortSt→Prop}(hB:Bs κ a₀ st)(hp:pendingOf st=#[])(h2:2≤a₀.size)
 (q:∀st',Bs κ a₀ st'→SIn key (arrOf st') 0 a₀.size→Q () st'):wpS (model prog w) A E s sortRuns' Q st:=by
 rw[sortRuns'_eq]
 refine wpS_bind (wpS_get ?_)
 dsimp only
 rw[hB.size]
 generalize minRun' a₀.size a₀.size 0=mr
 refine wpS_bind (wpS_mono (wpS_forRange (I:=fun x c st'=>∃lo,c=(none,lo)∧x≤lo∧lo≤a₀.size∧Rn κ a₀ key lo st') (Q:=fun c st'=>c=(none,a₀.size)∧Rn κ a₀ key a₀.size st') ?step ?fin ⟨0,rfl,Nat.le_refl _,Nat.zero_le _,hB,by rw[hp];rfl⟩) ?post)
 case fin=>
  rintro c st' ⟨lo,rfl,h1,h2,hR⟩
  have:lo=a₀.size:=by omega
  subst this
  exact⟨rfl,hR⟩
 case step=>
  rintro x c st' _ hx ⟨lo,rfl,h1,hlo,hR⟩
  dsimp only
  by_cases hge:lo ≥ a₀.size
  . rw[if_pos hge]
    have:lo=a₀.size:=by omega
    subst this
    exact wpS_pure ⟨rfl,hR⟩
  . rw[if_neg hge]
    refine wpS_bind (eT L D (by omega) (by omega) hR.bs fun m st2 hB2 pre2 pe2 m1 m2 s2=>?_)
    dsimp only
    have hR2:Rn κ a₀ key lo st2:=⟨hB2,by rw[pe2];exact wG (fun j _ hj=>pre2 j hj) hR.runs⟩
    by_cases hm:m<mr
    . rw[if_pos hm]
      refine wpS_bind (wpS_lift (wpAny_rule ⟨rfl,?_⟩))
      refine wpS_bind (Yq L (show lo+min (a₀.size-lo) mr≤a₀.size by omega) (by omega) hB2 s2 fun st3 hB3 pre3 pe3 s3=>?_)
      rw[if_neg (by simp)]
      have hR3:Rn κ a₀ key lo st3:=⟨hB3,by rw[pe3];exact wG (fun j _ hj=>pre3 j hj) hR2.runs⟩
      refine wpS_bind (wpS_get ?_)
      cases hbk:(pendingOf st3).back? with
      |none=>
       dsimp only
       exact wpS_bind (wpS_modify (wpS_pure ⟨lo+min (a₀.size-lo) mr,rfl,by omega,by omega,sI hR3 s3 (by omega)⟩))
      |some v=>
       obtain⟨s1,n1,p1⟩:=v
       dsimp only
       refine wpS_bind (wpS_mono (wpS_forRange (I:=fun y c st4=>c=(none,())∧Rn κ a₀ key lo st4∧SIn key (arrOf st4) lo (min (a₀.size-lo) mr)) (Q:=fun c st4=>c=(none,())∧Rn κ a₀ key lo st4∧SIn key (arrOf st4) lo (min (a₀.size-lo) mr)) (fun y c st4 _ _ hI=>?_) (fun c st4 hI=>hI) ⟨rfl,hR3,s3⟩) ?_)
       . obtain⟨rfl,hR4,hs4⟩:=hI
         refine wpS_bind (wpS_get ?_)
         by_cases hp1:(pendingOf st4).size > 1
         . rw[if_pos hp1,getElem?_pos (pendingOf st4) ((pendingOf st4).size-2) (by omega)]
           dsimp only
           refine zc (fun _=>wpS_pure ⟨rfl,hR4,hs4⟩) fun _=>wpS_bind (rF L hR4 (by omega) (by omega) fun st5 hR5 _ hk5=>?_)
           rw[if_neg (by simp)]
           exact wpS_pure ⟨rfl,hR5,qk (fun j hj=>hk5 j hj) hs4⟩
         . rw[if_neg hp1]
           exact wpS_pure ⟨rfl,hR4,hs4⟩
       . rintro c st4 ⟨rfl,hR4,hs4⟩
         dsimp only
         exact wpS_bind (wpS_modify (wpS_bind (wpS_modify (wpS_pure ⟨lo+min (a₀.size-lo) mr,rfl,by omega,by omega,sI (fR hR4) hs4 (by omega)⟩))))
    . rw[if_neg hm]
      refine wpS_bind (wpS_get ?_)
      cases hbk:(pendingOf st2).back? with
      |none=>
       dsimp only
       exact wpS_bind (wpS_modify (wpS_pure ⟨lo+m,rfl,by omega,by omega,sI hR2 s2 (by omega)⟩))
      |some v=>
       obtain⟨s1,n1,p1⟩:=v
       dsimp only
       refine wpS_bind (wpS_mono (wpS_forRange (I:=fun y c st4=>c=(none,())∧Rn κ a₀ key lo st4∧SIn key (arrOf st4) lo (m)) (Q:=fun c st4=>c=(none,())∧Rn κ a₀ key lo st4∧SIn key (arrOf st4) lo (m)) (fun y c st4 _ _ hI=>?_) (fun c st4 hI=>hI) ⟨rfl,hR2,s2⟩) ?_)
       . obtain⟨rfl,hR4,hs4⟩:=hI
         refine wpS_bind (wpS_get ?_)
         by_cases hp1:(pendingOf st4).size > 1
         . rw[if_pos hp1,getElem?_pos (pendingOf st4) ((pendingOf st4).size-2) (by omega)]
           dsimp only
           refine zc (fun _=>wpS_pure ⟨rfl,hR4,hs4⟩) fun _=>wpS_bind (rF L hR4 (by omega) (by omega) fun st5 hR5 _ hk5=>?_)
           rw[if_neg (by simp)]
           exact wpS_pure ⟨rfl,hR5,qk (fun j hj=>hk5 j hj) hs4⟩
         . rw[if_neg hp1]
           exact wpS_pure ⟨rfl,hR4,hs4⟩
       . rintro c st4 ⟨rfl,hR4,hs4⟩
         dsimp only
         exact wpS_bind (wpS_modify (wpS_bind (wpS_modify (wpS_pure ⟨lo+m,rfl,by omega,by omega,sI (fR hR4) hs4 (by omega)⟩))))
 case post=>
  rintro c st' ⟨rfl,hR⟩
  dsimp only
  have hle:=uj hR.runs
  rw[Array.length_toList]at hle
  refine wpS_bind (wpS_mono (wpS_forRange (I:=fun x c st4=>c=(none,())∧Rn κ a₀ key a₀.size st4∧((pendingOf st4).size≤1∨(pendingOf st4).size+x≤a₀.size)) (Q:=fun c st4=>c=(none,())∧Rn κ a₀ key a₀.size st4∧(pendingOf st4).size≤1) (fun y c st4 _ _ hI=>?_) (fun c st4 hI=>⟨hI.1,hI.2.1,by have:=hI.2.2;omega⟩) ⟨rfl,hR,.inr (by omega)⟩) ?_)
  . obtain⟨rfl,hR4,hs4⟩:=hI
    refine wpS_bind (wpS_get ?_)
    refine zc (fun h1=>wpS_pure ⟨rfl,hR4,h1⟩) fun h1=>wpS_bind (rF L hR4 (Nat.le_refl _) (gB (by omega) (by omega)) fun st5 hR5 hz5 _=>?_)
    rw[if_neg (by simp)]
    exact wpS_pure ⟨rfl,hR5,.inr (by omega)⟩
  . rintro c st4 ⟨rfl,hR4,h1⟩
    refine wpS_pure (q st4 hR4.bs ?_)
    have hr:=hR4.runs
    rw[←Array.length_toList]at h1
    match hl:(pendingOf st4).toList,hr,h1 with
    |[],hr,_=>exact absurd (show 0=a₀.size from hr) (by omega)
    |[(x,n,p)],hr,_=>
     obtain⟨rfl,_,hs,he⟩:=hr
     have he':0+n=a₀.size:=he
     rw[←he',Nat.zero_add];exact hs
    |_::_::_,_,h1=>rw[List.length_cons,List.length_cons]at h1;omega
end
end L2.Tim
end
section
namespace L2
open PySem PySem.W PySem.Calls PyProof PyProof.Rows
noncomputable def xJ:List Int→List Int→Bool
 |x::xs,y::ys=>if x=y then xJ xs ys else decide (x<y)
 |[],_::_=>true
 |_,[]=>false
noncomputable def gc(d:Bool):List Int→List Int→Bool
 |x::xs,y::ys=>if x=y then gc d xs ys else decide (x<y)
 |_,_=>d
theorem kI:∀xs ys:List Int,gc (decide (xs.length<ys.length)) xs ys=xJ xs ys
 |[],[]=>rfl
 |[],_::_=>decide_eq_true (Nat.succ_pos _)
 |_::_,[]=>rfl
 |x::xs,y::ys=>by
  have:=kI xs ys
  have e:decide ((x::xs).length<(y::ys).length)=decide (xs.length<ys.length):=decide_eq_decide.mpr Nat.add_lt_add_iff_right
  unfold gc xJ
  rw[e,this]
theorem rP{α β:Type}{f:α→β}:∀{l:List α} {l':List β},l'.Perm (l.map f)→∃m:List α,m.Perm l∧m.map f=l'
 |[],l',h=>⟨[],.refl _,(List.perm_nil.mp h).symm⟩
 |a::t,l',h=>by
  obtain⟨s,r,rfl⟩:=List.append_of_mem (h.mem_iff.mpr (.head _))
  obtain⟨m,h1,h2⟩:=rP (l:=t) (List.perm_cons (f a) |>.mp ((List.perm_middle.symm).trans h))
  obtain⟨m1,m2,rfl,rfl,rfl⟩:=List.map_eq_append_iff.mp h2
  exact⟨m1++a::m2,List.perm_middle.trans (h1.cons a),by rw[List.map_append,List.map_cons]⟩
section
variable {prog:Program}{w:World}{A:Around}{E:Value→Shared→Prop}{κ:SortKind}{s:Shared}
theorem oY{d:Bool}{Q:Bool→Shared→Prop}:∀{us vs:List Value} {xs ys:List Int} (i:Nat),vm us xs→vm vs ys→Q (gc d xs ys) s→KatLex prog w A true d Q (us.zip vs) i s
 |_,_,_,_,i,.nil,.nil,h=>h
 |_,_,_,_,i,.nil,.cons _,h=>h
 |_,_,_,_,i,.cons _,.nil,h=>h
 |_,_,_,_,i,.cons (i:=a) (t:=t) (us:=us) (ns:=xs) r,.cons (i:=b) (t:=u) (us:=vs) (ns:=ys) r',h=>by
  show KatLex prog w A true d Q ((Value.int a t,Value.int b u)::us.zip vs) i s
  unfold gc at h
  refine kat_cons (wpAny_eqBool_int (kat_go (fun e=>?_) fun e=>?_))
  . rw[if_pos (of_decide_eq_true e)]at h
    exact kat_yes (oY (i+1) r r' h)
  . rw[if_neg (of_decide_eq_false e)]at h
    refine kat_no ?_
    cases i with
    |zero=>exact oneLt_int h
    |succ i=>exact kat_one _ _ (lt_int h)
noncomputable def itm(vs:List Value)(i:Nat):Keyed:=(vs.getD i Value.none,vs.getD i Value.none)
theorem kF(vs:List Value):(vs.toArray.zip vs.toArray).toList=(List.range vs.length).map (itm vs):=by
 rw[Array.toList_zip]
 apply List.ext_getElem
 . simp
 . intro i h1 h2
   have hi:i<vs.length:=by simpa using h2
   simp[itm,List.getD_eq_getElem?_getD,List.getElem?_eq_getElem hi]
theorem eD{l:Addr}{vs:List Value}{key:Keyed→Int}{Q:Value→Shared→Prop}(hl:s.heap.IsList l vs.toArray)(h2:2≤vs.length)(hz:vs.length≤16777216)
 (kind:∀h' (Q':SortKind→Shared→Prop),(∀b o,s.heap.get? b=some o→h'.get? b=some o)→Q' κ {s with heap:=h'}→wpAny (model prog w) A.in1.in1 (keyKind' vs.toArray) Q' (fun _ _=>False) {s with heap:=h'})
 (ask:∀h' i j C,(∀b o,s.heap.get? b=some o→h'.get? b=some o)→i<vs.length→j<vs.length→C (decide (key (itm vs i)<key (itm vs j))) {s with heap:=h'}→wpAny (model prog w) A.in1.in1 (keyLt' κ (vs.getD i Value.none) (vs.getD j Value.none)) C (fun _ _=>False) {s with heap:=h'})
 (dis:∀i j,i<vs.length→j<vs.length→key (itm vs i)=key (itm vs j)→i=j)
 (h:∀(h':Heap) (c:Nat) (ix:List Nat),(∀b o,s.heap.get? b=some o→h'.get? b=some o)→ix.Perm (List.range vs.length)→ix.Pairwise (fun i j=>key (itm vs i)<key (itm vs j)) →
  h'.get? (s.heap.objs.size+1)=some (seqObj "list" (ix.map fun i=>vs.getD i Value.none).toArray c)→Q (.ref (s.heap.objs.size+1)) {s with heap:=h'}) :
 wpAny (model prog w) A (call (.builtin "sorted") [.ref l]) Q E s:=by
 have hs0:(vs.toArray.zip vs.toArray).size=vs.length:=by simp
 have un:∀{a:Array Keyed},a.Perm (vs.toArray.zip vs.toArray)→∃ix:List Nat,ix.Perm (List.range vs.length)∧ix.map (itm vs)=a.toList:=fun{a} hp=>rP (by rw[←kF];exact Array.perm_iff_toList_perm.mp hp)
 have kk_at:∀{a:Array Keyed} {ix:List Nat} (i:Nat) (hi:i<ix.length),ix.map (itm vs)=a.toList→Tim.kk key a i=key (itm vs ix[i]):=fun{a ix} i hi e=>by
  unfold Tim.kk
  rw[Array.getD_eq_getD_getElem?,←Array.getElem?_toList,←e,List.getElem?_map,List.getElem?_eq_getElem hi]
  rfl
 have ixl:∀{ix:List Nat},ix.Perm (List.range vs.length)→ix.length=vs.length:=fun hp=>by rw[hp.length_eq,List.length_range]
 have ixm:∀{ix:List Nat},ix.Perm (List.range vs.length)→∀i (hi:i<ix.length),ix[i]<vs.length:=fun hp i hi=>List.mem_range.mp (hp.mem_iff.mp (List.getElem_mem hi))
 have hD:Tim.Dis key (vs.toArray.zip vs.toArray):=fun a hp i j hi hj hij e=>by
  obtain⟨ix,p1,p2⟩:=un hp
  rw[hs0,←ixl p1]at hi hj
  rw[kk_at i hi p2,kk_at j hj p2]at e
  exact hij ((List.getElem_inj (p1.nodup_iff.mpr List.nodup_range)).mp (dis _ _ (ixm p1 i hi) (ixm p1 j hj) e))
 refine Calls.call_function_entry kind_sorted plain_sorted entry_sorted (args_sorted1 _) ?_
 unfold Builtin.«sorted»
 refine wpAny_bind (m:=checkCount "sorted" 1 1 _) (wpAny_pure ?_)
 refine wpAny_bind (collect_list hl ?_ (by rw[sizeLine_eq];omega))
 refine wpAny_bind (wpAny_newList ?_ (by rw[sizeLine_eq];omega))
 have hsz:((s.heap.push (seqObj "list" #[] 0)).update s.heap.objs.size (Obj.mapSeq (·++vs.toArray))).objs.size=s.heap.objs.size+1:=by
  rw[Heap.size_update,size_push']
 have hoL:(((s.heap.push (seqObj "list" #[] 0)).update s.heap.objs.size (Obj.mapSeq (·++vs.toArray))).push (seqObj "list" vs.toArray 0)).get? (s.heap.objs.size+1)=some (seqObj "list" vs.toArray 0):=by
  rw[←hsz];exact Heap.get?_push_size _ rfl
 have keep:∀b o,s.heap.get? b=some o→(((s.heap.push (seqObj "list" #[] 0)).update s.heap.objs.size (Obj.mapSeq (·++vs.toArray))).push (seqObj "list" vs.toArray 0)).get? b=some o:=fun b o q=>by
  have hlt:b<s.heap.objs.size:=Heap.lt_size q
  rw[Heap.get?_push_ne _ _ _ (by rw[hsz];exact Nat.ne_of_lt (Nat.lt_succ_of_lt hlt)),Heap.get?_update_ne _ _ _ _ (Nat.ne_of_lt hlt),Heap.get?_push_ne _ _ _ (Nat.ne_of_lt hlt)]
  exact q
 show wpAny _ _ _ _ _ {s with heap:=((s.heap.push (seqObj "list" #[] 0)).update s.heap.objs.size (Obj.mapSeq (·++vs.toArray))).push (seqObj "list" vs.toArray 0)}
 rw[hsz]
 generalize hg:((s.heap.push (seqObj "list" #[] 0)).update s.heap.objs.size (Obj.mapSeq (·++vs.toArray))).push (seqObj "list" vs.toArray 0)=g at hoL keep ⊢
 refine wpAny_bind (wpAny_holding (wpAny_call_entry slot_list_sort ⟨_,hoL,rfl⟩ entry_list_sort ?body (args_list_sort _)))
 case body=>
  rw[list_sort_plain]
  refine wpAny_bind (listItems_at hoL rfl ?_)
  refine wpAny_bind (listUpdate_at hoL rfl ?_ (by rw[List.size_toArray,sizeLine_eq];omega) (Nat.zero_le _))
  obtain⟨e1,ho1⟩:∃e1,(g.update (s.heap.objs.size+1) (Obj.mapSeq fun _=>(#[]:Array Value))).get? (s.heap.objs.size+1)=some (seqObj "list" #[] e1):=⟨_,get?_update_seq hoL fun _=>#[]⟩
  refine wpAny_bind (seqEpoch_at ho1 rfl ?_)
  refine wpAny_bind (wpAny_newTuple ?_ (by show vs.length≤_;rw[sizeLine_eq];omega))
  refine wpAny_bind (wpAny_newList ?_ (Nat.zero_le _))
  refine wpAny_holding ?_
  have keep6:∀b o,s.heap.get? b=some o→(((g.update (s.heap.objs.size+1) (Obj.mapSeq fun _=>(#[]:Array Value))).push (seqObj "tuple" vs.toArray 0)).push (seqObj "list" #[] 0)).get? b=some o:=fun b o e=>by
   have hlt:b<s.heap.objs.size:=Heap.lt_size e
   refine Heap.get?_push_of_some _ (Heap.get?_push_of_some _ ?_)
   rw[Heap.get?_update_ne _ _ _ _ (Nat.ne_of_lt (Nat.lt_succ_of_lt hlt))]
   exact keep b o e
  have ho6:(((g.update (s.heap.objs.size+1) (Obj.mapSeq fun _=>(#[]:Array Value))).push (seqObj "tuple" vs.toArray 0)).push (seqObj "list" #[] 0)).get? (s.heap.objs.size+1)=some (seqObj "list" #[] e1):=
   Heap.get?_push_of_some _ (Heap.get?_push_of_some _ ho1)
  show wpAny (model prog w) _ _ _ _ {s with heap:=((g.update (s.heap.objs.size+1) (Obj.mapSeq fun _=>(#[]:Array Value))).push (seqObj "tuple" vs.toArray 0)).push (seqObj "list" #[] 0)}
  generalize ((g.update (s.heap.objs.size+1) (Obj.mapSeq fun _=>(#[]:Array Value))).push (seqObj "tuple" vs.toArray 0)).push (seqObj "list" #[] 0)=g6 at ho6 keep6 ⊢
  dsimp only
  have h2':¬vs.toArray.size<2:=by rw[List.size_toArray];omega
  rw[if_neg h2',if_neg h2']
  refine wpAny_bind (wpAny_mono (kind g6 (fun κ' s'=>κ'=κ∧s'={s with heap:=g6}) keep6 ⟨rfl,rfl⟩) (fun κ' s' hk=>?_) fun _ _ x=>x.elim)
  obtain⟨rfl,rfl⟩:=hk
  have L:Tim.sM prog w A.in1.in1 (fun _ _=>False) {s with heap:=g6} κ' (vs.toArray.zip vs.toArray) key:=fun x y st Q' hx hy hk hq=>by
   rw[kF]at hx hy
   obtain⟨i,hi,rfl⟩:=List.mem_map.mp hx
   obtain⟨j,hj,rfl⟩:=List.mem_map.mp hy
   rw[lt'_eq]
   refine wpS_bind (wpS_get ?_)
   rw[hk]
   refine wpS_bind (wpS_lift (wpAny_attempt (wpAny_mono (ask g6 i j (fun c s'=>s'={s with heap:=g6}∧c=decide (key (itm vs i)<key (itm vs j))) keep6 (List.mem_range.mp hi) (List.mem_range.mp hj) ⟨rfl,rfl⟩) (fun c s' hc=>?_) fun _ _ hF=>hF.elim)))
   obtain⟨rfl,rfl⟩:=hc
   exact⟨rfl,wpS_pure hq⟩
  refine wpAny_bind (wpAny_mono (Tim.bC L hD (st:=SortSt.mk' κ' (vs.toArray.zip vs.toArray) #[] 7 none) (Q:=fun _ st'=>Tim.Bs κ' (vs.toArray.zip vs.toArray) st'∧Tim.SIn key (arrOf st') 0 (vs.toArray.zip vs.toArray).size) ⟨rfl,.refl _,rfl⟩ rfl (by rw[hs0];exact h2) fun st' a b=>⟨a,b⟩) ?_ fun _ _ x=>x.elim)
  rintro ⟨⟨⟩,st'⟩ s' ⟨rfl,hB,hS⟩
  dsimp only at hB hS ⊢
  obtain⟨ix,p1,p2⟩:=un hB.perm
  have hout:(arrOf st').map (·.2)=(ix.map fun i=>vs.getD i Value.none).toArray:=by
   apply Array.toList_inj.mp
   rw[Array.toList_map,←p2,List.map_map]
   rfl
  have hixl:(ix.map fun i=>vs.getD i Value.none).toArray.size≤sizeLine:=by rw[List.size_toArray,List.length_map,ixl p1,sizeLine_eq];omega
  rw[show (arrOf st').map (·.2)=_ from hout]
  refine wpAny_bind (seqEpoch_at ho6 rfl ?_)
  refine wpAny_bind (listUpdate_at ho6 rfl ?_ (Nat.zero_le _) (Nat.le_succ_of_le hixl))
  rw[hB.fail]
  simp only[bne_self_eq_false,Bool.false_eq_true,if_false]
  refine wpAny_pure ⟨_,rfl,wpAny_pure ⟨_,rfl,?_⟩⟩
  refine h _ _ ix (fun b o e=>?_) p1 (List.pairwise_iff_getElem.mpr fun i j hi hj hij=>?_) (get?_update_seq ho6 fun _=>(ix.map fun i=>vs.getD i Value.none).toArray)
  . have hlt:b<s.heap.objs.size:=Heap.lt_size e
    rw[Heap.get?_update_ne _ _ _ _ (Nat.ne_of_lt (Nat.lt_succ_of_lt hlt))]
    exact keep6 b o e
  . have:=hS i j (Nat.le_of_lt hij) (by rw[hs0,←ixl p1];exact hj)
    rw[Nat.zero_add,Nat.zero_add,kk_at i hi p2,kk_at j hj p2]at this
    rcases Int.lt_or_eq_of_le this with z|z
    . exact z
    . have:=(List.getElem_inj (p1.nodup_iff.mpr List.nodup_range)).mp (dis _ _ (ixm p1 i hi) (ixm p1 j hj) z)
      exact absurd this (Nat.ne_of_lt hij)
end
theorem k9{us:List Value}:∀{a b:List Int},vm us a→vm us b→a=b:=by
 induction us with
 |nil=>intro a b h k;cases h;cases k;rfl
 |cons u us ih=>
  intro a b h k
  cases h with
  |cons h=>
   cases k with
   |cons k=>rw[ih h k]
noncomputable def keyOf(its:List Value)(zs:List (List Int))(K:List Int→Int)(x:Keyed):Int:=
 open Classical in K (zs.getD (its.findIdx fun v=>decide (v=x.1)) [])
theorem wj{h:Heap}{its:List Value}{zs:List (List Int)}{K:List Int→Int}(tv:TV h its zs){i:Nat}{z:List Int}(hz:zs[i]?=some z):keyOf its zs K (itm its i)=K z:=by
 classical
 obtain⟨b,o,n,us,f1,f2,f3,f4,f5⟩:=tv.2 i z hz
 have e1:its.getD i Value.none=.ref b:=by rw[List.getD_eq_getElem?_getD,f1];rfl
 have hlt:its.findIdx (fun v=>decide (v=its.getD i Value.none))<its.length:=List.findIdx_lt_length_of_exists ⟨.ref b,List.mem_of_getElem? f1,by rw[e1];exact decide_eq_true rfl⟩
 have hp:=List.findIdx_getElem (w:=hlt)
 have hj:=of_decide_eq_true hp
 have hlt':its.findIdx (fun v=>decide (v=its.getD i Value.none))<zs.length:=by rw[←tv.1];exact hlt
 obtain⟨b',o',n',us',g1,g2,g3,g4,g5⟩:=tv.2 _ _ (List.getElem?_eq_getElem hlt')
 have e2:Value.ref b'=.ref b:=by
  rw[List.getElem?_eq_getElem hlt]at g1
  rw[←e1,←hj];exact(Option.some.inj g1).symm
 cases e2
 rw[f2]at g2
 cases g2
 rw[f4]at g4
 injection g4 with g4
 have g4:=Array.toList_inj.mpr g4
 have g4:us=us':=g4
 subst g4
 unfold keyOf
 show K (zs.getD (its.findIdx fun v=>decide (v=its.getD i Value.none)) [])=K z
 rw[List.getD_eq_getElem?_getD,List.getElem?_eq_getElem hlt',Option.getD_some,k9 g5 f5]
theorem TV.up{h h':Heap}{its:List Value}{zs:List (List Int)}(tv:TV h its zs)(keep:∀b o,h.get? b=some o→h'.get? b=some o):TV h' its zs:=⟨tv.1,fun i z e=>by
 obtain⟨b,o,n,us,f1,f2,f3⟩:=tv.2 i z e
 exact⟨b,o,n,us,f1,keep _ _ f2,f3⟩⟩
theorem sU{X:Cx}:z9 X (.builtin "sorted") (fun xs H Q=>∃p ys zs,∃K:List Int→Int,xs=[.ref p]∧SqL X.K H p ys∧eX X.K H ys zs∧(zs.length<2∨∀z∈zs,z≠[])∧zs.Nodup∧(∀a∈zs,∀b∈zs,xJ a b=decide (K a<K b))∧(∀a∈zs,∀b∈zs,K a=K b→a=b) ∧
 ∀(l:Addr) (ix:List Nat),H l=none→ix.Perm (List.range zs.length)→(ix.map fun i=>zs.getD i []).Pairwise (fun a b=>K a<K b)→Q (.ref l) (upd H l (.lst (ix.map fun i=>ys.getD i .non)))):=by
 intro pins s σ H xs us Q I r h
 obtain⟨p,ys,zs,K,rfl,hq,hP,hne,hnd,hK,hKi,q⟩:=h
 obtain⟨u,rfl,rx⟩:=vals1 r
 cases rx
 obtain⟨its,rv,pl,hz⟩:=I.list hq
 have hlen:=rv.length
 have hl:s.heap.IsList p its.toArray:=pl.isList
 have tv:=hP.tv I rv
 have hn:its.length=zs.length:=tv.1
 have hD:s.heap.get? (s.heap.objs.size+1)=none:=Heap.get?_none_of_le (Nat.le_succ _)
 by_cases h2:its.length<2
 . refine p7 hl h2 fun h' c keep e=>?_
   obtain⟨hn',I'⟩:=I.iS (h':=h') hz rv hD (fun b o _ e=>keep b o e) (fun m ⟨o,es,ep,ho,r⟩=>⟨o,es,ep,keep _ o ho,r⟩) e
   have ey:(List.range zs.length).map (fun i=>ys.getD i .non)=ys:=by rw[←hn,←hlen];exact qf _
   have:=q _ (List.range zs.length) hn' (.refl _) (by
    rw[qf]
    match zs,show zs.length<2 by omega with
    |[],_=>exact .nil
    |[_],_=>exact List.pairwise_singleton _ _)
   rw[ey]at this
   exact⟨V.ref _,_,I',rfl,this⟩
 . have hne:∀z∈zs,z≠[]:=hne.resolve_left (by omega)
   have hzl:its.length≤16777216:=by rw[sizeLine_eq]at hz;omega
   have gz:∀{i:Nat},i<its.length→∃z,zs[i]?=some z∧zs.getD i []=z∧z∈zs:=fun{i} hi=>by
    rw[hn]at hi
    exact⟨zs[i],List.getElem?_eq_getElem hi,by rw[List.getD_eq_getElem?_getD,List.getElem?_eq_getElem hi];rfl,List.getElem_mem hi⟩
   refine eD (κ:=tuples' true) (key:=keyOf its zs K) hl (by omega) hzl (fun h' Q' keep hq'=>?_) (fun h' i j C keep hi hj hc=>?_) (fun i j hi hj e=>?_) fun h' c ix keep hp hw e=>?_
   . obtain⟨fs,kt,kl,ki⟩:=(tv.up keep).rh hne
     refine kat_kind (s:={s with heap:=h'}) (T:=.type "int") kt (by omega) (fun v hv=>?_) rfl hq'
     obtain⟨i,t,rfl⟩:=ki v hv
     exact Looks.of_pure rfl
   . obtain⟨z,a1,a2,a3⟩:=gz hi
     obtain⟨z',b1,b2,b3⟩:=gz hj
     rw[wj tv a1,wj tv b1,←hK z a3 z' b3,←kI]at hc
     obtain⟨b,o,n,us,f1,f2,f3,f4,f5⟩:=(tv.up keep).2 i z a1
     obtain⟨b',o',n',us',f1',f2',f3',f4',f5'⟩:=(tv.up keep).2 j z' b1
     rw[List.getD_eq_getElem?_getD,List.getD_eq_getElem?_getD,f1,f1']
     refine kat_lt (s:={s with heap:=h'}) f2 f4 f2' f4' ?_
     rw[List.size_toArray,List.size_toArray,qT f5,qT f5']
     exact oY (s:={s with heap:=h'}) 0 f5 f5' hc
   . obtain⟨z,a1,a2,a3⟩:=gz hi
     obtain⟨z',b1,b2,b3⟩:=gz hj
     rw[wj tv a1,wj tv b1]at e
     have ez:=hKi z a3 z' b3 e
     subst ez
     exact(List.getElem?_inj (by omega) hnd).mp (a1.trans b1.symm)
   . have hlt:∀i∈ix,i<its.length:=fun i hi=>List.mem_range.mp (hp.mem_iff.mp hi)
     obtain⟨hn',I'⟩:=I.iS (h':=h') (ys:=ix.map fun i=>ys.getD i .non) (by rw[List.length_map,hp.length_eq,List.length_range];omega) (qu rv ix fun i hi=>by have:=hlt i hi;omega) hD (fun b o _ e=>keep b o e) (fun m ⟨o,es,ep,ho,r⟩=>⟨o,es,ep,keep _ o ho,r⟩) e
     refine⟨V.ref _,_,I',rfl,q _ ix hn' (by rw[←hn];exact hp) ?_⟩
     rw[List.pairwise_map]
     refine hw.imp_of_mem fun{i j} hi hj w=>?_
     obtain⟨z,a1,a2,a3⟩:=gz (hlt i hi)
     obtain⟨z',b1,b2,b3⟩:=gz (hlt j hj)
     rw[wj tv a1,wj tv b1]at w
     rw[a2,b2]
     exact w
theorem rA:∀a:List Int,xJ a a=false
 |[]=>rfl
 |x::xs=>by unfold xJ;rw[if_pos rfl];exact rA xs
theorem oX:∀{a b:List Int},xJ a b=false→a≠b→xJ b a=true
 |[],[],_,h=>absurd rfl h
 |[],_::_,h,_=>by cases h
 |_::_,[],_,_=>rfl
 |x::xs,y::ys,h,n=>by
  unfold xJ at h ⊢
  by_cases e:x=y
  . subst e
    rw[if_pos rfl]at h ⊢
    exact oX h fun e=>n (by rw[e])
  . rw[if_neg e]at h
    rw[if_neg (fun z=>e z.symm)]
    have:=of_decide_eq_false h
    exact decide_eq_true (by omega)
theorem pT:∀{a b c:List Int},xJ a b=true→xJ b c=true→xJ a c=true
 |[],[],_,h,_=>by cases h
 |_::_,[],_,h,_=>by cases h
 |_,_::_,[],_,h=>by cases h
 |[],_::_,_::_,_,_=>rfl
 |x::xs,y::ys,z::zs,h,k=>by
  unfold xJ at h k ⊢
  by_cases e:x=y
  . subst e
    rw[if_pos rfl]at h
    by_cases e':x=z
    . rw[if_pos e']at k ⊢;exact pT h k
    . rw[if_neg e']at k ⊢;exact k
  . rw[if_neg e]at h
    have h:=of_decide_eq_true h
    by_cases e':y=z
    . subst e'
      rw[if_neg e];exact decide_eq_true h
    . rw[if_neg e']at k
      have k:=of_decide_eq_true k
      rw[if_neg (by omega)]
      exact decide_eq_true (by omega)
noncomputable def k8(z:List Int):List (List Int)→List (List Int)
 |[]=>[z]
 |y::ys=>if xJ y z then y::k8 z ys else z::y::ys
noncomputable def wQ:List (List Int)→List (List Int)
 |[]=>[]
 |z::zs=>k8 z (wQ zs)
theorem u5(z:List Int):∀l,(k8 z l).Perm (z::l)
 |[]=>.refl _
 |y::ys=>by
  unfold k8
  by_cases h:xJ y z=true
  . rw[if_pos h];exact((u5 z ys).cons y).trans (.swap z y ys)
  . rw[if_neg h]
theorem yy:∀l,(wQ l).Perm l
 |[]=>.refl _
 |z::zs=>(u5 z _).trans ((yy zs).cons z)
theorem kB(z:List Int):∀l,z ∉ l→l.Pairwise (fun a b=>xJ a b=true)→(k8 z l).Pairwise (fun a b=>xJ a b=true)
 |[],_,_=>List.pairwise_singleton _ _
 |y::ys,hz,h=>by
  rw[List.pairwise_cons]at h
  rw[List.mem_cons,not_or]at hz
  unfold k8
  by_cases e:xJ y z=true
  . rw[if_pos e]
    refine List.pairwise_cons.mpr ⟨fun a ha=>?_,kB z ys hz.2 h.2⟩
    rcases List.mem_cons.mp ((u5 z ys).mem_iff.mp ha) with q|q
    . rw[q];exact e
    . exact h.1 a q
  . rw[if_neg e]
    have e:=oX (Bool.eq_false_iff.mpr e) fun q=>hz.1 q.symm
    refine List.pairwise_cons.mpr ⟨fun a ha=>?_,List.pairwise_cons.mpr h⟩
    rcases List.mem_cons.mp ha with q|q
    . rw[q];exact e
    . exact pT e (h.1 a q)
theorem rY:∀{l:List (List Int)},l.Nodup→(wQ l).Pairwise (fun a b=>xJ a b=true)
 |[],_=>.nil
 |z::zs,h=>by
  rw[List.nodup_cons]at h
  exact kB z _ (fun q=>h.1 ((yy zs).mem_iff.mp q)) (rY h.2)
theorem qY{a b:List Int}(h:xJ a b=true):xJ b a=false:=by
 cases e:xJ b a with
 |false=>rfl
 |true=>rw[←rA a];exact(pT h e).symm
theorem nN{zs:List (List Int)}(hn:zs.Nodup){a b:List Int}(ha:a∈zs)(hb:b∈zs):xJ a b=decide (((wQ zs).idxOf a:Int)<(wQ zs).idxOf b):=by
 have hs:=rY hn
 have i1:=List.idxOf_lt_length_of_mem ((yy zs).mem_iff.mpr ha)
 have i2:=List.idxOf_lt_length_of_mem ((yy zs).mem_iff.mpr hb)
 have e1:=List.getElem_idxOf i1
 have e2:=List.getElem_idxOf i2
 rcases Nat.lt_trichotomy ((wQ zs).idxOf a) ((wQ zs).idxOf b) with h|h|h
 . have:=List.pairwise_iff_getElem.mp hs _ _ i1 i2 h
   rw[e1,e2]at this
   rw[this];exact(decide_eq_true (by omega)).symm
 . have:a=b:=by rw[←e1,←e2];exact getElem_congr_idx h
   rw[this,rA];exact(decide_eq_false (by omega)).symm
 . have:=List.pairwise_iff_getElem.mp hs _ _ i2 i1 h
   rw[e1,e2]at this
   rw[qY this];exact(decide_eq_false (by omega)).symm
theorem eB{zs:List (List Int)}{a b:List Int}(ha:a∈zs)(hb:b∈zs)(h:((wQ zs).idxOf a:Int)=(wQ zs).idxOf b):a=b:=by
 have i1:=List.idxOf_lt_length_of_mem ((yy zs).mem_iff.mpr ha)
 have i2:=List.idxOf_lt_length_of_mem ((yy zs).mem_iff.mpr hb)
 rw[←List.getElem_idxOf i1,←List.getElem_idxOf i2]
 exact getElem_congr_idx (by omega)
theorem eA{zs l:List (List Int)}(hn:zs.Nodup)(hp:l.Perm zs)(h:l.Pairwise fun a b=>((wQ zs).idxOf a:Int)<(wQ zs).idxOf b):l=wQ zs:=by
 refine List.Perm.eq_of_pairwise (le:=fun a b=>xJ a b=true) (fun a b _ _ h k=>?_) (h.imp_of_mem fun{a b} ha hb w=>?_) (rY hn) (hp.trans (yy zs).symm)
 . rw[qY h]at k;cases k
 . rw[nN hn (hp.mem_iff.mp ha) (hp.mem_iff.mp hb)];exact decide_eq_true w
noncomputable def plI(z:Int × Int):List Int:=[z.1,z.2]
noncomputable def gU:List Int→Int
 |[a,b]=>yU (a,b)
 |_=>0
theorem dq{a b:Int × Int}(ha:0≤a.2∧a.2<1000)(hb:0≤b.2∧b.2<1000):xJ (plI a) (plI b)=decide (gU (plI a)<gU (plI b)):=by
 rw[show gU (plI a)=yU a from rfl,show gU (plI b)=yU b from rfl,decide_eq_decide.mpr (ik ha hb)]
 unfold plI xJ xJ xJ
 by_cases h1:a.1=b.1
 . rw[if_pos h1]
   by_cases h2:a.2=b.2
   . rw[if_pos h2];exact(decide_eq_false (by omega)).symm
   . rw[if_neg h2];exact decide_eq_decide.mpr (by omega)
 . rw[if_neg h1];exact decide_eq_decide.mpr (by omega)
theorem cm{a b:Int × Int}(h:plI a=plI b):a=b:=by
 unfold plI at h
 injection h with h1 h2
 injection h2 with h2 _
 exact Prod.ext h1 h2
end L2
end
section
namespace L2
open PySem PySem.Calls PyProof PyProof.Rows
open AutoSeq1 (wpAny_loadPart')
section
variable {prog:Program}{w:World}{A:Around}{E:Value→Shared→Prop}{s:Shared}
theorem tm{it t:Addr}{i:Nat}{items:Array Value}{x:Value}{Q:Value→Shared→Prop}(hit:s.heap.IsTupleIter it t i)(ht:s.heap.IsTuple t items)(hx:items[i]?=some x)
 (hQ:∀h',h'.IsTupleIter it t (i+1)→Heap.SameBut it s.heap h'→Q x {s with heap:=h'}):wpAny (model prog w) A (Builtin.SmallTypes.nextOf (.ref it)) Q E s:=by
 obtain⟨o,ho,hc,hd⟩:=id hit
 obtain⟨ol,hol,_,nl,hdl⟩:=ht
 unfold Builtin.SmallTypes.nextOf
 refine wpAny_bind (wpAny_callSpecial?_slot (name:=Str.ofString "__next__") hit.typeIs F.slot_tuple_iterator_next
  (wpAny_call_entry F.slot_tuple_iterator_next hit.typeIs F.entry_tuple_iterator_next ?_ (F.args_tuple_iterator_next_1 _)))
 show wpAny _ _ (field (.ref it) 0 >>= _) _ _ s
 refine wpAny_bind (wpAny_field ho hd (x:=.ref t) rfl ?_)
 show wpAny _ _ (if (Value.ref t == Value.none)=true then _ else _) _ _ s
 rw[if_neg (show ¬((Value.ref t == Value.none)=true) from Bool.false_ne_true)]
 show wpAny _ _ (field (.ref it) 1 >>= _) _ _ s
 refine wpAny_bind (wpAny_field ho hd (x:=.int i 0) rfl ?_)
 show wpAny _ _ (seqItems? (.ref t) >>= _) _ _ s
 refine wpAny_bind (wpAny_seqItems hol hdl ?_)
 simp only[Int.toNat_natCast,hx]
 refine wpAny_bind (wpAny_setField ho hd (by simp) (wpAny_pure ⟨x,rfl,wpAny_pure (hQ _ ?_ (Heap.SameBut.update ..))⟩))
 exact⟨_,Heap.get?_update_self _ ho (Obj.isFreed_of_fields (Obj.data_mapFields hd _)),(Obj.cls_mapFields ..).trans hc,by
  rw[Obj.data_mapFields hd];simp[rawInt]⟩
theorem rH{it t:Addr}{i:Nat}{items:Array Value}{Q:Value→Shared→Prop}(hh:A.handled=none)(hit:s.heap.IsTupleIter it t i)(ht:s.heap.IsTuple t items)(hx:items[i]?=none)
 (hE:∀h' e,Heap.ExtBut it s.heap h'→(∃o,h'.get? e=some o∧o.cls=.type "StopIteration")→E (.ref e) {s with heap:=h'}):wpAny (model prog w) A (Builtin.SmallTypes.nextOf (.ref it)) Q E s:=by
 obtain⟨o,ho,hc,hd⟩:=id hit
 obtain⟨ol,hol,_,nl,hdl⟩:=ht
 unfold Builtin.SmallTypes.nextOf
 refine wpAny_bind (wpAny_callSpecial?_slot (name:=Str.ofString "__next__") hit.typeIs F.slot_tuple_iterator_next
  (wpAny_call_entry F.slot_tuple_iterator_next hit.typeIs F.entry_tuple_iterator_next ?_ (F.args_tuple_iterator_next_1 _)))
 show wpAny _ _ (field (.ref it) 0 >>= _) _ _ s
 refine wpAny_bind (wpAny_field ho hd (x:=.ref t) rfl ?_)
 show wpAny _ _ (if (Value.ref t == Value.none)=true then _ else _) _ _ s
 rw[if_neg (show ¬((Value.ref t == Value.none)=true) from Bool.false_ne_true)]
 show wpAny _ _ (field (.ref it) 1 >>= _) _ _ s
 refine wpAny_bind (wpAny_field ho hd (x:=.int i 0) rfl ?_)
 show wpAny _ _ (seqItems? (.ref t) >>= _) _ _ s
 refine wpAny_bind (wpAny_seqItems hol hdl ?_)
 simp only[Int.toNat_natCast,hx]
 first
  |refine wpAny_bind (wpAny_rule (wpAny_bind (wpAny_setField ho hd (by simp) ?_)))
  |refine wpAny_bind (wpAny_setField ho hd (by simp) ?_)
 first
  |show wpAny _ _ (newExc (.type "StopIteration") [] >>= _) _ _ _
  |(refine wpAny_bind (wpAny_letGo ?_);show wpAny _ _ (newExc (.type "StopIteration") [] >>= _) _ _ _)
 refine wpAny_bind ?_
 simp only[newExc,newTuple]
 refine wpAny_bind (wpAny_newObj_type ?_ (by size_fits))
 refine wpAny_bind (m:=firstArgMember _ _) (wpAny_of_eq (a:=Value.none) (by first|rfl|(simp only[firstArgMember];rfl)) ?_)
 refine wpAny_newObj_type ?_ (by size_fits)
 simp only[raiseNew]
 refine wpAny_bind (wpAny_handled ?_)
 first|rw[show A.in1.handled=none from hh]|rw[hh]
 refine wpAny_bind (wpAny_pure (wpAny_throw ?_))
 exact hE _ _ (((Heap.SameBut.update ..).extBut.push _).push _) ⟨_,Heap.get?_push_size _ rfl,rfl⟩
end
theorem qS{prog:Program}{w:World}{A:Around}(hh:A.handled=none)(it t:Addr)(hne:t≠it)(items:Array Value) :
 Draws prog w A it [it,t] items.size (fun i v=>items[i]?=some v) (fun i h=>h.IsTupleIter it t i∧h.IsTuple t items) where
 live:=fun _ _ st=>let ⟨o,ho,_⟩:=st.1;⟨o,ho⟩
 frame:=fun _ _ _ st hk=>⟨st.1.at fun o e=>hk it (by simp) o e,let ⟨o,ho,r⟩:=st.2;⟨o,hk t (by simp) o ho,r⟩⟩
 item:=fun i s Q E hi st hQ=>by
  refine tm st.1 st.2 (x:=items[i]) (by simp[hi]) fun h' hit' hs'=>?_
  exact hQ _ h' s.toks (by simp[hi]) ⟨hit',let ⟨o,ho,r⟩:=st.2;⟨o,hs'.extBut t o hne ho,r⟩⟩ hs'
 done:=fun s Q E st hE=>rH hh st.1 st.2 (by simp) hE
theorem rC(l:Addr)(items:Array Value)(n:Nat)(dct:Option Addr)(sl:Array (Option Value)) :
 Meets (Builtin.«enumerate.__new__» ⟨[.type "enumerate",.ref l],[]⟩) (fun _ R s=>s.heap.get? l=some {cls:=.type "tuple",dict:=dct,data:=.seq items n,slots:=sl} ∧
  R (.ok (.ret (.ref (s.heap.push {cls:=.type "tuple_iterator",data:=.fields #[.ref l,.int 0 0]}).objs.size)))
    {s with heap:=(s.heap.push {cls:=.type "tuple_iterator",data:=.fields #[.ref l,.int 0 0]}).push {cls:=.type "enumerate",data:=.fields #[.none,.bool false,.ref s.heap.objs.size,rawInt 0,.none,.none]}}):=
 .of_wp fun prog w A R s h=>by
  obtain⟨hp,g,d,tk,os⟩:=s;obtain⟨hl,h⟩:=h
  have hsub:=sub_enumerate
  have hL:Heap.IsTuple (Shared.heap ⟨hp,g,d,tk,os⟩) l items:=⟨_,hl,rfl,n,rfl⟩
  wp_walk using wpAny_loadPart' hl
  refine wpAny_stack_any fun st=>wpAny_pure ?_
  split
  . rename_i c _ _ _ _ _
    cases (c == Value.type "enumerate")
    . wp_walk using wpAny_loadPart' hl,wpAny_pyIter_tuple hL
      exact⟨_,rfl,h⟩
    . wp_walk using wpAny_loadPart' hl,wpAny_pyIter_tuple hL
      exact⟨_,rfl,h⟩
  . wp_walk using wpAny_loadPart' hl,wpAny_pyIter_tuple hL
    exact⟨_,rfl,h⟩
section
variable {prog:Program}{w:World}{A:Around}{E:Value→Shared→Prop}{s:Shared}
theorem rm{l:Addr}{items:Array Value}{Q:Value→Shared→Prop}(hL:s.heap.IsTuple l items)
 (h:∀h',IsEnum h' (s.heap.objs.size+1) s.heap.objs.size 0 .none→h'.IsTupleIter s.heap.objs.size l 0→h'.objs.size=s.heap.objs.size+2 →
  (∀b o,s.heap.get? b=some o→h'.get? b=some o)→Q (.ref (s.heap.objs.size+1)) {s with heap:=h'}) :
 wpAny (model prog w) A (call (.type "enumerate") [.ref l]) Q E s:=by
 obtain⟨⟨c,dct,dt,sl⟩,hl,hc,n,hd⟩:=hL
 replace hc:c=.type "tuple":=hc
 replace hd:dt=.seq items n:=hd
 subst hc hd
 refine callType_new F.called_enumerate (by decide) (F.typeCall_enumerate_1 _) (F.newCall_enumerate_1 _) (fun obj=>F.args_object_init_2 obj _) F.entry_enumerate_new
  (rC l items n dct sl) ⟨hl,?_⟩
 have hz:(s.heap.push {cls:=.type "tuple_iterator",data:=.fields #[.ref l,.int 0 0]}).objs.size=s.heap.objs.size+1:=Heap.size_push ..
 show _∧_
 rw[hz]
 have he:IsEnum ((s.heap.push {cls:=.type "tuple_iterator",data:=.fields #[.ref l,.int 0 0]}).push
  {cls:=.type "enumerate",data:=.fields #[.none,.bool false,.ref s.heap.objs.size,rawInt 0,.none,.none]}) (s.heap.objs.size+1) s.heap.objs.size 0 .none:=by
  have:=Heap.get?_push_size (s.heap.push {cls:=.type "tuple_iterator",data:=.fields #[.ref l,.int 0 0]})
   (o:={cls:=.type "enumerate",data:=.fields #[.none,.bool false,.ref s.heap.objs.size,rawInt 0,.none,.none]}) rfl
  rw[hz]at this;exact this
 refine⟨⟨_,he,rfl⟩,h _ he ⟨_,Heap.get?_push_of_some _ (Heap.get?_push_size _ rfl),rfl,rfl⟩ (by rw[Heap.size_push,hz]) fun b o x=>Heap.get?_push_of_some _ (Heap.get?_push_of_some _ x)⟩
end
end L2
end
section
namespace L2
open PySem PySem.Calls PyProof PyProof.Rows
noncomputable def Ite(K:PySem.W.Frag)(a:Addr):It:=
 ⟨fun i H=>∃xs x,SqT K H a xs∧xs[i]?=some x,fun i H x H'=>∃t y,H t=none∧x=.ref t∧(∀xs,SqT K H a xs→xs[i]?=some y)∧H'=upd H t (.tup [.int (i:Nat),y]),fun i H=>∃xs,SqT K H a xs∧xs.length=i⟩
theorem Inv.ke{X:Cx}{pins:List (Addr × Obj)}{σ:St}{H:Hp}{s:Shared}{h':Heap}{t':Nat}{e it T:Addr}{ys:List V}{its:List Value}{n:Nat}(I:Inv X pins σ H s)(fe:vj X pins H e)(fi:vj X pins H it)
 (k:∀b o,b≠e→b≠it→s.heap.get? b=some o→h'.get? b=some o) (hT:s.heap.objs.size≤T) (hz:ys.length≤sizeLine) (r:Vals ys its) (ho:h'.get? T=some {cls:=.type "tuple",data:=.seq its.toArray n}) :
 Inv X pins σ (upd H T (.tup ys)) {s with heap:=h',toks:=t'}:=by
 obtain⟨e0,e1,e2,e3,e4,e5⟩:=fe
 obtain⟨i0,i1,i2,i3,i4,i5⟩:=fi
 have hn:H T=none:=I.hok.fresh hT
 have neT:∀b u,H b=some u→b≠T:=fun b u q z=>by rw[z,hn]at q;cases q
 have nee:∀b u,H b=some u→b≠e:=fun b u q z=>by rw[z,e0]at q;cases q
 have nei:∀b u,H b=some u→b≠it:=fun b u q z=>by rw[z,i0]at q;cases q
 have neoT:∀b o,s.heap.get? b=some o→b≠T:=fun b o q z=>absurd (Nat.lt_of_lt_of_le (Heap.lt_size q) hT) (by rw[z];exact Nat.lt_irrefl _)
 refine I.step (g':=s.gens) (d':=s.drawn) (ch:=[e,it]) (fun b hb=>?_) (fun b o _ _ hc q _=>k b o (fun z=>hc (by simp[z])) (fun z=>hc (by simp[z])) q) (fun b o _ _ hc q _=>⟨o.slots,k b o (fun z=>hc (by simp[z])) (fun z=>hc (by simp[z])) q⟩)
  (fun b o _ q m=>by rw[zS (neoT b o q)];exact m) (fun b o hc q=>⟨o,k b o (fun z=>hc (by simp[z])) (fun z=>hc (by simp[z])) q⟩) (fun b xs q=>by rw[zS (neT b _ q)];exact q) (fun b o u q=>by rw[zS (neT b _ q)];exact q)
  (fun b ps q=>⟨#[],by rw[zS (neT b _ q),q];simp⟩) (fun m hm=>?_) (fun b u q=>?_) I.bare
 . rcases List.mem_cons.mp hb with z|hb
   . subst z;exact⟨e3,e1,e4,e5⟩
   . have z:=List.mem_singleton.mp hb
     subst z;exact⟨i3,i1,i4,i5⟩
 . obtain⟨o,es,ep,ho,r⟩:=hm
   exact⟨o,es,ep,k _ o (Ne.symm e1) (Ne.symm i1) ho,r⟩
 . by_cases hb:b=T
   . subst hb
     rw[z8]at q
     cases q
     exact⟨hz,its,r,_,ho,rfl,n,rfl,rfl⟩
   . rw[zS hb]at q
     refine(I.hok b u q).m5 (fun c v hc w=>k c v ?_ ?_ w) (fun c hc=>by rw[zS (neT c _ hc)];exact hc) fun c xs hc=>by rw[zS (neT c _ hc)];exact hc
     . rcases hc with z|z
       . rw[z];exact nee b u q
       . exact nee c _ z
     . rcases hc with z|z
       . rw[z];exact nei b u q
       . exact nei c _ z
theorem Inv.kc{X:Cx}{pins:List (Addr × Obj)}{σ:St}{H:Hp}{s:Shared}{h':Heap}{t':Nat}{it:Addr}(I:Inv X pins σ H s)(fi:vj X pins H it)(k:∀b o,b≠it→s.heap.get? b=some o→h'.get? b=some o):Inv X pins σ H {s with heap:=h',toks:=t'}:=by
 obtain⟨i0,i1,i2,i3,i4,i5⟩:=fi
 exact I.turned k i0 i1 i3 i4 i5
theorem iE{P:Program}{w:World}{K:PySem.W.Frag}{elts:List Expr}{x1:Nat}{pos:Pos}(a e it:Addr)(hei:e≠it):Turn P w K (.Tuple elts x1 pos) (Ite K a) [e,it] e (fun i h=>(∃old,IsEnum h e it (i:Nat) old)∧h.IsTupleIter it a i) where
 mem:=by simp
 obj:=fun i h st b hb=>by
  rcases List.mem_cons.mp hb with z|hb
  . subst z
    obtain⟨old,he⟩:=st.1
    exact⟨_,he,fun v z=>by cases (show Data.fields _=Data.cell v from z)⟩
  . have z:=List.mem_singleton.mp hb
    subst z
    obtain⟨o,q,c,d⟩:=st.2
    exact⟨o,q,fun v z=>by rw[d]at z;cases z⟩
 keep:=fun i h h' st k=>⟨let ⟨old,he⟩:=st.1;⟨old,k e (by simp) _ he⟩,st.2.at fun o q=>k it (by simp) o q⟩
 item:=by
  intro X hP hw hK hc i pins s σ H E I hf st hg
  subst hP hw hK
  obtain⟨xs,x,hq,hx⟩:=hg
  obtain⟨⟨old,he⟩,hit⟩:=st
  obtain⟨its,rv,p,hz⟩:=I.tuple hq
  obtain⟨u,hu,ru⟩:=rv.get hx
  have hlen:=rv.length
  have hi:i<xs.length:=(List.getElem?_eq_some_iff.mp hx).1
  have hai:a≠it:=fun z=>by
   obtain⟨o1,q1,c1,_⟩:=id p
   obtain⟨o2,q2,c2,_⟩:=id hit
   rw[z,q2]at q1;cases q1
   rw[c2]at c1;exact absurd (Value.type.inj c1) (by decide)
  have hae:a≠e:=fun z=>by
   obtain⟨o1,q1,c1,_⟩:=id p
   have he':s.heap.get? e=_:=he
   rw[z,he']at q1;cases q1
   exact absurd (Value.type.inj c1) (by decide)
  have D:=qS (prog:=X.prog) (w:=X.w) (A:=X.A.in1) (I.ok.hd hc) it a hai its.toArray
  refine wpAny_pyNext_enum_itemD D he ⟨hit,p⟩ (by rw[List.size_toArray];omega) hei (fun m=>?_) fun v h1 tk hP ho hs1 hT hsz hk=>?_
  . rcases List.mem_cons.mp m with z|m
    . exact hei z
    . exact hae (List.mem_singleton.mp m).symm
  . have hP:its.toArray[i]?=some v:=hP
    have ev:v=u:=by
     rw[List.getElem?_toArray,hu]at hP
     exact(Option.some.inj hP).symm
    subst ev
    refine⟨_,rfl,wpAny_letOwnedTupleGo_enum (s:={s with heap:=h1,toks:=tk+1}) ho fun h2 he2 sb=>?_⟩
    have sz:s.heap.objs.size≠e:=Nat.ne_of_gt (Heap.lt_size he)
    refine⟨.ref s.heap.objs.size,_,Inv.ke (s:=s) (h':=h2) (t':=tk+1) (T:=s.heap.objs.size) (ys:=[.int (i:Nat),x]) (its:=[.int (i:Nat) tk,v]) (n:=0) I (hf e (by simp)) (hf it (by simp)) (fun b o h1' h2' q=>(sb.2 b h1').trans (hk b o h1' h2' q)) (Nat.le_refl _) (by rw[sizeLine_eq];show 2≤_;decide) (.cons ⟨tk,rfl⟩ (.cons ru .nil)) ((sb.2 _ sz).trans hT),rfl,
     ⟨s.heap.objs.size,x,I.hok.fresh (Nat.le_refl _),rfl,fun ys hy=>by rw[I.qr hy hq];exact hx,rfl⟩,⟨⟨v,by simpa using he2⟩,hs1.1.at fun o q=>(sb.2 it (Ne.symm hei)).trans q⟩,fun b hb=>?_⟩
    rw[zS (fun z=>?_)]
    . exact(hf b hb).1
    . have hlt:b<s.heap.objs.size:=by
       rcases List.mem_cons.mp hb with y|hb
       . rw[y];exact Heap.lt_size he
       . rw[List.mem_singleton.mp hb];obtain⟨o,q,_⟩:=hit;exact Heap.lt_size q
      exact absurd z (Nat.ne_of_lt hlt)
 done:=by
  intro X hP hw hK hc i pins s σ H E I hf st hg
  subst hP hw hK
  obtain⟨xs,hq,hx⟩:=hg
  obtain⟨⟨old,he⟩,hit⟩:=st
  obtain⟨its,rv,p,hz⟩:=I.tuple hq
  have hlen:=rv.length
  have hai:a≠it:=fun z=>by
   obtain⟨o1,q1,c1,_⟩:=id p
   obtain⟨o2,q2,c2,_⟩:=id hit
   rw[z,q2]at q1;cases q1
   rw[c2]at c1;exact absurd (Value.type.inj c1) (by decide)
  have D:=qS (prog:=X.prog) (w:=X.w) (A:=X.A.in1) (I.ok.hd hc) it a hai its.toArray
  have en:its.toArray.size=i:=by rw[List.size_toArray];omega
  exact wpAny_pyNext_enum_endD D he ⟨by rw[en];exact hit,p⟩ fun h' eb=>⟨rfl,I.kc (t':=s.toks) (hf it (by simp)) fun b o hb q=>eb b o hb q⟩
 self:=fun _ _ _ _ _ st h=>let ⟨old,he⟩:=st.1;wpAny_pyIter_enum he h
noncomputable def aN(K:PySem.W.Frag)(a:Addr):It:=
 ⟨fun i H=>∃xs x,SqL K H a xs∧xs[i]?=some x,fun i H x H'=>∃t y,H t=none∧x=.ref t∧(∀xs,SqL K H a xs→xs[i]?=some y)∧H'=upd H t (.tup [.int (i:Nat),y]),fun i H=>∃xs,SqL K H a xs∧xs.length=i⟩
theorem lG{P:Program}{w:World}{K:PySem.W.Frag}{elts:List Expr}{x1:Nat}{pos:Pos}(a e it:Addr)(hei:e≠it):Turn P w K (.Tuple elts x1 pos) (aN K a) [e,it] e (fun i h=>(∃old,IsEnum h e it (i:Nat) old)∧h.IsListIter it a i) where
 mem:=by simp
 obj:=fun i h st b hb=>by
  rcases List.mem_cons.mp hb with z|hb
  . subst z
    obtain⟨old,he⟩:=st.1
    exact⟨_,he,fun v z=>by cases (show Data.fields _=Data.cell v from z)⟩
  . have z:=List.mem_singleton.mp hb
    subst z
    obtain⟨o,q,c,d⟩:=st.2
    exact⟨o,q,fun v z=>by rw[d]at z;cases z⟩
 keep:=fun i h h' st k=>⟨let ⟨old,he⟩:=st.1;⟨old,k e (by simp) _ he⟩,st.2.at fun o q=>k it (by simp) o q⟩
 item:=by
  intro X hP hw hK hc i pins s σ H E I hf st hg
  subst hP hw hK
  obtain⟨xs,x,hq,hx⟩:=hg
  obtain⟨⟨old,he⟩,hit⟩:=st
  obtain⟨its,rv,p0,hz⟩:=I.list hq
  have p:=p0.isList
  obtain⟨u,hu,ru⟩:=rv.get hx
  have hlen:=rv.length
  have hi:i<xs.length:=(List.getElem?_eq_some_iff.mp hx).1
  have hai:a≠it:=fun z=>by
   obtain⟨o1,q1,c1,_⟩:=id p
   obtain⟨o2,q2,c2,_⟩:=id hit
   rw[z,q2]at q1;cases q1
   rw[c2]at c1;exact absurd (Value.type.inj c1) (by decide)
  have hae:a≠e:=fun z=>by
   obtain⟨o1,q1,c1,_⟩:=id p
   have he':s.heap.get? e=_:=he
   rw[z,he']at q1;cases q1
   exact absurd (Value.type.inj c1) (by decide)
  have D:=Draws.list (prog:=X.prog) (w:=X.w) (A:=X.A.in1) (I.ok.hd hc) it a hai its.toArray
  refine wpAny_pyNext_enum_itemD D he ⟨hit,p⟩ (by rw[List.size_toArray];omega) hei (fun m=>?_) fun v h1 tk hP ho hs1 hT hsz hk=>?_
  . rcases List.mem_cons.mp m with z|m
    . exact hei z
    . exact hae (List.mem_singleton.mp m).symm
  . have hP:its.toArray[i]?=some v:=hP
    have ev:v=u:=by
     rw[List.getElem?_toArray,hu]at hP
     exact(Option.some.inj hP).symm
    subst ev
    refine⟨_,rfl,wpAny_letOwnedTupleGo_enum (s:={s with heap:=h1,toks:=tk+1}) ho fun h2 he2 sb=>?_⟩
    have sz:s.heap.objs.size≠e:=Nat.ne_of_gt (Heap.lt_size he)
    refine⟨.ref s.heap.objs.size,_,Inv.ke (s:=s) (h':=h2) (t':=tk+1) (T:=s.heap.objs.size) (ys:=[.int (i:Nat),x]) (its:=[.int (i:Nat) tk,v]) (n:=0) I (hf e (by simp)) (hf it (by simp)) (fun b o h1' h2' q=>(sb.2 b h1').trans (hk b o h1' h2' q)) (Nat.le_refl _) (by rw[sizeLine_eq];show 2≤_;decide) (.cons ⟨tk,rfl⟩ (.cons ru .nil)) ((sb.2 _ sz).trans hT),rfl,
     ⟨s.heap.objs.size,x,I.hok.fresh (Nat.le_refl _),rfl,fun ys hy=>by rw[I.oZ hy hq];exact hx,rfl⟩,⟨⟨v,by simpa using he2⟩,hs1.1.at fun o q=>(sb.2 it (Ne.symm hei)).trans q⟩,fun b hb=>?_⟩
    rw[zS (fun z=>?_)]
    . exact(hf b hb).1
    . have hlt:b<s.heap.objs.size:=by
       rcases List.mem_cons.mp hb with y|hb
       . rw[y];exact Heap.lt_size he
       . rw[List.mem_singleton.mp hb];obtain⟨o,q,_⟩:=hit;exact Heap.lt_size q
      exact absurd z (Nat.ne_of_lt hlt)
 done:=by
  intro X hP hw hK hc i pins s σ H E I hf st hg
  subst hP hw hK
  obtain⟨xs,hq,hx⟩:=hg
  obtain⟨⟨old,he⟩,hit⟩:=st
  obtain⟨its,rv,p0,hz⟩:=I.list hq
  have p:=p0.isList
  have hlen:=rv.length
  have hai:a≠it:=fun z=>by
   obtain⟨o1,q1,c1,_⟩:=id p
   obtain⟨o2,q2,c2,_⟩:=id hit
   rw[z,q2]at q1;cases q1
   rw[c2]at c1;exact absurd (Value.type.inj c1) (by decide)
  have D:=Draws.list (prog:=X.prog) (w:=X.w) (A:=X.A.in1) (I.ok.hd hc) it a hai its.toArray
  have en:its.toArray.size=i:=by rw[List.size_toArray];omega
  exact wpAny_pyNext_enum_endD D he ⟨by rw[en];exact hit,p⟩ fun h' eb=>⟨rfl,I.kc (t':=s.toks) (hf it (by simp)) fun b o hb q=>eb b o hb q⟩
 self:=fun _ _ _ _ _ st h=>let ⟨old,he⟩:=st.1;wpAny_pyIter_enum he h
noncomputable def XE(K:PySem.W.Frag)(ta:TA):TI:=fun σ H R=>ta σ H fun vs H1=>∃a,vs=[.ref a]∧(((∃xs,SqT K H1 a xs)∧R (Ite K a) H1)∨((∃xs,SqL K H1 a xs)∧R (aN K a) H1))
theorem cj{X:Cx}{elts:List Expr}{x1:Nat}{tpos:Pos}{a:Expr}{ta:TA}{p pos:Pos}(hg:Gl X "enumerate")(hm:X.mg "enumerate"=none)(ha:PA X [a] ta)(hs:starEach [a] X.env=[(false,eval a X.env)]:=by rfl):PI X (.Tuple elts x1 tpos) (.Call (.Name "enumerate" p) [a] [] pos) (XE X.K ta):=by
 intro pins s σ H R I h
 refine Call_ (u6 I hg hm boot_enumerate (PyProof.Rows.callWith_type1 (thn (ha pos pins s σ H _ I h) fun us s1 ⟨vs,H1,I1,r1,q1⟩=>?_) hs rfl))
 obtain⟨c,e,q⟩:=q1
 subst e
 cases r1 with
 |cons r rr=>
  cases rr
  cases r
  have fp:∀b∈[s1.heap.objs.size+1,s1.heap.objs.size],vj X pins H1 b:=fun b hb=>by
   have hb':s1.heap.objs.size≤b:=by
    rcases List.mem_cons.mp hb with z|hb
    . rw[z];exact Nat.le_succ _
    . rw[List.mem_singleton.mp hb];exact Nat.le_refl _
   exact I1.dG hb' (I1.hok.fresh hb')
  rcases q with⟨⟨xs,hq⟩,q⟩|⟨⟨xs,hq⟩,q⟩
  . obtain⟨its,rv,pt,hz⟩:=I1.tuple hq
    refine rm (show s1.heap.IsTuple c its.toArray from pt) fun h' he hit hsz hk=>wpAny_pyIter_enum he ?_
    exact⟨s1.heap.objs.size+1,[s1.heap.objs.size+1,s1.heap.objs.size],_,_,H1,rfl,I1.kept (t':=s1.toks) hk,iE c _ _ (Nat.succ_ne_self _),⟨⟨_,he⟩,hit⟩,fp,q⟩
  . obtain⟨its,rv,pt,hz⟩:=I1.list hq
    refine call_enumerate_list pt.isList fun h' he hit hsz hk=>wpAny_pyIter_enum he ?_
    exact⟨s1.heap.objs.size+1,[s1.heap.objs.size+1,s1.heap.objs.size],_,_,H1,rfl,I1.kept (t':=s1.toks) hk,lG c _ _ (Nat.succ_ne_self _),⟨⟨_,he⟩,hit⟩,fp,q⟩
end L2
end
section
namespace L2
open PySem PyProof.Rows
noncomputable def intsOf:List Expr→Option (List Int)
 |[]=>some []
 |.Constant (.int i) _ _::es=>(intsOf es).map fun r=>i::r
 |.UnaryOp .USub (.Constant (.int i) _ _) _::es=>(intsOf es).map fun r=>-i::r
 |_=>none
end L2
end
section
namespace M
open PySem
inductive Val where
 |none|bool (b:Bool)|int (i:Int)|str (x:Str)
 |tup (vs:List Val)|lst (vs:List Val)|dct0
 |ctup (ns:List Int)|scr (ns:List Int)
 |ref (i:Nat)|fn (x:Str)|ty (n:String)
 deriving Inhabited
inductive Cel where
 |lst (vs:List Val)
 deriving Inhabited
noncomputable abbrev Sto:=List Cel
noncomputable abbrev Env:=List (Option Val)
inductive Out(α:Type) where
 |ok (a:α) (s:Sto)
 |exc (c:Str) (args:List Val) (s:Sto)
 |stuck
noncomputable def Out.bind{α β:Type}(o:Out α)(f:α→Sto→Out β):Out β:=
 match o with
 |.ok a s=>f a s
 |.exc c as s=>.exc c as s
 |.stuck=>.stuck
@[simp] theorem za{α β:Type}(a:α)(s:Sto)(f:α→Sto→Out β):(Out.ok a s).bind f=f a s:=rfl
@[simp] theorem sQ{α β:Type}(f:α→Sto→Out β):(Out.stuck:Out α).bind f=.stuck:=rfl
@[simp] theorem iT{α β:Type}(c:Str)(as:List Val)(s:Sto)(f:α→Sto→Out β):(Out.exc c as s:Out α).bind f=.exc c as s:=rfl
mutual
noncomputable def Val.isD:Val→Bool
 |.none|.bool _|.int _=>true
 |.str x=>PyData.strOk x
 |.tup vs=>xc vs
 |.lst vs=>xc vs
 |.dct0|.ctup _|.scr _|.ref _|.fn _|.ty _=>false
noncomputable def xc:List Val→Bool
 |[]=>true
 |v::vs=>v.isD&&xc vs
end
mutual
noncomputable def Val.isR:Val→Bool
 |.none|.bool _|.int _|.str _|.dct0=>true
 |.tup vs=>tj vs
 |.lst vs=>tj vs
 |.ctup _|.scr _|.ref _|.fn _|.ty _=>false
noncomputable def tj:List Val→Bool
 |[]=>true
 |v::vs=>v.isR&&tj vs
end
mutual
noncomputable def Val.d:Val→PyData
 |.none=>.none
 |.bool b=>.bool b
 |.int i=>.int i
 |.str x=>.str x
 |.tup vs=>.tuple (ds vs)
 |.lst vs=>.list (ds vs)
 |.dct0=>.dict []
 |.ctup _|.scr _|.ref _|.fn _|.ty _=>.none
noncomputable def ds:List Val→List PyData
 |[]=>[]
 |v::vs=>v.d::ds vs
end
mutual
noncomputable def Val.noRef:Val→Bool
 |.ref _=>false
 |.tup vs=>zm vs
 |.lst vs=>zm vs
 |.none|.bool _|.int _|.str _|.dct0|.ctup _|.scr _|.fn _|.ty _=>true
noncomputable def zm:List Val→Bool
 |[]=>true
 |v::vs=>v.noRef&&zm vs
end
noncomputable def Cel.noRef:Cel→Bool
 |.lst vs=>zm vs
mutual
noncomputable def Val.beq:Val→Val→Bool
 |.none,.none=>true
 |.bool a,.bool b=>a == b
 |.int a,.int b=>a == b
 |.str a,.str b=>a == b
 |.tup a,.tup b=>pC a b
 |.lst a,.lst b=>pC a b
 |.dct0,.dct0=>true
 |.ctup a,.ctup b=>a == b
 |.scr a,.scr b=>a == b
 |.ref a,.ref b=>a == b
 |.fn a,.fn b=>a == b
 |.ty a,.ty b=>a == b
 |_,_=>false
noncomputable def pC:List Val→List Val→Bool
 |[],[]=>true
 |a::as,b::bs=>a.beq b&&pC as bs
 |_,_=>false
end
noncomputable def Cel.beq:Cel→Cel→Bool
 |.lst a,.lst b=>pC a b
noncomputable def wF:Sto→Sto→Bool
 |[],_=>true
 |o::r,o'::r'=>(o'.noRef||o'.beq o)&&wF r r'
 |_::_,[]=>false
mutual
noncomputable def uR(n0:Nat)(s:Sto):Nat→Val→Option Val
 |_,.ref i=>if i<n0 then some (.ref i) else match s[i]? with
  |some (.lst vs)=>if zm vs then some (.lst vs) else Option.none
  |Option.none=>Option.none
 |k+1,.tup vs=>(sC n0 s k vs).map .tup
 |_,v=>if v.noRef then some v else Option.none
noncomputable def sC(n0:Nat)(s:Sto):Nat→List Val→Option (List Val)
 |_,[]=>some []
 |0,_::_=>Option.none
 |k+1,v::vs=>match (if v.noRef then some v else uR n0 s k v),sC n0 s k vs with
  |some v',some vs'=>some (v'::vs')
  |_,_=>Option.none
end
noncomputable def freeze(n0:Nat)(s:Sto)(v:Val):Option Val:=if v.noRef then some v else uR n0 s 20 v
inductive Bop|add|sub|mul|fdiv|mod|pow|shl|shr|band
 deriving DecidableEq
inductive Cop|eq|ne|lt|le|gt|ge|is|isNot|in_|notIn
 deriving DecidableEq
inductive Bf|len|all|any|tuple|list|sorted|repr|max|min|sum|int|isi|divmod|str
 deriving DecidableEq
inductive Mf|count|append|extend|pop|index
 deriving DecidableEq
inductive Tgt
 |nm (i:Nat)
 |nms (is:List Nat)
mutual
inductive Ex
 |lit (v:Val)|var (i:Nat)|gl (x:Str)|ty (x:Str) (n:String)
 |bin (m:Bool) (op:Bop) (a b:Ex)|neg (a:Ex)|not (a:Ex)
 |cmp (op:Cop) (a b:Ex)|chain (op op':Cop) (a b c:Ex)
 |andE (a:Ex) (es:Exs)|orE (a:Ex) (es:Exs)|ife (c:Cn) (a b:Ex)
 |tup (es:Exs)|lst (m:Bool) (es:Exs)|dct0
 |call (f:Str) (ver:Nat) (es:Exs)|blt (f:Bf) (m:Bool) (es:Exs)|maxD (a d:Ex)
 |yY (f:Mf) (m:Bool) (o:Ex) (es:Exs)
 |ix (a b:Ex)|sl (m:Bool) (a:Ex) (lo hi st:OEx)
 |comp (m:Bool) (N:List Str) (fr:List (Option Nat)) (elt:Ex) (t:Tgt) (it:Itb) (ifs:Cns)
 |comp2 (m:Bool) (N:List Str) (fr:List (Option Nat)) (elt:Ex) (t:Tgt) (it:Itb) (ifs:Cns) (t2:Tgt) (it2:Itb) (ifs2:Cns)
 |listRange (m:Bool) (a b c:Ex)
inductive Exs
 |nil|cons (e:Ex) (es:Exs)
inductive OEx
 |no|yes (e:Ex)
inductive Cn
 |val (e:Ex)|not (c:Cn)|and (c:Cn) (cs:Cns)|or (c:Cn) (cs:Cns)
inductive Cns
 |nil|cons (c:Cn) (cs:Cns)
inductive Itb
 |val (e:Ex)|range1 (a:Ex)|range2 (a b:Ex)|enum (e:Ex)|zip (a b:Ex)
end
mutual
inductive Sm
 |expr (e:Ex)|ret (e:Ex)|retN|asg (i:Nat) (e:Ex)|asgT (is:List Nat) (e:Ex)|par (is:List Nat) (es:Exs)
 |aug (i:Nat) (op:Bop) (e:Ex)|setIx (o i e:Ex)
 |ifS (c:Cn) (a b:Sms)|forS (t:Tgt) (it:Itb) (b:Sms)|whileS (c:Cn) (b:Sms)
 |pass|brk|cont|raise (e:Ex)
inductive Sms
 |nil|cons (s:Sm) (ss:Sms)
end
structure Fn where
 N:List Str
 ps:List Str
 keep:Bool
 body:Sms
noncomputable abbrev Calls:=Str→Nat→List Val→Sto→Out Val
noncomputable def zO:Nat:=16777216
noncomputable def newList(m:Bool)(vs:List Val)(s:Sto):Out Val:=if m then .ok (.ref s.length) (s++[.lst vs]) else .ok (.lst vs) s
noncomputable def wI(s:Sto):Val→Option (List Val)
 |.tup vs=>some vs
 |.lst vs=>some vs
 |.ctup ns=>some (ns.map .int)
 |.scr ns=>some (ns.map .int)
 |.ref i=>match s[i]? with
  |some (.lst vs)=>some vs
  |Option.none=>Option.none
 |_=>Option.none
noncomputable def yV(s:Sto):Val→Option (List Val)
 |.lst vs=>some vs
 |.ref i=>match s[i]? with
  |some (.lst vs)=>some vs
  |Option.none=>Option.none
 |_=>Option.none
noncomputable def truth(s:Sto):Val→Option Bool
 |.none=>some false
 |.bool b=>some b
 |.int i=>some (i != 0)
 |.str x=>if x.length≤zO then some ((x.length:Int) != 0) else Option.none
 |.tup vs=>some !vs.isEmpty
 |.lst vs=>some !vs.isEmpty
 |.dct0=>some false
 |.ref i=>match s[i]? with
  |some (.lst vs)=>some !vs.isEmpty
  |Option.none=>Option.none
 |_=>Option.none
noncomputable def Out.truth(o:Out Val):Out Bool:=o.bind fun v s=>match M.truth s v with
 |some b=>.ok b s
 |Option.none=>.stuck
noncomputable def yO(s:Sto):Val→Val
 |.ref i=>match s[i]? with
  |some (.lst vs)=>.lst vs
  |Option.none=>.ref i
 |v=>v
noncomputable def zh(s:Sto):Val→Val
 |.tup vs=>.tup (vs.map (yO s))
 |v=>yO s v
noncomputable def rN(d:PyData):Bool:=d.showable&&d.leavesShort 40&&decide (d.depth≤50)&&decide (d.weight≤300000)&&(!d.hasDict||!L2.xC d)
noncomputable def flat:Val→Bool
 |.none|.bool _|.int _|.str _=>true
 |_=>false
noncomputable def eqF:Val→Val→Bool
 |.none,.none=>true
 |.bool a,.bool b=>a == b
 |.bool a,.int b=>(if a then 1 else 0) == b
 |.int a,.bool b=>a == (if b then 1 else 0)
 |.int a,.int b=>a == b
 |.str a,.str b=>a == b
 |_,_=>false
noncomputable def uN(a b:Val):Option Bool:=if a.isD&&b.isD&&decide (b.d.depth≤60) then some (PyData.eqv a.d b.d) else Option.none
noncomputable def intsOf:List Val→Option (List Int)
 |[]=>some []
 |.int i::vs=>(intsOf vs).map (i::·)
 |_=>Option.none
noncomputable def Val.isN:Val→Bool
 |.none=>true
 |_=>false
noncomputable def inD(x:Val)(vs:List Val):Bool:=x.isD&&xc vs&&decide (x.d.depth≤60)
noncomputable def zV(op:Cop)(x y:Val)(s:Sto):Out Val:=
 match op with
 |.eq=>match x,y with
  |.str a,.str b=>.ok (.bool (decide (a=b))) s
  |_,_=>match uN (zh s x) (zh s y) with|some b=>.ok (.bool b) s|Option.none=>.stuck
 |.ne=>match x,y with
  |.str a,.str b=>.ok (.bool !(decide (a=b))) s
  |_,_=>match uN (zh s x) (zh s y) with|some b=>.ok (.bool !b) s|Option.none=>.stuck
 |.is=>match y with|.none=>.ok (.bool x.isN) s|.bool b=>(match x with|.bool a=>.ok (.bool (decide (a=b))) s|_=>.stuck)|_=>.stuck
 |.isNot=>match y with|.none=>.ok (.bool !x.isN) s|.bool b=>(match x with|.bool a=>.ok (.bool !(decide (a=b))) s|_=>.stuck)|_=>.stuck
 |.in_=>match wI s y with
  |some vs=>if flat x&&vs.all flat then .ok (.bool (vs.any fun z=>eqF z x)) s else if inD x vs then .ok (.bool (vs.any fun z=>PyData.eqv z.d x.d)) s else .stuck
  |Option.none=>.stuck
 |.notIn=>match wI s y with
  |some vs=>if flat x&&vs.all flat then .ok (.bool !(vs.any fun z=>eqF z x)) s else if inD x vs then .ok (.bool !(vs.any fun z=>PyData.eqv z.d x.d)) s else .stuck
  |Option.none=>.stuck
 |.lt=>match x,y with|.int i,.int j=>.ok (.bool (decide (i<j))) s|_,_=>.stuck
 |.le=>match x,y with|.int i,.int j=>.ok (.bool (decide (i≤j))) s|_,_=>.stuck
 |.gt=>match x,y with|.int i,.int j=>.ok (.bool (decide (j<i))) s|_,_=>.stuck
 |.ge=>match x,y with|.int i,.int j=>.ok (.bool (decide (j≤i))) s|_,_=>.stuck
noncomputable def binOp(m:Bool)(op:Bop)(x y:Val)(s:Sto):Out Val:=
 match op with
 |.add=>match x,y with
  |.int i,.int j=>.ok (.int (i+j)) s
  |.str a,.str b=>if a.length+b.length≤zO then .ok (.str (a++b)) s else .stuck
  |.tup a,.tup b=>if a.length+b.length≤zO then .ok (.tup (a++b)) s else .stuck
  |_,_=>match yV s x,yV s y with
   |some a,some b=>if a.length+b.length≤zO then newList m (a++b) s else .stuck
   |_,_=>.stuck
 |.sub=>match x,y with|.int i,.int j=>.ok (.int (i-j)) s|_,_=>.stuck
 |.mul=>match x,y with
  |.int i,.int j=>if (-(2 ^ 64)<i∧i<2 ^ 64)∨(-(2 ^ 64)<j∧j<2 ^ 64) then .ok (.int (i*j)) s else .stuck
  |.tup a,.int k=>if -1000≤k∧k≤1000∧a≠[]∧a.length≤1000 then .ok (.tup (List.replicate k.toNat a).flatten) s else .stuck
  |_,.int k=>match yV s x with
   |some a=>if -1000≤k∧k≤1000∧a.length*k.toNat≤zO then newList m (List.replicate k.toNat a).flatten s else .stuck
   |Option.none=>.stuck
  |_,_=>.stuck
 |.fdiv=>match x,y with|.int i,.int j=>if 0<j∧j<1073741824 then .ok (.int (i/j)) s else .stuck|_,_=>.stuck
 |.mod=>match x,y with|.int i,.int j=>if 0<j then .ok (.int (i%j)) s else .stuck|_,_=>.stuck
 |.pow=>match x,y with|.int i,.int j=>if 0≤j∧j≤1000000∧i.natAbs<2 ^ 64 then .ok (.int (i ^ j.toNat)) s else .stuck|_,_=>.stuck
 |.shl=>match x,y with|.int i,.int j=>if 0≤j∧j≤1000000∧i.natAbs<2 ^ 64 then .ok (.int (i*2 ^ j.toNat)) s else .stuck|_,_=>.stuck
 |.shr=>match x,y with|.int i,.int j=>if 0≤j then .ok (.int (i/2 ^ j.toNat)) s else .stuck|_,_=>.stuck
 |.band=>match x,y with|.int i,.int j=>.ok (.int (Builtin.bitAnd i j)) s|_,_=>.stuck
noncomputable def kindOf:Val→Option L2.Kd
 |.none=>some .non
 |.bool _=>some .bl
 |.int _=>some .int
 |.str _=>some .str
 |.tup _=>some .tup
 |.lst _=>some .lst
 |.dct0=>some .dct
 |.ref _=>some .lst
 |_=>Option.none
noncomputable def xD:String→Option L2.Kd
 |"bool"=>some .bl
 |"int"=>some .int
 |"str"=>some .str
 |"list"=>some .lst
 |"tuple"=>some .tup
 |"dict"=>some .dct
 |_=>Option.none
noncomputable def boolsOf:List Val→Option (List Bool)
 |[]=>some []
 |.bool b::vs=>(boolsOf vs).map (b::·)
 |_=>Option.none
noncomputable def pairsOf:List Val→Option (List (Int × Int))
 |[]=>some []
 |.tup [.int a,.int b]::vs=>(pairsOf vs).map ((a,b)::·)
 |_=>Option.none
noncomputable def prV(z:Int × Int):Val:=.tup [.int z.1,.int z.2]
noncomputable def pO(z:Int × Int):List (Int × Int)→List (Int × Int)
 |[]=>[z]
 |y::ys=>if L2.yU z≤L2.yU y then z::y::ys else y::pO z ys
noncomputable def vV:List (Int × Int)→List (Int × Int)
 |[]=>[]
 |z::zs=>pO z (vV zs)
noncomputable def tF:List Val→Option (List (List Int))
 |[]=>some []
 |.tup a::vs=>match intsOf a,tF vs with
  |some z,some zs=>some (z::zs)
  |_,_=>Option.none
 |_=>Option.none
noncomputable def tpV(z:List Int):Val:=.tup (z.map .int)
noncomputable def p6(m:Bool)(vs:List Val)(s:Sto):Out Val:=match tF vs with
 |some zs=>if zs.Nodup∧(zs.length<2∨∀z∈zs,z≠[]) then newList m ((L2.wQ zs).map tpV) s else .stuck
 |Option.none=>.stuck
noncomputable def blt(f:Bf)(m:Bool)(xs:List Val)(s:Sto):Out Val:=
 match f with
 |.len=>match xs with
  |[.str x]=>if x.length≤zO then .ok (.int x.length) s else .stuck
  |[x]=>match wI s x with|some vs=>.ok (.int vs.length) s|Option.none=>.stuck
  |_=>.stuck
 |.all=>match xs with
  |[x]=>match yV s x with|some vs=>(match boolsOf vs with|some bs=>.ok (.bool (bs.all id)) s|Option.none=>.stuck)|Option.none=>.stuck
  |_=>.stuck
 |.any=>.stuck
 |.tuple=>match xs with
  |[.tup vs]=>.ok (.tup vs) s
  |[x]=>match yV s x with|some vs=>.ok (.tup vs) s|Option.none=>.stuck
  |_=>.stuck
 |.list=>match xs with
  |[x]=>match wI s x with|some vs=>newList m vs s|Option.none=>.stuck
  |_=>.stuck
 |.repr=>match xs with
  |[x]=>if (zh s x).isR&&rN (zh s x).d then .ok (.str (zh s x).d.shown) s else .stuck
  |_=>.stuck
 |.max=>match xs with
  |[.int i,.int j]=>.ok (.int (if j > i then j else i)) s
  |[x]=>match yV s x with|some vs=>(match M.intsOf vs with|some ns=>if ns≠[] then .ok (.int (L2.tS 0 ns)) s else .stuck|Option.none=>.stuck)|Option.none=>.stuck
  |_=>.stuck
 |.min=>match xs with
  |[.int i,.int j]=>.ok (.int (if j<i then j else i)) s
  |[x]=>match yV s x with|some vs=>(match M.intsOf vs with|some ns=>if ns≠[] then .ok (.int (L2.rG 0 ns)) s else .stuck|Option.none=>.stuck)|Option.none=>.stuck
  |_=>.stuck
 |.int=>match xs with
  |[.int i]=>.ok (.int i) s
  |[.bool b]=>.ok (.int (if b then 1 else 0)) s
  |_=>.stuck
 |.isi=>match xs with
  |[x,.ty n]=>match kindOf x,xD n with|some a,some c=>.ok (.bool (a.sub c)) s|_,_=>.stuck
  |_=>.stuck
 |.divmod=>match xs with
  |[.int i,.int j]=>if 0<j∧j<1073741824 then .ok (.tup [.int (i/j),.int (i%j)]) s else .stuck
  |_=>.stuck
 |.str=>match xs with
  |[.int i]=>if i.natAbs.log2<1920 then .ok (.str (toString i)) s else .stuck
  |_=>.stuck
 |.sum=>.stuck
 |.sorted=>match xs with
  |[x]=>match yV s x with
   |some vs=>(match pairsOf vs with
    |some zs=>if zs.Nodup∧∀z∈zs,0≤z.2∧z.2<1000 then newList m ((vV zs).map prV) s else p6 m vs s
    |Option.none=>p6 m vs s)
   |Option.none=>.stuck
  |_=>.stuck
noncomputable def upd(s:Sto)(i:Nat)(vs:List Val):Sto:=s.set i (.lst vs)
noncomputable def yY(f:Mf)(o:Val)(xs:List Val)(s:Sto):Out Val:=
 match f with
 |.count=>match o,xs with
  |.tup vs,[y]=>if flat y&&vs.all flat then .ok (.int (vs.countP fun z=>eqF z y:Nat)) s else .stuck
  |_,[y]=>match yV s o with|some vs=>if flat y&&vs.all flat then .ok (.int (vs.countP fun z=>eqF z y:Nat)) s else .stuck|Option.none=>.stuck
  |_,_=>.stuck
 |.append=>match o,xs with
  |.ref i,[y]=>match s[i]? with|some (.lst vs)=>if vs.length<zO then .ok .none (upd s i (vs++[y])) else .stuck|Option.none=>.stuck
  |_,_=>.stuck
 |.extend=>match o,xs with
  |.ref i,[y]=>match s[i]?,yV s y with|some (.lst vs),some ws=>if vs.length+ws.length≤zO then .ok .none (upd s i (vs++ws)) else .stuck|_,_=>.stuck
  |_,_=>.stuck
 |.pop=>.stuck
 |.index=>.stuck
noncomputable def xT(a b:Val)(s:Sto):Out Val:=
 match b with
 |.int i=>match wI s a with|some vs=>(match L2.atI vs i with|some v=>.ok v s|Option.none=>.stuck)|Option.none=>.stuck
 |_=>.stuck
noncomputable def xR{α:Type}(xs:List α)(lo hi:Option Int):List α:=(xs.drop (HT.sIx xs.length 0 lo)).take (HT.sIx xs.length xs.length hi-HT.sIx xs.length 0 lo)
noncomputable def vU(m:Bool)(a:Val)(lo hi st:Option Int)(s:Sto):Out Val:=
 match a,st with
 |.tup vs,Option.none=>.ok (.tup (xR vs lo hi)) s
 |.tup vs,some c=>if c≠0∧(L2.yP vs.length lo hi c).2≤zO then .ok (.tup (L2.yc vs (L2.yP vs.length lo hi c).1 c (L2.yP vs.length lo hi c).2)) s else .stuck
 |_,Option.none=>match yV s a with|some vs=>newList m (xR vs lo hi) s|Option.none=>.stuck
 |_,some _=>.stuck
noncomputable def Xc(m:Bool)(x y z:Val)(s:Sto):Out Val:=match x,y,z with
 |.int i,.int j,.int k=>if -(2 ^ 30)≤i∧i≤2 ^ 30∧-(2 ^ 30)≤j∧j≤2 ^ 30∧0<k∧k≤2 ^ 29∧Builtin.Range.rangeSize i j k≤1000 then newList m ((L2.YV i j k).map .int) s else .stuck
 |_,_,_=>.stuck
noncomputable def yg(t:Tgt)(v:Val)(env:Env):Option Env:=
 match t with
 |.nm i=>some (env.set i (some v))
 |.nms is=>match v with
  |.tup vs=>if vs.length=is.length then some ((is.zip vs).foldl (fun e p=>e.set p.1 (some p.2)) env) else Option.none
  |_=>Option.none
structure Src where
 xs:List Val
 at_:Option Nat
noncomputable def Src.ok(r:Src)(s:Sto):Bool:=match r.at_ with
 |Option.none=>true
 |some i=>match s[i]? with
  |some (.lst vs)=>pC vs r.xs
  |Option.none=>false
noncomputable def Wn:List Val→List Val→List Val
 |v::vs,w::ws=>.tup [v,w]::Wn vs ws
 |_,_=>[]
noncomputable def yI(n:Nat):List Val→List Val
 |[]=>[]
 |v::vs=>.tup [.int n,v]::yI (n+1) vs
noncomputable def srcOf(s:Sto):Val→Option Src
 |.tup vs=>some ⟨vs,Option.none⟩
 |.lst vs=>some ⟨vs,Option.none⟩
 |.ctup ns=>some ⟨ns.map .int,Option.none⟩
 |.ref i=>match s[i]? with
  |some (.lst vs)=>some ⟨vs,some i⟩
  |Option.none=>Option.none
 |_=>Option.none
noncomputable def zy(lo:Int)(n:Nat):List Val:=(List.range n).map fun(k:Nat)=>Val.int (lo+k)
noncomputable def yh(r:Src)(t:Tgt)(body:Env→Sto→List Val→Out (List Val × Env)):List Val→Env→Sto→List Val→Out (List Val × Env)
 |[],env,s,acc=>if r.ok s then .ok (acc,env) s else .stuck
 |x::xs,env,s,acc=>if r.ok s then match yg t x env with
    |Option.none=>.stuck
    |some env'=>(body env' s acc).bind fun p s'=>yh r t body xs p.2 s' p.1
  else .stuck
noncomputable def zN(fr:List (Option Nat))(env:Env):Env:=fr.map fun o=>match o with|some j=>(env[j]?).join|Option.none=>Option.none
inductive Fl
 |nx (env:Env)|bk (env:Env)|ct (env:Env)|rt (v:Val)
noncomputable def vH(r:Src)(t:Tgt)(body:Env→Sto→Out Fl):List Val→Env→Sto→Out Fl
 |[],env,s=>if r.ok s then .ok (.nx env) s else .stuck
 |x::xs,env,s=>if r.ok s then match yg t x env with
    |Option.none=>.stuck
    |some env'=>(body env' s).bind fun fl s'=>match fl with
     |.nx e=>vH r t body xs e s'
     |.ct e=>vH r t body xs e s'
     |.bk e=>.ok (.nx e) s'
     |.rt v=>.ok (.rt v) s'
  else .stuck
noncomputable def gf(c:Env→Sto→Out Bool)(body:Env→Sto→Out Fl):Nat→Env→Sto→Out Fl
 |0,_,_=>.stuck
 |n+1,env,s=>(c env s).bind fun b s1=>if b then (body env s1).bind fun fl s2=>match fl with
    |.nx e=>gf c body n e s2
    |.ct e=>gf c body n e s2
    |.bk e=>.ok (.nx e) s2
    |.rt v=>.ok (.rt v) s2
  else .ok (.nx env) s1
noncomputable def Y0:Nat:=100000
section
variable (Φ:Calls)(G:Str→Option Val)
mutual
noncomputable def evE(env:Env):Ex→Sto→Out Val
 |.lit v,s=>.ok v s
 |.var i,s=>match env[i]? with|some (some v)=>.ok v s|_=>.stuck
 |.gl x,s=>match G x with|some v=>.ok v s|Option.none=>.stuck
 |.ty _ n,s=>.ok (.ty n) s
 |.bin m op a b,s=>(evE env a s).bind fun x s1=>(evE env b s1).bind fun y s2=>binOp m op x y s2
 |.neg a,s=>(evE env a s).bind fun x s1=>match x with|.int i=>.ok (.int (-i)) s1|_=>.stuck
 |.not a,s=>(evE env a s).bind fun x s1=>match x with|.bool b=>.ok (.bool !b) s1|_=>.stuck
 |.cmp op a b,s=>(evE env a s).bind fun x s1=>(evE env b s1).bind fun y s2=>zV op x y s2
 |.chain op op' a b c,s=>(evE env a s).bind fun x s1=>(evE env b s1).bind fun y s2=>(zV op x y s2).bind fun r s3=>match r with
  |.bool true=>(evE env c s3).bind fun z s4=>zV op' y z s4
  |.bool false=>.ok (.bool false) s3
  |_=>.stuck
 |.andE a es,s=>match es with
  |.nil=>evE env a s
  |.cons _ _=>(evE env a s).bind fun x s1=>match x with
   |.bool true=>tQ env es s1
   |.bool false=>.ok (.bool false) s1
   |_=>.stuck
 |.orE a es,s=>match es with
  |.nil=>evE env a s
  |.cons _ _=>(evE env a s).bind fun x s1=>match x with
   |.bool false=>oR env es s1
   |.bool true=>.ok (.bool true) s1
   |_=>.stuck
 |.ife c a b,s=>(evT env c s).bind fun t s1=>if t then evE env a s1 else evE env b s1
 |.tup es,s=>(yp env es s).bind fun vs s1=>if vs.length≤zO then .ok (.tup vs) s1 else .stuck
 |.lst m es,s=>(yp env es s).bind fun vs s1=>if vs.length≤zO then newList m vs s1 else .stuck
 |.dct0,s=>.ok .dct0 s
 |.call f ver es,s=>(yp env es s).bind fun vs s1=>Φ f ver vs s1
 |.blt f m es,s=>(yp env es s).bind fun vs s1=>blt f m vs s1
 |.maxD a d,s=>(evE env a s).bind fun x s1=>(evE env d s1).bind fun y s2=>match y with
  |.int k=>(match yV s2 x with|some vs=>(match intsOf vs with|some ns=>.ok (.int (L2.tS k ns)) s2|Option.none=>.stuck)|Option.none=>.stuck)
  |_=>.stuck
 |.yY f _ o es,s=>(evE env o s).bind fun x s1=>(yp env es s1).bind fun vs s2=>yY f x vs s2
 |.ix a b,s=>(evE env a s).bind fun x s1=>(evE env b s1).bind fun y s2=>xT x y s2
 |.sl m a lo hi st,s=>(evE env a s).bind fun x s1=>(evO env lo s1).bind fun l s2=>(evO env hi s2).bind fun h s3=>(evO env st s3).bind fun c s4=>vU m x l h c s4
 |.comp m _ fr elt t it ifs,s=>(yq env it s).bind fun r s1=>
  (yh r t (fun e s' acc=>(xy e ifs s').bind fun b s2=>if b then (evE e elt s2).bind fun v s3=>.ok (acc++[v],e) s3 else .ok (acc,e) s2) r.xs (zN fr env) s1 []).bind fun p s2=>newList m p.1 s2
 |.comp2 m _ fr elt t it ifs t2 it2 ifs2,s=>(yq env it s).bind fun r s1=>
  (yh r t (fun e s' acc=>(xy e ifs s').bind fun b s2=>if b then (yq e it2 s2).bind fun r2 s3=>
      yh r2 t2 (fun e' s4 acc'=>(xy e' ifs2 s4).bind fun b' s5=>if b' then (evE e' elt s5).bind fun v s6=>.ok (acc'++[v],e') s6 else .ok (acc',e') s5) r2.xs e s3 acc
   else .ok (acc,e) s2) r.xs (zN fr env) s1 []).bind fun p s2=>if p.1.length≤zO then newList m p.1 s2 else .stuck
 |.listRange m a b c,s=>(evE env a s).bind fun x s1=>(evE env b s1).bind fun y s2=>(evE env c s2).bind fun z s3=>Xc m x y z s3
noncomputable def tQ(env:Env):Exs→Sto→Out Val
 |.nil,_=>.stuck
 |.cons a es,s=>match es with
  |.nil=>evE env a s
  |.cons _ _=>(evE env a s).bind fun x s1=>match x with
   |.bool true=>tQ env es s1
   |.bool false=>.ok (.bool false) s1
   |_=>.stuck
noncomputable def oR(env:Env):Exs→Sto→Out Val
 |.nil,_=>.stuck
 |.cons a es,s=>match es with
  |.nil=>evE env a s
  |.cons _ _=>(evE env a s).bind fun x s1=>match x with
   |.bool false=>oR env es s1
   |.bool true=>.ok (.bool true) s1
   |_=>.stuck
noncomputable def yp(env:Env):Exs→Sto→Out (List Val)
 |.nil,s=>.ok [] s
 |.cons e es,s=>(evE env e s).bind fun v s1=>(yp env es s1).bind fun vs s2=>.ok (v::vs) s2
noncomputable def evO(env:Env):OEx→Sto→Out (Option Int)
 |.no,s=>.ok Option.none s
 |.yes e,s=>(evE env e s).bind fun v s1=>match v with|.int i=>.ok (some i) s1|_=>.stuck
/-- a test -/
noncomputable def evT(env:Env):Cn→Sto→Out Bool
 |.val e,s=>(evE env e s).truth
 |.not a,s=>(evT env a s).bind fun b s1=>.ok (!b) s1
 |.and a es,s=>(evT env a s).bind fun b s1=>if b then xy env es s1 else .ok false s1
 |.or a es,s=>(evT env a s).bind fun b s1=>if b then .ok true s1 else uO env es s1
noncomputable def xy(env:Env):Cns→Sto→Out Bool
 |.nil,s=>.ok true s
 |.cons a es,s=>(evT env a s).bind fun b s1=>if b then xy env es s1 else .ok false s1
noncomputable def uO(env:Env):Cns→Sto→Out Bool
 |.nil,s=>.ok false s
 |.cons a es,s=>(evT env a s).bind fun b s1=>if b then .ok true s1 else uO env es s1
noncomputable def yq(env:Env):Itb→Sto→Out Src
 |.val e,s=>(evE env e s).bind fun v s1=>match srcOf s1 v with|some r=>.ok r s1|Option.none=>.stuck
 |.range1 a,s=>(evE env a s).bind fun x s1=>match x with
  |.int j=>if -(2 ^ 62)≤j∧j≤zO then .ok ⟨zy 0 j.toNat,Option.none⟩ s1 else .stuck
  |_=>.stuck
 |.range2 a b,s=>(evE env a s).bind fun x s1=>(evE env b s1).bind fun y s2=>match x,y with
  |.int i,.int j=>if -(2 ^ 62)≤i∧i<2 ^ 62∧-(2 ^ 62)≤j∧j<2 ^ 62∧j-i≤zO then .ok ⟨zy i (j-i).toNat,Option.none⟩ s2 else .stuck
  |_,_=>.stuck
 |.enum e,s=>(evE env e s).bind fun v s1=>match v with
  |.tup vs=>.ok ⟨yI 0 vs,Option.none⟩ s1
  |.lst vs=>.ok ⟨yI 0 vs,Option.none⟩ s1
  |_=>.stuck
 |.zip a b,s=>(evE env a s).bind fun x s1=>(evE env b s1).bind fun y s2=>match x,y with
  |.tup vs,.tup ws=>if vs.length=ws.length then .ok ⟨Wn vs ws,Option.none⟩ s2 else .stuck
  |_,_=>.stuck
end
mutual
noncomputable def exS(env:Env):Sm→Sto→Out Fl
 |.expr e,s=>(evE Φ G env e s).bind fun _ s1=>.ok (.nx env) s1
 |.ret e,s=>(evE Φ G env e s).bind fun v s1=>.ok (.rt v) s1
 |.retN,s=>.ok (.rt .none) s
 |.asg i e,s=>(evE Φ G env e s).bind fun v s1=>.ok (.nx (env.set i (some v))) s1
 |.asgT is e,s=>(evE Φ G env e s).bind fun v s1=>match yg (.nms is) v env with|some env'=>.ok (.nx env') s1|Option.none=>.stuck
 |.par is es,s=>(yp Φ G env es s).bind fun vs s1=>if vs.length=is.length then .ok (.nx ((is.zip vs).foldl (fun e p=>e.set p.1 (some p.2)) env)) s1 else .stuck
 |.aug i op e,s=>match env[i]? with
  |some (some (.int x))=>(evE Φ G env e s).bind fun v s1=>match v with
   |.int y=>(binOp false op (.int x) (.int y) s1).bind fun z s2=>.ok (.nx (env.set i (some z))) s2
   |_=>.stuck
  |_=>.stuck
 |.setIx o i e,s=>(evE Φ G env e s).bind fun v s1=>(evE Φ G env o s1).bind fun x s2=>(evE Φ G env i s2).bind fun y s3=>match x,y with
  |.ref r,.int k=>(match s3[r]? with
   |some (.lst vs)=>(match L2.ixN vs.length k with|some j=>.ok (.nx env) (upd s3 r (vs.set j v))|Option.none=>.stuck)
   |Option.none=>.stuck)
  |_,_=>.stuck
 |.ifS c a b,s=>(evT Φ G env c s).bind fun t s1=>if t then zf env a s1 else zf env b s1
 |.forS t it b,s=>(yq Φ G env it s).bind fun r s1=>vH r t (fun e s'=>zf e b s') r.xs env s1
 |.whileS c b,s=>gf (fun e s'=>evT Φ G e c s') (fun e s'=>zf e b s') Y0 env s
 |.pass,s=>.ok (.nx env) s
 |.brk,s=>.ok (.bk env) s
 |.cont,s=>.ok (.ct env) s
 |.raise _,_=>.stuck
noncomputable def zf(env:Env):Sms→Sto→Out Fl
 |.nil,s=>.ok (.nx env) s
 |.cons c cs,s=>(exS env c s).bind fun fl s1=>match fl with
  |.nx e=>zf e cs s1
  |fl=>.ok fl s1
end
end
noncomputable def zR(N:List Str)(vs:List Val):Env:=vs.map some++List.replicate (N.length-vs.length) Option.none
noncomputable def leave(F:Fn)(s0:Sto)(v:Val)(s:Sto):Out Val:=
 if F.keep then .ok v s
 else if wF s0 s then (match freeze s0.length s v with|some v'=>.ok v' (s.take s0.length)|Option.none=>.stuck) else .stuck
structure Tbl where
 fn:Str→Nat→Option Fn
 gl:Str→Option Val
noncomputable def run(T:Tbl)(Φ:Calls)(F:Fn)(vs:List Val)(s:Sto):Out Val:=
 if vs.length=F.ps.length then (zf Φ T.gl (zR F.N vs) F.body s).bind fun fl s1=>match fl with
  |.nx _=>leave F s .none s1
  |.rt v=>leave F s v s1
  |_=>.stuck
 else .stuck
noncomputable def zL(T:Tbl):Nat→Calls
 |0=>fun _ _ _ _=>.stuck
 |n+1=>fun f ver vs s=>match T.fn f ver with|some F=>run T (zL T n) F vs s|Option.none=>.stuck
end M
end
section
namespace M
open PySem
noncomputable abbrev KF:=PySem.W.Frag
structure Own where
 o:List Addr
 h:List Addr
noncomputable def Own.no(ρ:Own)(a:Addr):Prop:=a ∉ ρ.o∧a ∉ ρ.h
noncomputable def KT(K:KF)(a:Addr)(xs:List L2.V):Prop:=∃(o:Obj) (its:Array Value) (n:Nat),K.lookup a=some o∧o.cls=.type "tuple"∧o.data=.seq its n∧its.size≤sizeLine∧L2.Vals xs its.toList
noncomputable def SC(K:KF)(ρ:Own)(H:L2.Hp)(a:Addr)(xs:List L2.V):Prop:=(ρ.no a∧L2.Rd H a (.lst xs)) ∨
 ∃(o:Obj) (its:Array Value) (n:Nat),K.lookup a=some o∧o.cls=.type "list"∧o.dict=none∧o.data=.seq its n∧its.size≤sizeLine∧L2.Vals xs its.toList
mutual
inductive RD(K:KF)(mg:Str→Option Value)(ρ:Own)(H:L2.Hp):Val→L2.V→Prop
 |none:RD K mg ρ H .none .non
 |bool (b:Bool):RD K mg ρ H (.bool b) (.bl b)
 |int (i:Int):RD K mg ρ H (.int i) (.int i)
 |str (x:Str):RD K mg ρ H (.str x) (.str x)
 |tup {a:Addr} {vs:List Val} {xs:List L2.V}:ρ.no a→H a=some (.tup xs)→RDs K mg ρ H vs xs→RD K mg ρ H (.tup vs) (.ref a)
 |lst {a:Addr} {vs:List Val} {xs:List L2.V}:ρ.no a→H a=some (.lst xs)→RDs K mg ρ H vs xs→RD K mg ρ H (.lst vs) (.ref a)
 |dct0 {a:Addr}:ρ.no a→H a=some (.dK [])→RD K mg ρ H .dct0 (.ref a)
 |ctup {a:Addr} {ns:List Int}:KT K a (ns.map L2.V.int)→RD K mg ρ H (.ctup ns) (.ref a)
 |scr {a:Addr} {ns:List Int}:SC K ρ H a (ns.map L2.V.int)→RD K mg ρ H (.scr ns) (.ref a)
 |ref {a:Addr} {i:Nat}:ρ.o[i]?=some a→RD K mg ρ H (.ref i) (.ref a)
 |fn {x:Str} {f:Addr}:mg x=some (.ref f)→RD K mg ρ H (.fn x) (.ref f)
 |ty (n:String):RD K mg ρ H (.ty n) (.ty n)
inductive RDs(K:KF)(mg:Str→Option Value)(ρ:Own)(H:L2.Hp):List Val→List L2.V→Prop
 |nil:RDs K mg ρ H [] []
 |cons {v:Val} {x:L2.V} {vs:List Val} {xs:List L2.V}:RD K mg ρ H v x→RDs K mg ρ H vs xs→RDs K mg ρ H (v::vs) (x::xs)
end
structure HR(K:KF)(mg:Str→Option Value)(ρ:Own)(s:Sto)(H:L2.Hp):Prop where
 len:ρ.o.length=s.length
 nd:ρ.o.Nodup
 obj:∀(i:Nat) (vs:List Val),s[i]?=some (Cel.lst vs)→∃(a:Addr) (xs:List L2.V),ρ.o[i]?=some a∧H a=some (.lst xs)∧RDs K mg ρ H vs xs
 hid:∀a∈ρ.h,(∃xs,H a=some (.lst xs))∧a ∉ ρ.o
structure Ext(ρ:Own)(H:L2.Hp)(ρ':Own)(H':L2.Hp):Prop where
 pre:∃new:List Addr,ρ'.o=ρ.o++new∧∀a∈new,H a=none
 hid:ρ'.h=ρ.h
 keep:∀(a:Addr) (o:L2.HO),H a=some o→a ∉ ρ.o→H' a=some o
structure ER(K:KF)(mg:Str→Option Value)(ρ:Own)(H:L2.Hp)(env:Env)(σ:L2.St):Prop where
 len:env.length=σ.length
 at_:∀(i:Nat) (v:Val),env[i]?=some (some v)→∃x:L2.V,σ[i]?=some (some x)∧RD K mg ρ H v x
section
variable {K:KF}{mg:Str→Option Value}{ρ ρ' ρ'':Own}{H H' H'':L2.Hp}{s s':Sto}
theorem HR.trk(h:HR K mg ρ s H){a:Addr}(ha:a∈ρ.o):∃xs,H a=some (.lst xs):=by
 obtain⟨i,hi,e⟩:=List.getElem_of_mem ha
 have hs:i<s.length:=by rw[←h.len];exact hi
 cases hc:s[i] with
 |lst vs=>
  obtain⟨b,xs,e1,e2,_⟩:=h.obj i vs (by rw[List.getElem?_eq_getElem hs,hc])
  rw[List.getElem?_eq_getElem hi,e]at e1
  cases e1
  exact⟨xs,e2⟩
theorem HR.new(h:HR K mg ρ s H){p:Addr}(hp:H p=none):ρ.no p:=by
 refine⟨fun hm=>?_,fun hm=>?_⟩
 . obtain⟨xs,e⟩:=h.trk hm
   rw[hp]at e;cases e
 . obtain⟨⟨xs,e⟩,_⟩:=h.hid p hm
   rw[hp]at e;cases e
theorem Ext.refl:Ext ρ H ρ H:=⟨⟨[],by simp,fun a ha=>by cases ha⟩,rfl,fun a o e _=>e⟩
theorem Ext.Xh(x:Ext ρ H ρ' H'){a:Addr}{o:L2.HO}(e:H a=some o)(n:ρ.no a):ρ'.no a:=by
 obtain⟨new,e1,hn⟩:=x.pre
 refine⟨?_,by rw[x.hid];exact n.2⟩
 rw[e1]
 intro hm
 rcases List.mem_append.mp hm with hm|hm
 . exact n.1 hm
 . rw[hn a hm]at e;cases e
theorem Ext.get(x:Ext ρ H ρ' H'){i:Nat}{a:Addr}(e:ρ.o[i]?=some a):ρ'.o[i]?=some a:=by
 obtain⟨new,e1,hn⟩:=x.pre
 have hi:i<ρ.o.length:=(List.getElem?_eq_some_iff.mp e).1
 rw[e1,List.getElem?_append_left hi];exact e
theorem Ext.trans(x:Ext ρ H ρ' H')(h:HR K mg ρ' s H')(y:Ext ρ' H' ρ'' H''):Ext ρ H ρ'' H'':=by
 obtain⟨new,e1,hn⟩:=x.pre
 obtain⟨new2,e2,hn2⟩:=y.pre
 refine⟨⟨new++new2,by rw[e2,e1,List.append_assoc],fun a ha=>?_⟩,y.hid.trans x.hid,fun a o e n=>y.keep a o (x.keep a o e n) ?_⟩
 . rcases List.mem_append.mp ha with ha|ha
   . exact hn a ha
   . cases q:H a with
     |none=>rfl
     |some o=>
      by_cases hm:a∈ρ.o
      . obtain⟨xs,e⟩:=h.trk (a:=a) (by rw[e1];exact List.mem_append_left _ hm)
        rw[hn2 a ha]at e;cases e
      . have:=x.keep a o q hm
        rw[hn2 a ha]at this;cases this
 . rw[e1]
   intro hm
   rcases List.mem_append.mp hm with hm|hm
   . exact n hm
   . rw[hn a hm]at e;cases e
theorem SC.sql{a:Addr}{xs:List L2.V}(h:SC K ρ H a xs):L2.SqL K H a xs:=by
 rcases h with⟨_,h⟩|h
 . exact .inl h
 . exact .inr h
theorem KT.sqt{a:Addr}{xs:List L2.V}(h:KT K a xs):L2.SqT K H a xs:=.inr h
structure Mv(ρ:Own)(H:L2.Hp)(ρ':Own)(H':L2.Hp):Prop where
 keep:∀(a:Addr) (o:L2.HO),H a=some o→ρ.no a→H' a=some o∧ρ'.no a
 get:∀(i:Nat) (a:Addr),ρ.o[i]?=some a→ρ'.o[i]?=some a
theorem Ext.mv(x:Ext ρ H ρ' H'):Mv ρ H ρ' H':=⟨fun a o e n=>⟨x.keep a o e n.1,x.Xh e n⟩,fun i a e=>x.get e⟩
theorem SC.mv{a:Addr}{xs:List L2.V}(x:Mv ρ H ρ' H')(h:SC K ρ H a xs):SC K ρ' H' a xs:=by
 rcases h with⟨n,h|⟨o,h⟩⟩|h
 . exact .inl ⟨(x.keep _ _ h n).2,.inl (x.keep _ _ h n).1⟩
 . exact .inl ⟨(x.keep _ _ h n).2,.inr ⟨o,(x.keep _ _ h n).1⟩⟩
 . exact .inr h
end
mutual
theorem RD.mv{K:KF}{mg:Str→Option Value}{ρ ρ':Own}{H H':L2.Hp}(x:Mv ρ H ρ' H'):∀{v:Val} {u:L2.V},RD K mg ρ H v u→RD K mg ρ' H' v u
 |_,_,.none=>.none
 |_,_,.bool b=>.bool b
 |_,_,.int i=>.int i
 |_,_,.str t=>.str t
 |_,_,.tup n e r=>.tup (x.keep _ _ e n).2 (x.keep _ _ e n).1 (RDs.mv x r)
 |_,_,.lst n e r=>.lst (x.keep _ _ e n).2 (x.keep _ _ e n).1 (RDs.mv x r)
 |_,_,.dct0 n e=>.dct0 (x.keep _ _ e n).2 (x.keep _ _ e n).1
 |_,_,.ctup h=>.ctup h
 |_,_,.scr h=>.scr (h.mv x)
 |_,_,.ref e=>.ref (x.get _ _ e)
 |_,_,.fn e=>.fn e
 |_,_,.ty n=>.ty n
theorem RDs.mv{K:KF}{mg:Str→Option Value}{ρ ρ':Own}{H H':L2.Hp}(x:Mv ρ H ρ' H'):∀{vs:List Val} {us:List L2.V},RDs K mg ρ H vs us→RDs K mg ρ' H' vs us
 |_,_,.nil=>.nil
 |_,_,.cons r rs=>.cons (RD.mv x r) (RDs.mv x rs)
end
theorem RD.mono{K:KF}{mg:Str→Option Value}{ρ ρ':Own}{H H':L2.Hp}{v:Val}{u:L2.V}(r:RD K mg ρ H v u)(x:Ext ρ H ρ' H'):RD K mg ρ' H' v u:=RD.mv x.mv r
theorem RDs.mono{K:KF}{mg:Str→Option Value}{ρ ρ':Own}{H H':L2.Hp}{v:List Val}{u:List L2.V}(r:RDs K mg ρ H v u)(x:Ext ρ H ρ' H'):RDs K mg ρ' H' v u:=RDs.mv x.mv r
end M
end
section
namespace M
open PySem
section
variable {K:KF}{mg:Str→Option Value}{ρ ρ' ρ'':Own}{H H' H'':L2.Hp}{s s':Sto}
theorem RDs.length:∀{vs:List Val} {xs:List L2.V},RDs K mg ρ H vs xs→vs.length=xs.length
 |_,_,.nil=>rfl
 |_,_,.cons _ r=>by rw[List.length_cons,List.length_cons,r.length]
theorem RDs.get:∀{vs:List Val} {xs:List L2.V} {i:Nat} {v:Val},RDs K mg ρ H vs xs→vs[i]?=some v→∃x,xs[i]?=some x∧RD K mg ρ H v x
 |_,_,_,_,.nil,e=>by simp at e
 |_,_,0,_,.cons r _,e=>by simp at e;subst e;exact⟨_,rfl,r⟩
 |_,_,i+1,v,.cons _ rs,e=>by
  obtain⟨x,h1,h2⟩:=RDs.get (i:=i) (v:=v) rs (by simpa using e)
  exact⟨x,by simpa using h1,h2⟩
theorem RDs.XC:∀{vs:List Val} {xs:List L2.V} {i:Nat} {x:L2.V},RDs K mg ρ H vs xs→xs[i]?=some x→∃v,vs[i]?=some v∧RD K mg ρ H v x
 |_,_,_,_,.nil,e=>by simp at e
 |_,_,0,_,.cons r _,e=>by simp at e;subst e;exact⟨_,rfl,r⟩
 |_,_,i+1,v,.cons _ rs,e=>by
  obtain⟨x,h1,h2⟩:=RDs.XC (i:=i) (x:=v) rs (by simpa using e)
  exact⟨x,by simpa using h1,h2⟩
theorem RDs.append:∀{vs ws:List Val} {xs ys:List L2.V},RDs K mg ρ H vs xs→RDs K mg ρ H ws ys→RDs K mg ρ H (vs++ws) (xs++ys)
 |_,_,_,_,.nil,r=>r
 |_,_,_,_,.cons r rs,q=>.cons r (rs.append q)
theorem RDs.take:∀{vs:List Val} {xs:List L2.V} (n:Nat),RDs K mg ρ H vs xs→RDs K mg ρ H (vs.take n) (xs.take n)
 |_,_,0,_=>.nil
 |_,_,_+1,.nil=>.nil
 |_,_,n+1,.cons r rs=>.cons r (rs.take n)
theorem RDs.drop:∀{vs:List Val} {xs:List L2.V} (n:Nat),RDs K mg ρ H vs xs→RDs K mg ρ H (vs.drop n) (xs.drop n)
 |_,_,0,r=>r
 |_,_,_+1,.nil=>.nil
 |_,_,n+1,.cons _ rs=>rs.drop n
theorem RDs.set{v:Val}{x:L2.V}(r:RD K mg ρ H v x):∀{vs:List Val} {xs:List L2.V} (i:Nat),RDs K mg ρ H vs xs→RDs K mg ρ H (vs.set i v) (xs.set i x)
 |_,_,_,.nil=>.nil
 |_,_,0,.cons _ t=>.cons r t
 |_,_,i+1,.cons q t=>.cons q (RDs.set r i t)
theorem RDs.rep{vs:List Val}{xs:List L2.V}(r:RDs K mg ρ H vs xs):∀k:Nat,RDs K mg ρ H (List.replicate k vs).flatten (List.replicate k xs).flatten
 |0=>.nil
 |k+1=>by
  rw[List.replicate_succ,List.replicate_succ,List.flatten_cons,List.flatten_cons]
  exact r.append (RDs.rep r k)
theorem RDs.pick{vs:List Val}{xs:List L2.V}(r:RDs K mg ρ H vs xs):∀(is:List Nat),RDs K mg ρ H (is.filterMap fun i=>vs[i]?) (is.filterMap fun i=>xs[i]?)
 |[]=>.nil
 |i::is=>by
  rw[List.filterMap_cons,List.filterMap_cons]
  cases hx:vs[i]? with
  |none=>
   have:xs[i]?=none:=by
    have h2:vs.length≤i:=List.getElem?_eq_none_iff.mp hx
    exact List.getElem?_eq_none_iff.mpr (by rw[←r.length];exact h2)
   rw[this];exact RDs.pick r is
  |some v=>
   obtain⟨u,hu,ru⟩:=r.get hx
   rw[hu]
   exact .cons ru (RDs.pick r is)
theorem RDs.yc{vs:List Val}{xs:List L2.V}(r:RDs K mg ρ H vs xs)(lo st:Int)(n:Nat):RDs K mg ρ H (L2.yc vs lo st n) (L2.yc xs lo st n):=by
 have h:=r.pick ((List.range n).map fun(k:Nat)=>(lo+(k:Int)*st).toNat)
 rw[List.filterMap_map,List.filterMap_map]at h
 exact h
theorem RDs.ints:∀(ns:List Int),RDs K mg ρ H (ns.map .int) (ns.map .int)
 |[]=>.nil
 |n::ns=>.cons (.int n) (RDs.ints ns)
theorem RDs.cut{vs:List Val}{xs:List L2.V}(r:RDs K mg ρ H vs xs)(lo hi:Option Int):RDs K mg ρ H (xR vs lo hi) (L2.rn xs lo hi):=by
 unfold xR L2.rn
 rw[r.length]
 exact(r.drop _).take _
theorem gj{α:Type}:∀{l:List α} {i j:Nat} {x:α},l.Nodup→l[i]?=some x→l[j]?=some x→i=j
 |[],_,_,_,_,e,_=>by simp at e
 |a::l,0,0,_,_,_,_=>rfl
 |a::l,0,j+1,x,nd,e1,e2=>by
  simp at e1 e2;subst e1
  exact absurd (List.mem_of_getElem? e2) (List.nodup_cons.mp nd).1
 |a::l,i+1,0,x,nd,e1,e2=>by
  simp at e1 e2;subst e2
  exact absurd (List.mem_of_getElem? e1) (List.nodup_cons.mp nd).1
 |a::l,i+1,j+1,x,nd,e1,e2=>by
  simp at e1 e2
  rw[gj (List.nodup_cons.mp nd).2 e1 e2]
theorem Ext.new(h:HR K mg ρ s H){p:Addr}(hp:H p=none)(o:L2.HO):Ext ρ H ρ (L2.upd H p o):=
 ⟨⟨[],by simp,fun a ha=>by cases ha⟩,rfl,fun a u e _=>by rw[L2.zS (L2.zY e hp)];exact e⟩
theorem HR.more(h:HR K mg ρ s H){p:Addr}(hp:H p=none)(o:L2.HO):HR K mg ρ s (L2.upd H p o):=by
 refine⟨h.len,h.nd,fun i vs e=>?_,fun a ha=>?_⟩
 . obtain⟨a,xs,e1,e2,r⟩:=h.obj i vs e
   exact⟨a,xs,e1,by rw[L2.zS (L2.zY e2 hp)];exact e2,r.mono (Ext.new h hp o)⟩
 . obtain⟨⟨xs,e⟩,n⟩:=h.hid a ha
   exact⟨⟨xs,by rw[L2.zS (L2.zY e hp)];exact e⟩,n⟩
noncomputable def Own.more(ρ:Own)(p:Addr):Own:=⟨ρ.o++[p],ρ.h⟩
theorem Ext.own(h:HR K mg ρ s H){p:Addr}(hp:H p=none)(o:L2.HO):Ext ρ H (ρ.more p) (L2.upd H p o):=
 ⟨⟨[p],rfl,fun a ha=>by rw[List.mem_singleton.mp ha];exact hp⟩,rfl,fun a u e _=>by rw[L2.zS (L2.zY e hp)];exact e⟩
theorem kJ(h:HR K mg ρ s H)(p:Addr):(ρ.more p).o[s.length]?=some p:=by
 show (ρ.o++[p])[s.length]?=some p
 rw[←h.len,List.getElem?_append_right (Nat.le_refl _)];simp
theorem HR.own(h:HR K mg ρ s H){p:Addr}(hp:H p=none){vs:List Val}{xs:List L2.V}(r:RDs K mg ρ H vs xs):HR K mg (ρ.more p) (s++[.lst vs]) (L2.upd H p (.lst xs)):=by
 have X:=Ext.own h hp (.lst xs)
 refine⟨by show (ρ.o++[p]).length=_;rw[List.length_append,List.length_append,h.len];rfl,?_,fun i ws q=>?_,fun a ha=>?_⟩
 . show (ρ.o++[p]).Nodup
   rw[List.nodup_append]
   exact⟨h.nd,by simp,fun a ha b hb=>by rw[List.mem_singleton.mp hb];intro z;subst z;exact(h.new hp).1 ha⟩
 . by_cases hi:i<s.length
   . rw[List.getElem?_append_left hi]at q
     obtain⟨a,ys,e1,e2,t⟩:=h.obj i ws q
     exact⟨a,ys,X.get e1,by rw[L2.zS (L2.zY e2 hp)];exact e2,t.mono X⟩
   . have hi':i=s.length:=by
      have:=(List.getElem?_eq_some_iff.mp q).1
      rw[List.length_append]at this
      simp at this;omega
     subst hi'
     rw[List.getElem?_append_right (Nat.le_refl _)]at q
     simp at q
     subst q
     exact⟨p,xs,kJ h p,L2.z8,r.mono X⟩
 . obtain⟨⟨ys,q⟩,n⟩:=h.hid a ha
   refine⟨⟨ys,by rw[L2.zS (L2.zY q hp)];exact q⟩,fun hm=>?_⟩
   rcases List.mem_append.mp hm with hm|hm
   . exact n hm
   . rw[List.mem_singleton.mp hm,hp]at q;cases q
theorem Ext.write(h:HR K mg ρ s H){i:Nat}{a:Addr}(e:ρ.o[i]?=some a)(o:L2.HO):Ext ρ H ρ (L2.upd H a o):=
 ⟨⟨[],by simp,fun a ha=>by cases ha⟩,rfl,fun b u q n=>by rw[L2.zS (fun z=>n (by rw[z];exact List.mem_of_getElem? e))];exact q⟩
theorem HR.write(h:HR K mg ρ s H){i:Nat}{a:Addr}(e:ρ.o[i]?=some a){vs:List Val}{xs:List L2.V}(r:RDs K mg ρ H vs xs):HR K mg ρ (upd s i vs) (L2.upd H a (.lst xs)):=by
 have X:=Ext.write h e (.lst xs)
 refine⟨by unfold upd;rw[List.length_set];exact h.len,h.nd,fun j ws q=>?_,fun b hb=>?_⟩
 . unfold upd at q
   by_cases hij:i=j
   . subst hij
     have hi:i<s.length:=by rw[←h.len];exact(List.getElem?_eq_some_iff.mp e).1
     rw[List.getElem?_set_self hi]at q
     cases q
     exact⟨a,xs,e,L2.z8,r.mono X⟩
   . rw[List.getElem?_set_ne hij]at q
     obtain⟨b,ys,e1,e2,t⟩:=h.obj j ws q
     refine⟨b,ys,e1,?_,t.mono X⟩
     have hb:b≠a:=by
      intro z
      subst z
      exact hij (gj h.nd e e1)
     rw[L2.zS hb];exact e2
 . obtain⟨⟨ys,q⟩,n⟩:=h.hid b hb
   exact⟨⟨ys,by rw[L2.zS (fun z=>n (by rw[z];exact List.mem_of_getElem? e))];exact q⟩,n⟩
theorem ER.mono{env:Env}{σ:L2.St}(x:Ext ρ H ρ' H')(h:ER K mg ρ H env σ):ER K mg ρ' H' env σ:=⟨h.len,fun i v e=>by
 obtain⟨u,h1,h2⟩:=h.at_ i v e
 exact⟨u,h1,h2.mono x⟩⟩
theorem ER.set{env:Env}{σ:L2.St}(h:ER K mg ρ H env σ)(i:Nat){v:Val}{x:L2.V}(r:RD K mg ρ H v x):ER K mg ρ H (env.set i (some v)) (σ.set i (some x)):=by
 refine⟨by rw[List.length_set,List.length_set,h.len],fun j w e=>?_⟩
 by_cases hij:i=j
 . subst hij
   by_cases hi:i<env.length
   . rw[List.getElem?_set_self hi]at e
     cases e
     exact⟨x,by rw[List.getElem?_set_self (by rw[←h.len];exact hi)],r⟩
   . rw[List.getElem?_eq_none (by rw[List.length_set];omega)]at e
     cases e
 . rw[List.getElem?_set_ne hij]at e
   rw[List.getElem?_set_ne hij]
   exact h.at_ j w e
end
section
variable (K:KF)(mg:Str→Option Value)
noncomputable def yv{α β:Type}(R:Own→L2.Hp→α→β→Prop)(ρ:Own)(H:L2.Hp)(o:Out α)(Q:β→L2.Hp→Prop):Prop:=
 match o with
 |.ok v s'=>∀ρ' x H',Ext ρ H ρ' H'→HR K mg ρ' s' H'→R ρ' H' v x→Q x H'
 |_=>False
noncomputable def tV(env:Env)(s:Sto)(o:Out Val):L2.TE:=fun σ H Q=>∃ρ,HR K mg ρ s H∧ER K mg ρ H env σ∧yv K mg (RD K mg) ρ H o Q
noncomputable def tVs(env:Env)(s:Sto)(o:Out (List Val)):L2.TA:=fun σ H Q=>∃ρ,HR K mg ρ s H∧ER K mg ρ H env σ∧yv K mg (RDs K mg) ρ H o Q
noncomputable def tT(env:Env)(s:Sto)(o:Out Bool):L2.TT:=fun σ H Q=>∃ρ,HR K mg ρ s H∧ER K mg ρ H env σ∧yv K mg (fun _ _ a b=>a=b) ρ H o Q
noncomputable def tO(env:Env)(s:Sto)(o:Out (Option Int)):L2.TO:=fun σ H Q=>∃ρ,HR K mg ρ s H∧ER K mg ρ H env σ∧yv K mg (fun _ _ a b=>a=b) ρ H o Q
end
section
variable {X:L2.Cx}{e:Expr}
theorem zx{t t':L2.TE}(h:L2.PE X e t)(i:∀σ H Q,t' σ H Q→t σ H Q):L2.PE X e t':=fun pins s σ H Q I q=>h pins s σ H Q I (i σ H Q q)
theorem ph{t t':L2.TT}(h:L2.PT X e t)(i:∀σ H Q,t' σ H Q→t σ H Q):L2.PT X e t':=fun pins s σ H Q I q=>h pins s σ H Q I (i σ H Q q)
theorem fC{es:List Expr}{t t':L2.TA}(h:L2.PA X es t)(i:∀σ H Q,t' σ H Q→t σ H Q):L2.PA X es t':=fun pos pins s σ H Q I q=>h pos pins s σ H Q I (i σ H Q q)
theorem wU{st:Stmt}{t t':L2.TS}(h:L2.PS X st t)(i:∀D σ H,t' D σ H→t D σ H):L2.PS X st t':=fun pins s σ H D I q=>h pins s σ H D I (i D σ H q)
theorem kS{st:List Stmt}{t t':L2.TS}(h:L2.PSs X st t)(i:∀D σ H,t' D σ H→t D σ H):L2.PSs X st t':=fun pins s σ H D I q=>h pins s σ H D I (i D σ H q)
theorem X8{t:L2.TE}(h:∀σ H Q,¬t σ H Q):L2.PE X e t:=fun pins s σ H Q I q=>(h σ H Q q).elim
theorem WJ{t:L2.TT}(h:∀σ H Q,¬t σ H Q):L2.PT X e t:=fun pins s σ H Q I q=>(h σ H Q q).elim
theorem WK{t:L2.TT}(h:∀σ H Q,¬t σ H Q):L2.PW X e t:=fun wh pins s σ H Q I q=>(h σ H Q q).elim
theorem X5{es:List Expr}{t:L2.TA}(h:∀σ H Q,¬t σ H Q):L2.PA X es t:=fun pos pins s σ H Q I q=>(h σ H Q q).elim
end
section
variable {K:KF}{mg:Str→Option Value}{env:Env}{s:Sto}
theorem Wh{o:Out Val}(h:∀v s',o≠.ok v s'){σ:L2.St}{H:L2.Hp}{Q:L2.VK}:¬tV K mg env s o σ H Q:=by
 rintro ⟨ρ,_,_,w⟩
 cases o with
 |ok v s'=>exact h v s' rfl
 |_=>exact w
theorem Ye{o:Out (List Val)}(h:∀v s',o≠.ok v s'){σ:L2.St}{H:L2.Hp}{Q:List L2.V→L2.Hp→Prop}:¬tVs K mg env s o σ H Q:=by
 rintro ⟨ρ,_,_,w⟩
 cases o with
 |ok v s'=>exact h v s' rfl
 |_=>exact w
theorem aH{o:Out Bool}(h:∀v s',o≠.ok v s'){σ:L2.St}{H:L2.Hp}{Q:Bool→L2.Hp→Prop}:¬tT K mg env s o σ H Q:=by
 rintro ⟨ρ,_,_,w⟩
 cases o with
 |ok v s'=>exact h v s' rfl
 |_=>exact w
end
end M
end
section
namespace M
open PySem
theorem ya:zO=sizeLine:=by rw[sizeLine_eq];rfl
section
variable {K:KF}{mg:Str→Option Value}{ρ ρ':Own}{H H':L2.Hp}{s s':Sto}
theorem xu(hr:HR K mg ρ s H){v:Val}{x:L2.V}{vs:List Val}(r:RD K mg ρ H v x)(e:yV s v=some vs):∃a xs,x=.ref a∧H a=some (.lst xs)∧RDs K mg ρ H vs xs:=by
 cases r with
 |lst n h q=>cases e;exact⟨_,_,rfl,h,q⟩
 |@ref a i h=>
  simp only[yV]at e
  split at e
  . rename_i ws hw
    cases e
    obtain⟨b,xs,e1,e2,q⟩:=hr.obj i _ hw
    rw[h]at e1;cases e1
    exact⟨_,_,rfl,e2,q⟩
  . cases e
 |_=>cases e
theorem rX(hr:HR K mg ρ s H){v:Val}{x:L2.V}{vs:List Val}(r:RD K mg ρ H v x)(e:wI s v=some vs):∃a xs,x=.ref a∧(L2.SqL K H a xs∨L2.SqT K H a xs)∧RDs K mg ρ H vs xs:=by
 cases r with
 |lst n h q=>cases e;exact⟨_,_,rfl,.inl (.of h),q⟩
 |tup n h q=>cases e;exact⟨_,_,rfl,.inr (.of h),q⟩
 |ctup h=>cases e;exact⟨_,_,rfl,.inr h.sqt,RDs.ints _⟩
 |scr h=>cases e;exact⟨_,_,rfl,.inl h.sql,RDs.ints _⟩
 |@ref a i h=>
  simp only[wI]at e
  split at e
  . rename_i ws hw
    cases e
    obtain⟨b,xs,e1,e2,q⟩:=hr.obj i _ hw
    rw[h]at e1;cases e1
    exact⟨_,_,rfl,.inl (.of e2),q⟩
  . cases e
 |_=>cases e
mutual
theorem RD.reads{P:Program}{w:World}{h:Heap}(ok:L2.HOk P w H h):∀{v:Val} {x:L2.V} {u:Value},RD K mg ρ H v x→v.isR=true→L2.RelV x u→∃as,Reads h u v.d as∧(L2.xC v.d=false→sysModules ∉ as)
 |_,_,u,.none,_,r=>by cases (show u=Value.none from r);exact⟨[],.none,fun _=>by simp⟩
 |_,_,u,.bool b,_,r=>by cases (show u=Value.bool b from r);exact⟨[],.bool b,fun _=>by simp⟩
 |_,_,u,.int i,_,r=>by obtain⟨t,q⟩:=(show ∃t,u=Value.int i t from r);cases q;exact⟨[],.int i t,fun _=>by simp⟩
 |_,_,u,.str x,_,r=>by obtain⟨t,q⟩:=(show ∃t,u=Value.str x t from r);cases q;exact⟨[],.str x t,fun _=>by simp⟩
 |_,.ref a,u,.lst (xs:=xs) n ha rs,hv,r=>by
  cases (show u=Value.ref a from r)
  obtain⟨z,its,n,rv,e⟩:=(show L2.z5 P w H h a (.lst xs) from ok a _ ha)
  obtain⟨as,q,_⟩:=RDs.reads ok rs (by simpa only[Val.isR] using hv) rv
  exact⟨a::as,.list e rfl rfl (by simpa using q),fun z=>by simp[Val.d,L2.xC]at z⟩
 |_,.ref a,u,.tup (xs:=xs) n ha rs,hv,r=>by
  cases (show u=Value.ref a from r)
  obtain⟨z,its,rv,o,e,c,n,dd⟩:=(show L2.z5 P w H h a (.tup xs) from ok a _ ha)
  obtain⟨as,q,q2⟩:=RDs.reads ok rs (by simpa only[Val.isR] using hv) rv
  exact⟨as,.tuple e c dd.1 (by simpa using q),fun z=>q2 (by simpa [Val.d,L2.xC] using z)⟩
 |_,.ref a,u,.dct0 n ha,_,r=>by
  cases (show u=Value.ref a from r)
  obtain⟨z,y,vs,rv,o,es,ep,e,c,dd,k⟩:=(show L2.z5 P w H h a (.dK []) from ok a _ ha)
  cases rv
  have hes:es=#[]:=by
   have h2:=k.2.1
   cases hl:es.toList with
   |nil=>simpa using hl
   |cons a r=>rw[hl]at h2;cases h2
  subst hes
  refine⟨[a]++[],Reads.dict (as:=[]) (bs:=[]) e c.1 dd .nil .nil,fun _=>?_⟩
  have:a≠sysModules:=by simpa using y
  simpa using Ne.symm this
 |_,_,_,.ctup _,hv,_=>by cases hv
 |_,_,_,.scr _,hv,_=>by cases hv
 |_,_,_,.ref _,hv,_=>by cases hv
 |_,_,_,.fn _,hv,_=>by cases hv
 |_,_,_,.ty _,hv,_=>by cases hv
theorem RDs.reads{P:Program}{w:World}{h:Heap}(ok:L2.HOk P w H h):∀{vs:List Val} {xs:List L2.V} {us:List Value},RDs K mg ρ H vs xs→tj vs=true→L2.Vals xs us→∃as,ReadsAll h us (ds vs) as∧(L2.xS (ds vs)=false→sysModules ∉ as)
 |_,_,_,.nil,_,r=>by cases r;exact⟨[],.nil,fun _=>by simp⟩
 |_,_,_,.cons r rs,hv,q=>by
  cases q with
  |cons q1 q2=>
   rw[tj,Bool.and_eq_true]at hv
   obtain⟨as,h1,h2⟩:=RD.reads ok r hv.1 q1
   obtain⟨bs,h3,h4⟩:=RDs.reads ok rs hv.2 q2
   refine⟨as++bs,.cons h1 h3,fun z=>?_⟩
   rw[ds,L2.xS,Bool.or_eq_false_iff]at z
   intro hm
   rcases List.mem_append.mp hm with hm|hm
   . exact h2 z.1 hm
   . exact h4 z.2 hm
end
theorem uM{P:Program}{w:World}{h:Heap}(ok:L2.HOk P w H h)(hr:HR K mg ρ s H){v:Val}{x:L2.V}{u:Value}(hv:(yO s v).isR=true)(r:RD K mg ρ H v x)(ru:L2.RelV x u) :
 ∃as,Reads h u (yO s v).d as∧(L2.xC (yO s v).d=false→sysModules ∉ as):=by
 cases v with
 |ref i=>
  cases r with
  |@ref a _ e0=>
  simp only[yO]at hv ⊢
  split at hv
  . rename_i ws hw
    obtain⟨b,xs,e1,e2,q⟩:=hr.obj i _ hw
    rw[e0]at e1;cases e1
    cases (show u=Value.ref a from ru)
    obtain⟨z,its,n,rv,e⟩:=(show L2.z5 P w H h a (.lst xs) from ok a _ e2)
    obtain⟨as,q,_⟩:=RDs.reads ok q (by simpa only[Val.isR] using hv) rv
    exact⟨a::as,.list e rfl rfl (by simpa using q),fun z=>by simp[Val.d,L2.xC]at z⟩
  . cases hv
 |_=>exact RD.reads ok r hv ru
theorem RDs.fb{P:Program}{w:World}{h:Heap}(ok:L2.HOk P w H h)(hr:HR K mg ρ s H):∀{vs:List Val} {xs:List L2.V} {us:List Value},RDs K mg ρ H vs xs→tj (vs.map (yO s))=true→L2.Vals xs us→∃as,ReadsAll h us (ds (vs.map (yO s))) as∧(L2.xS (ds (vs.map (yO s)))=false→sysModules ∉ as)
 |_,_,_,.nil,_,r=>by cases r;exact⟨[],.nil,fun _=>by simp⟩
 |_,_,_,.cons r rs,hv,q=>by
  cases q with
  |cons q1 q2=>
   rw[List.map_cons,tj,Bool.and_eq_true]at hv
   obtain⟨as,h1,h2⟩:=uM ok hr hv.1 r q1
   obtain⟨bs,h3,h4⟩:=RDs.fb ok hr rs hv.2 q2
   rw[List.map_cons]
   refine⟨as++bs,.cons h1 h3,fun z=>?_⟩
   rw[ds,L2.xS,Bool.or_eq_false_iff]at z
   intro hm
   rcases List.mem_append.mp hm with hm|hm
   . exact h2 z.1 hm
   . exact h4 z.2 hm
theorem iw{v:Val}(h:∀vs,v≠.tup vs):zh s v=yO s v:=by
 cases v<;>first|rfl|exact absurd rfl (h _)
theorem xZ{P:Program}{w:World}{h:Heap}(ok:L2.HOk P w H h)(hr:HR K mg ρ s H){v:Val}{x:L2.V}{u:Value}(hv:(zh s v).isR=true)(r:RD K mg ρ H v x)(ru:L2.RelV x u) :
 ∃as,Reads h u (zh s v).d as∧(L2.xC (zh s v).d=false→sysModules ∉ as):=by
 cases v with
 |tup vs=>
  cases r with
  |@tup a _ xs n ha rs=>
   cases (show u=Value.ref a from ru)
   obtain⟨z,its,rv,o,e,c,n,dd⟩:=(show L2.z5 P w H h a (.tup xs) from ok a _ ha)
   obtain⟨as,q,q2⟩:=RDs.fb ok hr rs (by simpa only[zh,Val.isR] using hv) rv
   exact⟨as,.tuple e c dd.1 (by simpa using q),fun z=>q2 (by simpa [zh,Val.d,L2.xC] using z)⟩
 |_=>exact(show _ from by rw[iw (fun _ h=>by cases h)]at hv ⊢;exact uM ok hr hv r ru)
mutual
theorem yw:∀{v:Val},v.isD=true→v.isR=true
 |.none,_=>rfl
 |.bool _,_=>rfl
 |.int _,_=>rfl
 |.str _,_=>rfl
 |.tup vs,h=>by rw[Val.isR];exact w6 (by simpa only[Val.isD] using h)
 |.lst vs,h=>by rw[Val.isR];exact w6 (by simpa only[Val.isD] using h)
 |.dct0,h=>by cases h
 |.ctup _,h=>by cases h
 |.scr _,h=>by cases h
 |.ref _,h=>by cases h
 |.fn _,h=>by cases h
 |.ty _,h=>by cases h
theorem w6:∀{vs:List Val},xc vs=true→tj vs=true
 |[],_=>rfl
 |v::vs,h=>by
  rw[xc,Bool.and_eq_true]at h
  rw[tj,yw h.1,w6 h.2];rfl
end
mutual
theorem yF:∀{v:Val},v.isD=true→v.d.canLay0=true
 |.none,_=>rfl
 |.bool _,_=>rfl
 |.int _,_=>rfl
 |.str _,h=>by simpa only[Val.isD,Val.d,PyData.canLay0] using h
 |.tup vs,h=>by rw[Val.d,PyData.canLay0];exact xr (by simpa only[Val.isD] using h)
 |.lst vs,h=>by rw[Val.d,PyData.canLay0];exact xr (by simpa only[Val.isD] using h)
 |.dct0,h=>by cases h
 |.ctup _,h=>by cases h
 |.scr _,h=>by cases h
 |.ref _,h=>by cases h
 |.fn _,h=>by cases h
 |.ty _,h=>by cases h
theorem xr:∀{vs:List Val},xc vs=true→PyData.canLayAll0 (ds vs)=true
 |[],_=>rfl
 |v::vs,h=>by
  rw[xc,Bool.and_eq_true]at h
  rw[ds,PyData.canLayAll0,yF h.1,xr h.2];rfl
end
theorem vA(hr:HR K mg ρ s H){m:Bool}{vs:List Val}{xs:List L2.V}(r:RDs K mg ρ H vs xs){Q:L2.VK}(w:yv K mg (RD K mg) ρ H (newList m vs s) Q):∀p,H p=none→Q (.ref p) (L2.upd H p (.lst xs)):=fun p hp=>by
 cases m with
 |true=>exact w _ _ _ (Ext.own hr hp _) (hr.own hp r) (.ref (kJ hr p))
 |false=>exact w _ _ _ (Ext.new hr hp _) (hr.more hp _) (.lst (hr.new hp) L2.z8 (r.mono (Ext.new hr hp _)))
theorem pV(hr:HR K mg ρ s H){vs:List Val}{xs:List L2.V}(r:RDs K mg ρ H vs xs){Q:L2.VK}(w:yv K mg (RD K mg) ρ H (.ok (.tup vs) s) Q):∀p,H p=none→Q (.ref p) (L2.upd H p (.tup xs)):=fun p hp=>
 w _ _ _ (Ext.new hr hp _) (hr.more hp _) (.tup (hr.new hp) L2.z8 (r.mono (Ext.new hr hp _)))
theorem Ext.same(e:L2.sN H H'):Ext ρ H ρ H':=⟨⟨[],by simp,fun a ha=>by cases ha⟩,rfl,fun a o h _=>e a o h⟩
theorem HR.same(hr:HR K mg ρ s H)(e:L2.sN H H'):HR K mg ρ s H':=⟨hr.len,hr.nd,fun i vs q=>by
 obtain⟨a,xs,e1,e2,r⟩:=hr.obj i vs q
 exact⟨a,xs,e1,e a _ e2,r.mono (Ext.same e)⟩,fun a ha=>by
 obtain⟨⟨ys,q⟩,n⟩:=hr.hid a ha
 exact⟨⟨ys,e a _ q⟩,n⟩⟩
theorem uV(hr:HR K mg ρ s H){vs:List Val}{xs:List L2.V}(r:RDs K mg ρ H vs xs){Q:L2.VK}(w:yv K mg (RD K mg) ρ H (.ok (.tup vs) s) Q):L2.tL H xs Q:=fun p H' e h=>by
 have hr':=hr.same e
 refine w _ _ _ (Ext.same e) hr' (.tup ⟨fun hm=>?_,fun hm=>?_⟩ h (r.mono (Ext.same e)))
 . obtain⟨ys,q⟩:=hr'.trk hm
   rw[h]at q;cases q
 . obtain⟨⟨ys,q⟩,_⟩:=hr'.hid _ hm
   rw[h]at q;cases q
end
section
variable (K:KF)(mg:Str→Option Value)
noncomputable def rM2(g:Val→Val→Sto→Out Val):L2.R2:=fun x y H Q=>∃ρ s v w,HR K mg ρ s H∧RD K mg ρ H v x∧RD K mg ρ H w y∧yv K mg (RD K mg) ρ H (g v w s) Q
noncomputable def rMc(g:List Val→Sto→Out Val):List L2.V→L2.Hp→L2.VK→Prop:=fun xs H Q=>∃ρ s vs,HR K mg ρ s H∧RDs K mg ρ H vs xs∧yv K mg (RD K mg) ρ H (g vs s) Q
end
section
variable {X:L2.Cx}{k:Nat}
theorem zH{K:KF}{mg:Str→Option Value}{ρ:Own}{H:L2.Hp}{s:Sto}(hr:HR K mg ρ s H){v:Val}{x:L2.V}(r:RD K mg ρ H v x){Q:L2.VK}(w:yv K mg (RD K mg) ρ H (.ok v s) Q):Q x H:=w _ _ _ Ext.refl hr r
theorem mP(m:Bool):L2.OpR X (binaryOp .Add) (rM2 X.K X.mg (binOp m .add)):=by
 intro pins s σ H x y v u Q I rx ry h
 obtain⟨ρ,t,a,b,hr,ra,rb,w⟩:=h
 simp only[binOp]at w
 split at w
 . cases ra;cases rb
   exact L2.Zq pins s σ H _ _ v u Q I rx ry ⟨_,_,rfl,rfl,zH hr (.int _) w⟩
 . split at w
   . rename_i hz
     cases ra;cases rb
     exact L2.mO pins s σ H _ _ v u Q I rx ry ⟨_,_,rfl,rfl,by rw[←ya];exact hz,zH hr (.str _) w⟩
   . exact w.elim
 . split at w
   . rename_i hz
     cases ra with
     |tup n1 h1 q1=>
      cases rb with
      |tup n2 h2 q2=>
       refine L2.gn pins s σ H _ _ v u Q I rx ry ⟨_,_,_,_,rfl,rfl,h1,h2,?_,uV hr (q1.append q2) w⟩
       rw[←q1.length,←q2.length,←ya];exact hz
   . exact w.elim
 . split at w
   . rename_i ea eb
     split at w
     . rename_i hz
       obtain⟨p1,xs,rfl,h1,q1⟩:=xu hr ra ea
       obtain⟨p2,ys,rfl,h2,q2⟩:=xu hr rb eb
       refine L2.Zt pins s σ H _ _ v u Q I rx ry ⟨_,_,_,_,rfl,rfl,h1,h2,?_,vA hr (q1.append q2) w⟩
       rw[←q1.length,←q2.length,←ya];exact hz
     . exact w.elim
   . exact w.elim
theorem mV(m:Bool):L2.OpR X (binaryOp .Sub) (rM2 X.K X.mg (binOp m .sub)):=by
 intro pins s σ H x y v u Q I rx ry h
 obtain⟨ρ,t,a,b,hr,ra,rb,w⟩:=h
 simp only[binOp]at w
 split at w
 . cases ra;cases rb
   exact L2.Z1 pins s σ H _ _ v u Q I rx ry ⟨_,_,rfl,rfl,zH hr (.int _) w⟩
 . exact w.elim
theorem mR(m:Bool):L2.OpR X (binaryOp .Mult) (rM2 X.K X.mg (binOp m .mul)):=by
 intro pins s σ H x y v u Q I rx ry h
 obtain⟨ρ,t,a,b,hr,ra,rb,w⟩:=h
 simp only[binOp]at w
 split at w
 . split at w
   . rename_i hz
     cases ra;cases rb
     exact L2.Zw pins s σ H _ _ v u Q I rx ry ⟨_,_,rfl,rfl,hz,zH hr (.int _) w⟩
   . exact w.elim
 . split at w
   . rename_i hz
     obtain⟨z1,z2,z3,z4⟩:=hz
     cases ra with
     |tup n1 h1 q1=>
      cases rb
      refine L2.cI pins s σ H _ _ v u Q I rx ry ⟨_,_,_,rfl,rfl,h1,z1,z2,?_,?_,uV hr (q1.rep _) w⟩
      . intro e;subst e;cases q1;exact z3 rfl
      . rw[←q1.length];exact z4
   . exact w.elim
 . split at w
   . rename_i ea
     split at w
     . rename_i hz
       obtain⟨z1,z2,z3⟩:=hz
       obtain⟨p1,xs,rfl,h1,q1⟩:=xu hr ra ea
       cases rb
       refine L2.Zy pins s σ H _ _ v u Q I rx ry ⟨_,_,_,rfl,rfl,h1,by omega,by omega,?_,vA hr (q1.rep _) w⟩
       rw[←q1.length,←ya];exact z3
     . exact w.elim
   . exact w.elim
 . exact w.elim
theorem ou(m:Bool):L2.OpR X (binaryOp .FloorDiv) (rM2 X.K X.mg (binOp m .fdiv)):=by
 intro pins s σ H x y v u Q I rx ry h
 obtain⟨ρ,t,a,b,hr,ra,rb,w⟩:=h
 simp only[binOp]at w
 split at w
 . split at w
   . rename_i hz
     cases ra;cases rb
     exact L2.cG pins s σ H _ _ v u Q I rx ry ⟨_,_,rfl,rfl,hz,zH hr (.int _) w⟩
   . exact w.elim
 . exact w.elim
theorem mQ(m:Bool):L2.OpR X (binaryOp .Mod) (rM2 X.K X.mg (binOp m .mod)):=by
 intro pins s σ H x y v u Q I rx ry h
 obtain⟨ρ,t,a,b,hr,ra,rb,w⟩:=h
 simp only[binOp]at w
 split at w
 . split at w
   . rename_i hz
     cases ra;cases rb
     exact L2.Zv pins s σ H _ _ v u Q I rx ry ⟨_,_,rfl,rfl,hz,zH hr (.int _) w⟩
   . exact w.elim
 . exact w.elim
theorem mS(m:Bool):L2.OpR X (binaryOp .Pow) (rM2 X.K X.mg (binOp m .pow)):=by
 intro pins s σ H x y v u Q I rx ry h
 obtain⟨ρ,t,a,b,hr,ra,rb,w⟩:=h
 simp only[binOp]at w
 split at w
 . split at w
   . rename_i hz
     cases ra;cases rb
     exact L2.Zx pins s σ H _ _ v u Q I rx ry ⟨_,_,rfl,rfl,hz,zH hr (.int _) w⟩
   . exact w.elim
 . exact w.elim
theorem mT(m:Bool):L2.OpR X (binaryOp .LShift) (rM2 X.K X.mg (binOp m .shl)):=by
 intro pins s σ H x y v u Q I rx ry h
 obtain⟨ρ,t,a,b,hr,ra,rb,w⟩:=h
 simp only[binOp]at w
 split at w
 . split at w
   . rename_i hz
     cases ra;cases rb
     exact L2.Zz pins s σ H _ _ v u Q I rx ry ⟨_,_,rfl,rfl,hz,zH hr (.int _) w⟩
   . exact w.elim
 . exact w.elim
theorem mU(m:Bool):L2.OpR X (binaryOp .RShift) (rM2 X.K X.mg (binOp m .shr)):=by
 intro pins s σ H x y v u Q I rx ry h
 obtain⟨ρ,t,a,b,hr,ra,rb,w⟩:=h
 simp only[binOp]at w
 split at w
 . split at w
   . rename_i hz
     cases ra;cases rb
     exact L2.Z0 pins s σ H _ _ v u Q I rx ry ⟨_,_,rfl,rfl,hz,zH hr (.int _) w⟩
   . exact w.elim
 . exact w.elim
theorem ot(m:Bool):L2.OpR X (binaryOp .BitAnd) (rM2 X.K X.mg (binOp m .band)):=by
 intro pins s σ H x y v u Q I rx ry h
 obtain⟨ρ,t,a,b,hr,ra,rb,w⟩:=h
 simp only[binOp]at w
 split at w
 . cases ra;cases rb
   exact L2.Zr pins s σ H _ _ v u Q I rx ry ⟨_,_,rfl,rfl,zH hr (.int _) w⟩
 . exact w.elim
end
end M
end
section
namespace M
open PySem
section
variable {K:KF}{mg:Str→Option Value}{ρ ρ':Own}{H H':L2.Hp}{s s':Sto}
theorem RD.flat{v:Val}{x:L2.V}(r:RD K mg ρ H v x)(h:flat v=true):L2.wM x=true:=by
 cases r<;>first|rfl|cases h
theorem RD.eqF{v w:Val}{x y:L2.V}(r:RD K mg ρ H v x)(q:RD K mg ρ H w y)(h:M.flat v=true)(h':M.flat w=true):L2.eqV x y=M.eqF v w:=by
 cases r<;>first|(cases h;done)|(cases q<;>first|rfl|(cases h';done))
theorem RDs.flat:∀{vs:List Val} {xs:List L2.V},RDs K mg ρ H vs xs→vs.all flat=true→xs.all L2.wM=true
 |_,_,.nil,_=>rfl
 |_,_,.cons r rs,h=>by
  rw[List.all_cons,Bool.and_eq_true]at h
  rw[List.all_cons,r.flat h.1,rs.flat h.2];rfl
theorem RDs.any{w:Val}{y:L2.V}(q:RD K mg ρ H w y)(hw:M.flat w=true):∀{vs:List Val} {xs:List L2.V},RDs K mg ρ H vs xs→vs.all M.flat=true→(xs.any fun z=>L2.eqV z y)=vs.any fun z=>M.eqF z w
 |_,_,.nil,_=>rfl
 |_,_,.cons r rs,h=>by
  rw[List.all_cons,Bool.and_eq_true]at h
  rw[List.any_cons,List.any_cons,r.eqF q h.1 hw,RDs.any q hw rs h.2]
theorem RDs.countP{w:Val}{y:L2.V}(q:RD K mg ρ H w y)(hw:M.flat w=true):∀{vs:List Val} {xs:List L2.V},RDs K mg ρ H vs xs→vs.all M.flat=true→(xs.countP fun z=>L2.eqV z y)=vs.countP fun z=>M.eqF z w
 |_,_,.nil,_=>rfl
 |_,_,.cons r rs,h=>by
  rw[List.all_cons,Bool.and_eq_true]at h
  rw[List.countP_cons,List.countP_cons,r.eqF q h.1 hw,RDs.countP q hw rs h.2]
theorem RDs.bools:∀{vs:List Val} {xs:List L2.V} {bs:List Bool},RDs K mg ρ H vs xs→boolsOf vs=some bs→xs=bs.map L2.V.bl
 |_,_,_,.nil,h=>by cases h;rfl
 |_,_,_,.cons r rs,h=>by
  cases r with
  |bool b=>
   simp only[boolsOf,Option.map_eq_some_iff]at h
   obtain⟨bs',h1,h2⟩:=h
   subst h2
   rw[rs.bools h1];rfl
  |_=>cases h
theorem RDs.kC:∀{vs:List Val} {xs:List L2.V} {ns:List Int},RDs K mg ρ H vs xs→intsOf vs=some ns→xs=ns.map L2.V.int
 |_,_,_,.nil,h=>by cases h;rfl
 |_,_,_,.cons r rs,h=>by
  cases r with
  |int b=>
   simp only[intsOf,Option.map_eq_some_iff]at h
   obtain⟨bs',h1,h2⟩:=h
   subst h2
   rw[rs.kC h1];rfl
  |_=>cases h
theorem eY{vs:List Val}{xs:List L2.V}{i:Int}{v:Val}(r:RDs K mg ρ H vs xs)(h:L2.atI vs i=some v):∃x,L2.atI xs i=some x∧RD K mg ρ H v x:=by
 unfold L2.atI at h ⊢
 rw[←r.length]
 obtain⟨j,h1,h2⟩:=Option.bind_eq_some_iff.mp h
 obtain⟨x,h3,h4⟩:=r.get h2
 exact⟨x,by rw[h1];exact h3,h4⟩
theorem Yl(hr:HR K mg ρ s H){v:Val}{x:L2.V}{b:Bool}(r:RD K mg ρ H v x)(h:truth s v=some b):L2.aT K x H b:=by
 have hz:∀{vs:List Val} {xs:List L2.V},RDs K mg ρ H vs xs→vs.isEmpty=xs.isEmpty:=fun r=>by cases r<;>rfl
 cases r with
 |none=>cases h;rfl
 |bool b=>cases h;rfl
 |int i=>cases h;rfl
 |str x=>
  simp only[truth]at h
  split at h
  . cases h
    rename_i q
    exact⟨by rw[←ya];exact q,rfl⟩
  . cases h
 |tup n e q=>cases h;exact .inr (.inl ⟨_,.of e,by rw[hz q]⟩)
 |lst n e q=>cases h;exact .inl ⟨_,.of e,by rw[hz q]⟩
 |dct0 n e=>cases h;exact .inr (.inr ⟨_,e,rfl⟩)
 |ctup _=>cases h
 |scr _=>cases h
 |@ref a i e=>
  simp only[truth]at h
  split at h
  . rename_i ws hw
    cases h
    obtain⟨c,xs,e1,e2,q⟩:=hr.obj i _ hw
    rw[e]at e1;cases e1
    exact .inl ⟨_,.of e2,by rw[hz q]⟩
  . cases h
 |fn _=>cases h
 |ty _=>cases h
theorem Wj(hr:HR K mg ρ s H){v:Val}{x:L2.V}{a:L2.Kd}(r:RD K mg ρ H v x)(h:kindOf v=some a):(L2.uF K H x (.type a.nm)):=by
 cases r with
 |none=>cases h;exact .non
 |bool b=>cases h;exact .bl b
 |int i=>cases h;exact .int i
 |str x=>cases h;exact .str x
 |tup n e q=>cases h;exact .tup e
 |lst n e q=>cases h;exact .lst e
 |dct0 n e=>cases h;exact .dK e
 |@ref b i e=>
  cases h
  obtain⟨xs,q⟩:=hr.trk (List.mem_of_getElem? e)
  exact .lst q
 |_=>cases h
theorem Xa{n:String}{c:L2.Kd}(h:xD n=some c):n=c.nm∧c≠.non:=by
 unfold xD at h
 split at h<;>first|(cases h;exact⟨rfl,by decide⟩)|cases h
end
section
variable {X:L2.Cx}{k:Nat}
theorem Xe{d:PyData}(h:rN d=true):L2.bp d:=by
 unfold rN at h
 simp only[Bool.and_eq_true,decide_eq_true_eq,Bool.or_eq_true,Bool.not_eq_true']at h
 obtain⟨⟨⟨⟨h1,h2⟩,h3⟩,h4⟩,h5⟩:=h
 have L:L2.vJ d.depth d.weight d:=⟨h1,h2,Nat.le_refl _,Nat.le_refl _⟩
 refine L.WX h3 h4 fun z=>?_
 rcases h5 with h5|h5
 . rw[h5]at z;cases z
 . exact h5
theorem jd(hr0:L2.y9 k X.A):L2.OpR X (compareOp .Eq) (rM2 X.K X.mg (zV .eq)):=by
 intro pins s σ H x y v u Q I rx ry h
 obtain⟨ρ,t,a,b,hr,ra,rb,w⟩:=h
 simp only[zV,uN]at w
 split at w
 . rename_i p q
   cases ra;cases rb
   have e:decide (L2.V.str p=L2.V.str q)=decide (p=q):=by
    rw[Bool.eq_iff_iff];simp
   refine L2.Xi pins s σ H _ _ v u Q I rx ry ⟨rfl,?_⟩
   rw[e]
   exact zH hr (.bool _) w
 . by_cases hc:((zh t a).isD&&(zh t b).isD&&decide ((zh t b).d.depth≤60))=true
   . rw[if_pos hc]at w
     simp only[Bool.and_eq_true,decide_eq_true_eq]at hc
     obtain⟨as,r1,_⟩:=xZ I.hok hr (yw hc.1.1) ra rx
     obtain⟨bs,r2,_⟩:=xZ I.hok hr (yw hc.1.2) rb ry
     have hu:=hr0.un
     have hm:=Nat.min_le_right (zh t a).d.depth (zh t b).d.depth
     exact SeqAt.compareEq_reads r1 r2 (yF hc.1.1) (yF hc.1.2) (by omega) ⟨.bl _,H,I,rfl,zH hr (.bool _) w⟩
   . rw[if_neg hc]at w;exact w.elim
theorem jn(hr0:L2.y9 k X.A):L2.OpR X (compareOp .NotEq) (rM2 X.K X.mg (zV .ne)):=by
 intro pins s σ H x y v u Q I rx ry h
 obtain⟨ρ,t,a,b,hr,ra,rb,w⟩:=h
 simp only[zV,uN]at w
 split at w
 . rename_i p q
   cases ra;cases rb
   have e:decide (L2.V.str p=L2.V.str q)=decide (p=q):=by
    rw[Bool.eq_iff_iff];simp
   refine L2.Xn pins s σ H _ _ v u Q I rx ry ⟨rfl,?_⟩
   rw[e]
   exact zH hr (.bool _) w
 . by_cases hc:((zh t a).isD&&(zh t b).isD&&decide ((zh t b).d.depth≤60))=true
   . rw[if_pos hc]at w
     simp only[Bool.and_eq_true,decide_eq_true_eq]at hc
     obtain⟨as,r1,_⟩:=xZ I.hok hr (yw hc.1.1) ra rx
     obtain⟨bs,r2,_⟩:=xZ I.hok hr (yw hc.1.2) rb ry
     have hu:=hr0.un
     have hm:=Nat.min_le_right (zh t a).d.depth (zh t b).d.depth
     exact SeqAt.compareNe_reads r1 r2 (yF hc.1.1) (yF hc.1.2) (by omega) ⟨.bl _,H,I,rfl,zH hr (.bool _) w⟩
   . rw[if_neg hc]at w;exact w.elim
theorem RD.isNone{K:KF}{mg:Str→Option Value}{ρ:Own}{H:L2.Hp}{v:Val}{x:L2.V}(r:RD K mg ρ H v x):decide (x=.non)=v.isN:=by
 cases r<;>first|rfl|exact decide_eq_false (fun z=>nomatch z)
theorem jj:L2.OpR X (compareOp .Is) (rM2 X.K X.mg (zV .is)):=by
 intro pins s σ H x y v u Q I rx ry h
 obtain⟨ρ,t,a,b,hr,ra,rb,w⟩:=h
 cases rb with
 |none=>
  refine L2.Zu pins s σ H _ _ v u Q I rx ry ⟨rfl,?_⟩
  rw[ra.isNone]
  exact zH hr (.bool _) w
 |bool c=>
  cases ra with
  |bool d=>cases rx;cases ry;cases c<;>cases d<;>exact wpAny_pure ⟨.bl _,H,I,rfl,zH hr (.bool _) w⟩
  |_=>exact w.elim
 |_=>exact w.elim
theorem pZ:L2.OpR X (compareOp .IsNot) (rM2 X.K X.mg (zV .isNot)):=by
 intro pins s σ H x y v u Q I rx ry h
 obtain⟨ρ,t,a,b,hr,ra,rb,w⟩:=h
 cases rb with
 |none=>
  refine L2.cH pins s σ H _ _ v u Q I rx ry ⟨rfl,?_⟩
  rw[ra.isNone]
  exact zH hr (.bool _) w
 |bool c=>
  cases ra with
  |bool d=>cases rx;cases ry;cases c<;>cases d<;>exact wpAny_pure ⟨.bl _,H,I,rfl,zH hr (.bool _) w⟩
  |_=>exact w.elim
 |_=>exact w.elim
theorem xf:∀{vs:List Val} {v:Val},xc vs=true→v∈vs→v.isD=true
 |w::vs,v,h,m=>by
  rw[xc,Bool.and_eq_true]at h
  rcases List.mem_cons.mp m with rfl|m
  . exact h.1
  . exact xf h.2 m
theorem pK{A:Around}{s:Shared}{u:Value}{K:KF}{mg:Str→Option Value}{ρ:Own}{H:L2.Hp}{g:Val→Bool}{vs:List Val}{xs:List L2.V}{its:List Value}(q:RDs K mg ρ H vs xs)(r:L2.Vals xs its)
 (hE:∀z x w,z∈vs→RD K mg ρ H z x→L2.RelV x w→SeqAt.EqAt A s w u (g z)):∃f:Value→Bool,(∀w∈its.toArray,SeqAt.EqAt A s w u (f w))∧its.toArray.any f=vs.any g:=by
 classical
 have at_:∀i w,its[i]?=some w→∃z x,vs[i]?=some z∧RD K mg ρ H z x∧L2.RelV x w:=fun i w e=>by
  have hi:i<xs.length:=by rw[r.length];exact(List.getElem?_eq_some_iff.mp e).1
  have hx:xs[i]?=some xs[i]:=List.getElem?_eq_getElem hi
  obtain⟨w',e',rw'⟩:=r.get hx
  rw[e]at e';cases e'
  obtain⟨z,e1,rz⟩:=q.XC hx
  exact⟨z,_,e1,rz,rw'⟩
 refine⟨fun w=>decide (∃(i:Nat) (z:Val),its[i]?=some w∧vs[i]?=some z∧g z=true),fun w hw=>?_,?_⟩
 . obtain⟨i,hi⟩:=List.getElem?_of_mem (by simpa using hw:w∈its)
   by_cases hd:∃(i:Nat) (z:Val),its[i]?=some w∧vs[i]?=some z∧g z=true
   . dsimp only;rw[decide_eq_true hd]
     obtain⟨j,z,e1,e2,e3⟩:=hd
     obtain⟨z',x,e4,rz,rw'⟩:=at_ j w e1
     rw[e2]at e4;cases e4
     rw[←e3];exact hE z x w (List.mem_of_getElem? e2) rz rw'
   . dsimp only;rw[decide_eq_false hd]
     obtain⟨z,x,e4,rz,rw'⟩:=at_ i w hi
     have hg:g z=false:=by
      cases hg:g z with
      |false=>rfl
      |true=>exact(hd ⟨i,z,hi,e4,hg⟩).elim
     rw[←hg];exact hE z x w (List.mem_of_getElem? e4) rz rw'
 . rw[Bool.eq_iff_iff,Array.any_toList.symm,List.any_eq_true,List.any_eq_true]
   constructor
   . rintro ⟨w,_,h⟩
     obtain⟨i,z,_,e2,e3⟩:=of_decide_eq_true h
     exact⟨z,List.mem_of_getElem? e2,e3⟩
   . rintro ⟨z,hz,e3⟩
     obtain⟨i,hi⟩:=List.getElem?_of_mem hz
     obtain⟨x,e1,_⟩:=q.get hi
     obtain⟨w,e2,_⟩:=r.get e1
     exact⟨w,List.mem_of_getElem? e2,decide_eq_true ⟨i,z,e2,hi,e3⟩⟩
theorem eqD{K:KF}{mg:Str→Option Value}{ρ:Own}{H:L2.Hp}{P:Program}{w:World}{s:Shared}{A:Around}(hu:A.units+60<cLine)(ok:L2.HOk P w H s.heap){a z:Val}{x y:L2.V}{v u:Value}(ra:RD K mg ρ H a x)(rx:L2.RelV x v)(ha:a.isD=true)(hd:a.d.depth≤60)
 (rz:RD K mg ρ H z y) (ry:L2.RelV y u) (hz:z.isD=true):SeqAt.EqAt A s u v (PyData.eqv z.d a.d):=by
 obtain⟨as,r1,_⟩:=RD.reads ok ra (yw ha) rx
 obtain⟨bs,r2,_⟩:=RD.reads ok rz (yw hz) ry
 have hm:=Nat.min_le_right z.d.depth a.d.depth
 exact SeqAt.eqAt_reads _ _ _ _ _ _ _ _ r2 r1 (yF hz) (yF ha) (by omega)
theorem jh(hr0:L2.y9 k X.A):L2.OpR X (compareOp .In) (rM2 X.K X.mg (zV .in_)):=by
 intro pins s σ H x y v u Q I rx ry h
 obtain⟨ρ,t,a,b,hr,ra,rb,w⟩:=h
 simp only[zV]at w
 split at w
 . rename_i vs e
   obtain⟨p,xs,rfl,hq,q⟩:=rX hr rb e
   split at w
   . rename_i hf
     rw[Bool.and_eq_true]at hf
     refine L2.jo pins s σ H _ _ v u Q I rx ry ⟨p,xs,rfl,hq,ra.flat hf.1,q.flat hf.2,?_⟩
     simp only[L2.inV,Bool.false_eq_true,if_false]
     rw[RDs.any ra hf.1 q hf.2]
     exact zH hr (.bool _) w
   . split at w
     . rename_i hf
       simp only[inD,Bool.and_eq_true,decide_eq_true_eq]at hf
       have hu:=hr0.un
       cases ry
       rcases hq with hq|hq
       . obtain⟨its,r,pl,hz⟩:=I.list hq
         obtain⟨f,f1,f2⟩:=pK (A:=X.A.in1) (s:=s) (u:=v) (g:=fun z=>PyData.eqv z.d a.d) q r fun z x' w' hz rz ry'=>eqD (show X.A.units+1+60<cLine by omega) I.hok ra rx hf.1.1 hf.2 rz ry' (xf hf.1.2 hz)
         exact SeqAt.in_listAt f pl.isList f1 ⟨.bl _,H,I,rfl,by rw[f2];exact zH hr (.bool _) w⟩
       . obtain⟨its,r,pl,hz⟩:=I.tuple hq
         obtain⟨f,f1,f2⟩:=pK (A:=X.A.in1) (s:=s) (u:=v) (g:=fun z=>PyData.eqv z.d a.d) q r fun z x' w' hz rz ry'=>eqD (show X.A.units+1+60<cLine by omega) I.hok ra rx hf.1.1 hf.2 rz ry' (xf hf.1.2 hz)
         exact SeqAt.in_tupleAt f pl f1 ⟨.bl _,H,I,rfl,by rw[f2];exact zH hr (.bool _) w⟩
     . exact w.elim
 . exact w.elim
theorem pe(hr0:L2.y9 k X.A):L2.OpR X (compareOp .NotIn) (rM2 X.K X.mg (zV .notIn)):=by
 intro pins s σ H x y v u Q I rx ry h
 obtain⟨ρ,t,a,b,hr,ra,rb,w⟩:=h
 simp only[zV]at w
 split at w
 . rename_i vs e
   obtain⟨p,xs,rfl,hq,q⟩:=rX hr rb e
   split at w
   . rename_i hf
     rw[Bool.and_eq_true]at hf
     refine L2.pf pins s σ H _ _ v u Q I rx ry ⟨p,xs,rfl,hq,ra.flat hf.1,q.flat hf.2,?_⟩
     simp only[L2.inV,if_true]
     rw[RDs.any ra hf.1 q hf.2]
     exact zH hr (.bool _) w
   . split at w
     . rename_i hf
       simp only[inD,Bool.and_eq_true,decide_eq_true_eq]at hf
       have hu:=hr0.un
       cases ry
       rcases hq with hq|hq
       . obtain⟨its,r,pl,hz⟩:=I.list hq
         obtain⟨f,f1,f2⟩:=pK (A:=X.A.in1) (s:=s) (u:=v) (g:=fun z=>PyData.eqv z.d a.d) q r fun z x' w' hz rz ry'=>eqD (show X.A.units+1+60<cLine by omega) I.hok ra rx hf.1.1 hf.2 rz ry' (xf hf.1.2 hz)
         exact SeqAt.notIn_listAt f pl.isList f1 ⟨.bl _,H,I,rfl,by rw[f2];exact zH hr (.bool _) w⟩
       . obtain⟨its,r,pl,hz⟩:=I.tuple hq
         obtain⟨f,f1,f2⟩:=pK (A:=X.A.in1) (s:=s) (u:=v) (g:=fun z=>PyData.eqv z.d a.d) q r fun z x' w' hz rz ry'=>eqD (show X.A.units+1+60<cLine by omega) I.hok ra rx hf.1.1 hf.2 rz ry' (xf hf.1.2 hz)
         exact SeqAt.notIn_tupleAt f pl f1 ⟨.bl _,H,I,rfl,by rw[f2];exact zH hr (.bool _) w⟩
     . exact w.elim
 . exact w.elim
theorem jm:L2.OpR X (compareOp .Lt) (rM2 X.K X.mg (zV .lt)):=by
 intro pins s σ H x y v u Q I rx ry h
 obtain⟨ρ,t,a,b,hr,ra,rb,w⟩:=h
 simp only[zV]at w
 split at w
 . cases ra;cases rb
   exact L2.Xm pins s σ H _ _ v u Q I rx ry ⟨_,_,rfl,rfl,zH hr (.bool _) w⟩
 . exact w.elim
theorem jk:L2.OpR X (compareOp .LtE) (rM2 X.K X.mg (zV .le)):=by
 intro pins s σ H x y v u Q I rx ry h
 obtain⟨ρ,t,a,b,hr,ra,rb,w⟩:=h
 simp only[zV]at w
 split at w
 . cases ra;cases rb
   exact L2.Xl pins s σ H _ _ v u Q I rx ry ⟨_,_,rfl,rfl,zH hr (.bool _) w⟩
 . exact w.elim
theorem jg:L2.OpR X (compareOp .Gt) (rM2 X.K X.mg (zV .gt)):=by
 intro pins s σ H x y v u Q I rx ry h
 obtain⟨ρ,t,a,b,hr,ra,rb,w⟩:=h
 simp only[zV]at w
 split at w
 . cases ra;cases rb
   exact L2.Xk pins s σ H _ _ v u Q I rx ry ⟨_,_,rfl,rfl,zH hr (.bool _) w⟩
 . exact w.elim
theorem jf:L2.OpR X (compareOp .GtE) (rM2 X.K X.mg (zV .ge)):=by
 intro pins s σ H x y v u Q I rx ry h
 obtain⟨ρ,t,a,b,hr,ra,rb,w⟩:=h
 simp only[zV]at w
 split at w
 . cases ra;cases rb
   exact L2.Xj pins s σ H _ _ v u Q I rx ry ⟨_,_,rfl,rfl,zH hr (.bool _) w⟩
 . exact w.elim
noncomputable def Cop.op:Cop→CmpOp
 |.eq=>.Eq|.ne=>.NotEq|.lt=>.Lt|.le=>.LtE|.gt=>.Gt|.ge=>.GtE|.is=>.Is|.isNot=>.IsNot|.in_=>.In|.notIn=>.NotIn
theorem tD(hr0:L2.y9 k X.A):∀op:Cop,L2.OpR X (compareOp op.op) (rM2 X.K X.mg (zV op))
 |.eq=>jd hr0|.ne=>jn hr0|.lt=>jm|.le=>jk|.gt=>jg|.ge=>jf|.is=>jj|.isNot=>pZ|.in_=>jh hr0|.notIn=>pe hr0
noncomputable def Bop.op:Bop→Operator
 |.add=>.Add|.sub=>.Sub|.mul=>.Mult|.fdiv=>.FloorDiv|.mod=>.Mod|.pow=>.Pow|.shl=>.LShift|.shr=>.RShift|.band=>.BitAnd
theorem Zs(m:Bool):∀op:Bop,L2.OpR X (binaryOp op.op) (rM2 X.K X.mg (binOp m op))
 |.add=>mP m|.sub=>mV m|.mul=>mR m|.fdiv=>ou m|.mod=>mQ m|.pow=>mS m|.shl=>mT m|.shr=>mU m|.band=>ot m
theorem XJ:L2.IxR X (rM2 X.K X.mg xT):=by
 intro value slice pins s σ H x y v u Q I rx ry h hs
 obtain⟨ρ,t,a,b,hr,ra,rb,w⟩:=h
 simp only[xT]at w
 split at w
 . split at w
   . rename_i vs e
     split at w
     . rename_i z hz
       obtain⟨p,xs,rfl,hq,q⟩:=rX hr ra e
       cases rb
       obtain⟨xz,h1,h2⟩:=eY q hz
       refine L2.aw value slice pins s σ H _ _ v u Q I rx ry ?_ hs
       rcases hq with hq|hq
       . exact .inl ⟨p,xs,_,xz,rfl,rfl,hq,h1,zH hr h2 w⟩
       . exact .inr (.inl ⟨p,xs,_,xz,rfl,rfl,hq,h1,zH hr h2 w⟩)
     . exact w.elim
   . exact w.elim
 . exact w.elim
end
end M
end
section
namespace M
open PySem
noncomputable def Bf.nm:Bf→Str
 |.len=>"len"|.all=>"all"|.any=>"any"|.tuple=>"tuple"|.list=>"list"|.sorted=>"sorted"|.repr=>"repr"|.max=>"max"|.min=>"min"|.sum=>"sum"|.int=>"int"|.isi=>"isinstance"|.divmod=>"divmod"|.str=>"str"
noncomputable def Bf.val:Bf→Value
 |.len=>.builtin "len"|.all=>.builtin "all"|.any=>.builtin "any"|.tuple=>.type "tuple"|.list=>.type "list"|.sorted=>.builtin "sorted"|.repr=>.builtin "repr"|.max=>.builtin "max"|.min=>.builtin "min"|.sum=>.builtin "sum"|.int=>.type "int"
 |.isi=>.builtin "isinstance"|.divmod=>.builtin "divmod"|.str=>.type "str"
theorem Bf.boot:∀f:Bf,bootBuiltins f.nm=some f.val
 |.len=>boot_len|.all=>PyProof.Rows.boot_all|.any=>PyProof.Rows.boot_any|.tuple=>PyProof.Rows.boot_tuple|.list=>PyProof.Rows.boot_list|.sorted=>PyProof.Rows.boot_sorted|.repr=>PyProof.Rows.boot_repr|.max=>PyProof.Rows.boot_max|.min=>PyProof.Rows.boot_min
 |.sum=>PyProof.Rows.boot_sum|.int=>PyProof.Rows.boot_int|.isi=>PyProof.Rows.boot_isinstance|.divmod=>PyProof.Rows.boot_divmod|.str=>PyProof.Rows.boot_str
section
variable {X:L2.Cx}{k:Nat}{m:Bool}
theorem v9{K:KF}{mg:Str→Option Value}{ρ:Own}{H:L2.Hp}{v:Val}{xs:List L2.V}(r:RDs K mg ρ H [v] xs):∃x,xs=[x]∧RD K mg ρ H v x:=by
 cases r with
 |cons r1 r2=>cases r2;exact⟨_,rfl,r1⟩
theorem jz{K:KF}{mg:Str→Option Value}{ρ:Own}{H:L2.Hp}{v w:Val}{xs:List L2.V}(r:RDs K mg ρ H [v,w] xs):∃x y,xs=[x,y]∧RD K mg ρ H v x∧RD K mg ρ H w y:=by
 cases r with
 |cons r1 r2=>
  obtain⟨y,rfl,r3⟩:=v9 r2
  exact⟨_,_,rfl,r1,r3⟩
theorem iY:L2.z9 X (.builtin "len") (rMc X.K X.mg (blt .len m)):=by
 intro pins s σ H xs us Q I r h
 obtain⟨ρ,t,vs,hr,rv,w⟩:=h
 simp only[blt]at w
 split at w
 . split at w
   . rename_i hz
     obtain⟨x,rfl,rx⟩:=v9 rv
     cases rx
     exact L2.pF pins s σ H _ us Q I r ⟨_,rfl,by rw[←ya];exact hz,zH hr (.int _) w⟩
   . exact w.elim
 . split at w
   . rename_i e
     obtain⟨x,rfl,rx⟩:=v9 rv
     obtain⟨p,ys,rfl,hq,q⟩:=rX hr rx e
     refine L2.pE pins s σ H _ us Q I r ⟨p,ys,rfl,hq,?_⟩
     rw[←q.length]
     exact zH hr (.int _) w
   . exact w.elim
 . exact w.elim
theorem sS(hc:X.calm=true):L2.z9 X (.builtin "all") (rMc X.K X.mg (blt .all m)):=by
 intro pins s σ H xs us Q I r h
 obtain⟨ρ,t,vs,hr,rv,w⟩:=h
 simp only[blt]at w
 split at w
 . split at w
   . rename_i e
     split at w
     . rename_i bs eb
       obtain⟨x,rfl,rx⟩:=v9 rv
       obtain⟨p,ys,rfl,hq,q⟩:=xu hr rx e
       rw[q.bools eb]at hq
       exact L2.sS hc pins s σ H _ us Q I r ⟨p,bs,rfl,.of hq,zH hr (.bool _) w⟩
     . exact w.elim
   . exact w.elim
 . exact w.elim
theorem ni:L2.z9 X (.type "tuple") (rMc X.K X.mg (blt .tuple m)):=by
 intro pins s σ H xs us Q I r h
 obtain⟨ρ,t,vs,hr,rv,w⟩:=h
 simp only[blt]at w
 split at w
 . obtain⟨x,rfl,rx⟩:=v9 rv
   cases rx with
   |tup n e q=>exact L2.vn pins s σ H _ us Q I r ⟨_,_,rfl,.inr ⟨.of e,zH hr (.tup n e q) w⟩⟩
 . split at w
   . rename_i e
     obtain⟨x,rfl,rx⟩:=v9 rv
     obtain⟨p,ys,rfl,hq,q⟩:=xu hr rx e
     exact L2.vn pins s σ H _ us Q I r ⟨p,ys,rfl,.inl ⟨.of hq,pV hr q w⟩⟩
   . exact w.elim
 . exact w.elim
theorem km:L2.z9 X (.type "list") (rMc X.K X.mg (blt .list m)):=by
 intro pins s σ H xs us Q I r h
 obtain⟨ρ,t,vs,hr,rv,w⟩:=h
 simp only[blt]at w
 split at w
 . split at w
   . rename_i e
     obtain⟨x,rfl,rx⟩:=v9 rv
     obtain⟨p,ys,rfl,hq,q⟩:=rX hr rx e
     exact L2.pG pins s σ H _ us Q I r ⟨p,ys,rfl,hq,vA hr q w⟩
   . exact w.elim
 . exact w.elim
theorem ie(hr0:L2.y9 k X.A):L2.z9 X (.builtin "repr") (rMc X.K X.mg (blt .repr m)):=by
 intro pins s σ H xs us Q I r h
 obtain⟨ρ,t,vs,hr,rv,w⟩:=h
 simp only[blt]at w
 split at w
 . rename_i v
   split at w
   . rename_i hc
     rw[Bool.and_eq_true]at hc
     obtain⟨x,rfl,rx⟩:=v9 rv
     obtain⟨u,rfl,ru⟩:=L2.vals1 r
     have S:=Xe hc.2
     have q:Q (.str (zh t v).d.shown) H:=zH hr (.str _) w
     have fin:∀(tk':Tok) (tk:Nat),L2.EP X pins σ Q (.str (zh t v).d.shown tk') {s with toks:=tk}:=fun _ tk=>⟨.str _,H,I.tok _,⟨_,rfl⟩,q⟩
     obtain⟨as,R,hs⟩:=xZ I.hok hr hc.1 rx ru
     have fr:∀a,u=.ref a→wpAny (model X.prog X.w) X.A (call (.builtin "repr") [u]) (L2.EP X pins σ Q) X.xe s:=fun a e=>by
      subst e
      refine repr_of_reads' R S.sh (fun z=>hs (S.mix z)) hr0.gd ?_ (fun _ _ e=>e) (fun h' u tk hk=>⟨.str _,H,I.kept hk,⟨_,rfl⟩,q⟩) S.ln
      have:=S.dp
      have:=hr0.un
      omega
     cases rx with
     |none=>cases (show u=Value.none from ru);exact PySem.P.repr_of_none (fin _ _)
     |bool b=>cases (show u=Value.bool b from ru);exact PySem.P.repr_of_bool (fin _ _)
     |int i=>obtain⟨t',z⟩:=(show ∃t,u=Value.int i t from ru);cases z;exact PySem.P.repr_of_int (by simpa [zh,yO,Val.d,PyData.showable] using S.sh) (fin _ _)
     |str x=>obtain⟨t',z⟩:=(show ∃t,u=Value.str x t from ru);cases z;exact PySem.P.repr_of_str (fin _ _) S.ln
     |tup _ _ _=>exact fr _ ru
     |lst _ _ _=>exact fr _ ru
     |dct0 _ _=>exact fr _ ru
     |ref _=>exact fr _ ru
     |ctup _=>exact fr _ ru
     |scr _=>exact fr _ ru
     |fn _=>exact fr _ ru
     |ty _=>exact absurd hc.1 (by simp[zh,yO,Val.isR])
   . exact w.elim
 . exact w.elim
theorem iZ(hc:X.calm=true):L2.z9 X (.builtin "max") (rMc X.K X.mg (blt .max m)):=by
 intro pins s σ H xs us Q I r h
 obtain⟨ρ,t,vs,hr,rv,w⟩:=h
 simp only[blt]at w
 split at w
 . obtain⟨x,y,rfl,rx,ry⟩:=jz rv
   cases rx;cases ry
   exact L2.kn hc pins s σ H _ us Q I r ⟨_,_,rfl,zH hr (.int _) w⟩
 . split at w
   . rename_i e
     split at w
     . rename_i ns en
       split at w
       . rename_i hn
         obtain⟨x,rfl,rx⟩:=v9 rv
         obtain⟨p,ys,rfl,hq,q⟩:=xu hr rx e
         rw[q.kC en]at hq
         exact L2.kq hc pins s σ H _ us Q I r ⟨p,ns,rfl,.of hq,hn,zH hr (.int _) w⟩
       . exact w.elim
     . exact w.elim
   . exact w.elim
 . exact w.elim
theorem ic(hc:X.calm=true):L2.z9 X (.builtin "min") (rMc X.K X.mg (blt .min m)):=by
 intro pins s σ H xs us Q I r h
 obtain⟨ρ,t,vs,hr,rv,w⟩:=h
 simp only[blt]at w
 split at w
 . obtain⟨x,y,rfl,rx,ry⟩:=jz rv
   cases rx;cases ry
   exact L2.kr hc pins s σ H _ us Q I r ⟨_,_,rfl,zH hr (.int _) w⟩
 . split at w
   . rename_i e
     split at w
     . rename_i ns en
       split at w
       . rename_i hn
         obtain⟨x,rfl,rx⟩:=v9 rv
         obtain⟨p,ys,rfl,hq,q⟩:=xu hr rx e
         rw[q.kC en]at hq
         exact L2.ku hc pins s σ H _ us Q I r ⟨p,ns,rfl,.of hq,hn,zH hr (.int _) w⟩
       . exact w.elim
     . exact w.elim
   . exact w.elim
 . exact w.elim
theorem iX:L2.z9 X (.type "int") (rMc X.K X.mg (blt .int m)):=by
 intro pins s σ H xs us Q I r h
 obtain⟨ρ,t,vs,hr,rv,w⟩:=h
 simp only[blt]at w
 split at w
 . obtain⟨x,rfl,rx⟩:=v9 rv
   cases rx
   exact L2.qK pins s σ H _ us Q I r (.inl ⟨_,rfl,zH hr (.int _) w⟩)
 . obtain⟨x,rfl,rx⟩:=v9 rv
   cases rx
   exact L2.qK pins s σ H _ us Q I r (.inr ⟨_,rfl,zH hr (.int _) w⟩)
 . exact w.elim
theorem sT:L2.z9 X (.builtin "isinstance") (rMc X.K X.mg (blt .isi m)):=by
 intro pins s σ H xs us Q I r h
 obtain⟨ρ,t,vs,hr,rv,w⟩:=h
 simp only[blt]at w
 split at w
 . split at w
   . rename_i ea ec
     obtain⟨x,y,rfl,rx,ry⟩:=jz rv
     cases ry
     obtain⟨e1,e2⟩:=Xa ec
     subst e1
     exact L2.sT pins s σ H _ us Q I r ⟨_,_,_,_,rfl,Wj hr rx ea,L2.Zj X.K _ _ e2,zH hr (.bool _) w⟩
   . exact w.elim
 . exact w.elim
theorem vM:L2.z9 X (.builtin "divmod") (rMc X.K X.mg (blt .divmod m)):=by
 intro pins s σ H xs us Q I r h
 obtain⟨ρ,t,vs,hr,rv,w⟩:=h
 simp only[blt]at w
 split at w
 . split at w
   . rename_i hz
     obtain⟨x,y,rfl,rx,ry⟩:=jz rv
     cases rx;cases ry
     exact L2.vM pins s σ H _ us Q I r ⟨_,_,rfl,hz,pV hr (.cons (.int _) (.cons (.int _) .nil)) w⟩
   . exact w.elim
 . exact w.elim
theorem ig:L2.z9 X (.type "str") (rMc X.K X.mg (blt .str m)):=by
 intro pins s σ H xs us Q I r h
 obtain⟨ρ,t,vs,hr,rv,w⟩:=h
 simp only[blt]at w
 split at w
 . split at w
   . rename_i hz
     obtain⟨x,rfl,rx⟩:=v9 rv
     cases rx
     exact L2.pH pins s σ H _ us Q I r ⟨_,rfl,hz,zH hr (.str _) w⟩
   . exact w.elim
 . exact w.elim
theorem u4(z:Int × Int):∀l,(pO z l).Perm (z::l)
 |[]=>.refl _
 |y::ys=>by
  unfold pO
  split
  . exact .refl _
  . exact((u4 z ys).cons y).trans (.swap z y ys)
theorem xW:∀l,(vV l).Perm l
 |[]=>.refl _
 |z::zs=>(u4 z _).trans ((xW zs).cons z)
theorem kA(z:Int × Int):∀l,l.Pairwise (fun a b=>L2.yU a≤L2.yU b)→(pO z l).Pairwise (fun a b=>L2.yU a≤L2.yU b)
 |[],_=>by simp[pO]
 |y::ys,h=>by
  rw[List.pairwise_cons]at h
  unfold pO
  split
  . rename_i hz
    refine List.pairwise_cons.mpr ⟨fun a ha=>?_,List.pairwise_cons.mpr h⟩
    rcases List.mem_cons.mp ha with e|e
    . subst e;exact hz
    . exact Int.le_trans hz (h.1 a e)
  . rename_i hz
    refine List.pairwise_cons.mpr ⟨fun a ha=>?_,kA z ys h.2⟩
    rcases List.mem_cons.mp ((u4 z ys).mem_iff.mp ha) with e|e
    . subst e;omega
    . exact h.1 a e
theorem nM:∀l,(vV l).Pairwise (fun a b=>L2.yU a≤L2.yU b)
 |[]=>.nil
 |z::zs=>kA z _ (nM zs)
theorem f9{l:List (Int × Int)}(nd:l.Nodup)(hb:∀z∈l,0≤z.2∧z.2<1000):(vV l).Pairwise (fun a b=>L2.yU a<L2.yU b):=by
 have h1:=nM l
 have h2:(vV l).Pairwise (·≠·):=(xW l).nodup_iff.mpr nd
 have h3:=h1.and h2
 refine h3.imp_of_mem ?_
 intro a b ha hb' hab
 have m1:=hb a ((xW l).mem_iff.mp ha)
 have m2:=hb b ((xW l).mem_iff.mp hb')
 rcases Int.lt_or_eq_of_le hab.1 with z|z
 . exact z
 . exact absurd (L2.qN m1 m2 z) hab.2
theorem fS{K:KF}{mg:Str→Option Value}{ρ:Own}{H:L2.Hp}:∀{vs:List Val} {xs:List L2.V} {zs:List (Int × Int)},RDs K mg ρ H vs xs→pairsOf vs=some zs→vs=zs.map prV∧L2.Wo K H xs zs
 |_,_,_,.nil,h=>by cases h;exact⟨rfl,rfl,fun i z e=>by simp at e⟩
 |_,_,_,.cons (v:=v) (x:=x) (vs:=vs) (xs:=xs) r rs,h=>by
  unfold pairsOf at h
  split at h
  . rename_i hv;cases hv
  . rename_i a b ws hv
    cases hv
    rw[Option.map_eq_some_iff]at h
    obtain⟨zs',h1,rfl⟩:=h
    obtain⟨e1,e2,e3⟩:=fS rs h1
    refine⟨by rw[e1];rfl,by rw[List.length_cons,List.length_cons,e2],fun i z hz=>?_⟩
    cases i with
    |zero=>
     simp at hz;subst hz
     cases r with
     |tup n e q=>
      cases q with
      |cons q1 q2=>
       cases q2 with
       |cons q2 q3=>
        cases q1;cases q2;cases q3
        exact⟨_,rfl,.of e⟩
    |succ i=>
     simp only[List.getElem?_cons_succ]at hz ⊢
     exact e3 i z hz
  . cases h
theorem fZ{K:KF}{mg:Str→Option Value}{ρ:Own}{H:L2.Hp}{vs:List Val}{xs:List L2.V}(r:RDs K mg ρ H vs xs):∀{ix:List Nat},(∀i∈ix,i<vs.length)→RDs K mg ρ H (ix.map fun i=>vs.getD i .none) (ix.map fun i=>xs.getD i .non)
 |[],_=>.nil
 |i::ix,h=>by
  have hi:=h i (.head _)
  obtain⟨x,h1,h2⟩:=r.get (List.getElem?_eq_getElem hi)
  refine .cons ?_ (fZ r fun j hj=>h j (.tail _ hj))
  show RD K mg ρ H (vs.getD i .none) (xs.getD i .non)
  rw[List.getD_eq_getElem?_getD,List.getElem?_eq_getElem hi,List.getD_eq_getElem?_getD,h1]
  exact h2
theorem eK{K:KF}{mg:Str→Option Value}{ρ:Own}{H:L2.Hp}:∀{vs:List Val} {xs:List L2.V} {zs:List (List Int)},RDs K mg ρ H vs xs→tF vs=some zs→L2.eX K H xs zs
 |_,_,_,.nil,h=>by cases h;exact⟨rfl,fun i z e=>by simp at e⟩
 |_,_,_,.cons (v:=v) (x:=x) (vs:=vs) (xs:=xs) r rs,h=>by
  unfold tF at h
  split at h
  . rename_i hv;cases hv
  . rename_i a ws hv
    cases hv
    split at h
    . rename_i z zs' h1 h2
      cases h
      obtain⟨e2,e3⟩:=eK rs h2
      refine⟨by rw[List.length_cons,List.length_cons,e2],fun i z' hz=>?_⟩
      cases i with
      |zero=>
       simp at hz;subst hz
       cases r with
       |tup n e q=>exact⟨_,rfl,by rw[q.kC h1]at e;exact .of e⟩
      |succ i=>
       simp only[List.getElem?_cons_succ]at hz ⊢
       exact e3 i z' hz
    . cases h
  . cases h
theorem ints_map:∀{a:List Val} {z:List Int},intsOf a=some z→a=z.map .int
 |[],_,h=>by cases h;rfl
 |v::vs,z,h=>by
  cases v with
  |int i=>
   obtain⟨n,h1,rfl⟩:=Option.map_eq_some_iff.mp (show (intsOf vs).map (i::·)=some z from h)
   rw[ints_map h1];rfl
  |_=>cases h
theorem eL{K:KF}{mg:Str→Option Value}{ρ:Own}{H:L2.Hp}:∀{vs:List Val} {xs:List L2.V} {zs:List (List Int)},RDs K mg ρ H vs xs→tF vs=some zs→vs=zs.map tpV
 |_,_,_,.nil,h=>by cases h;rfl
 |_,_,_,.cons (v:=v) (x:=x) (vs:=vs) (xs:=xs) r rs,h=>by
  unfold tF at h
  split at h
  . rename_i hv;cases hv
  . rename_i a ws hv
    cases hv
    split at h
    . rename_i z zs' h1 h2
      cases h
      rw[eL rs h2,List.map_cons]
      rw[ints_map h1]
      rfl
    . cases h
  . cases h
theorem ql{K:KF}{mg:Str→Option Value}{ρ:Own}{H:L2.Hp}{α:Type}{d:α}{f:α→Val}{zs l:List α}{ys:List L2.V}{ix:List Nat}(q:RDs K mg ρ H (zs.map f) ys)(hp:ix.Perm (List.range zs.length))(h:(ix.map fun i=>zs.getD i d).Perm zs→(ix.map fun i=>zs.getD i d)=l):RDs K mg ρ H (l.map f) (ix.map fun i=>ys.getD i .non):=by
 have hlt:∀i∈ix,i<zs.length:=fun i hi=>List.mem_range.mp (hp.mem_iff.mp hi)
 have e1:(ix.map fun i=>zs.getD i d).Perm zs:=L2.jw d hp
 have rr:=fZ q (ix:=ix) (by rw[List.length_map];exact hlt)
 have e3:(ix.map fun i=>(zs.map f).getD i .none)=l.map f:=by
  rw[←h e1,List.map_map]
  refine List.map_congr_left fun i hi=>?_
  have:=hlt i hi
  show _=f (zs.getD i d)
  rw[List.getD_eq_getElem?_getD,List.getElem?_map,List.getElem?_eq_getElem this,List.getD_eq_getElem?_getD,List.getElem?_eq_getElem this]
  rfl
 rw[e3]at rr
 exact rr
theorem oK:L2.z9 X (.builtin "sorted") (rMc X.K X.mg (blt .sorted m)):=by
 intro pins s σ H xs us Q I r h
 obtain⟨ρ,t,vs,hr,rv,w⟩:=h
 have gen:∀{v:Val} {ws:List Val},RDs X.K X.mg ρ H [v] xs→yV t v=some ws→yv X.K X.mg (RD X.K X.mg) ρ H (p6 m ws t) Q→wpAny (model X.prog X.w) X.A (call (.builtin "sorted") us) (L2.EP X pins σ Q) X.xe s:=fun{v ws} rv e w=>by
  unfold p6 at w
  split at w
  . rename_i zs ez
    split at w
    . rename_i hz
      obtain⟨x,rfl,rx⟩:=v9 rv
      obtain⟨p,ys,rfl,hq,q⟩:=xu hr rx e
      refine L2.sU pins s σ H _ us Q I r ⟨p,ys,zs,fun a=>((L2.wQ zs).idxOf a:Int),rfl,.of hq,eK q ez,hz.2,hz.1,fun a ha b hb=>L2.nN hz.1 ha hb,fun a ha b hb=>L2.eB ha hb,fun l ix hl hp hw=>vA hr (ql (eL q ez▸q) hp fun e1=>L2.eA hz.1 e1 hw) w l hl⟩
    . exact w.elim
  . exact w.elim
 simp only[blt]at w
 split at w
 . split at w
   . rename_i e
     split at w
     . rename_i zs ez
       split at w
       . rename_i hz
         obtain⟨x,rfl,rx⟩:=v9 rv
         obtain⟨p,ys,rfl,hq,q⟩:=xu hr rx e
         obtain⟨ev,pa⟩:=fS q ez
         subst ev
         have hb:∀{a:List Int},a∈zs.map L2.plI→∃z∈zs,L2.plI z=a:=fun ha=>List.mem_map.mp ha
         refine L2.sU pins s σ H _ us Q I r ⟨p,ys,zs.map L2.plI,L2.gU,rfl,.of hq,⟨by rw[List.length_map];exact pa.1,fun i l hl=>?_⟩,.inr fun a ha=>?_,List.pairwise_map.mpr (hz.1.imp fun n h=>n (L2.cm h)),fun a ha b hb'=>?_,fun a ha b hb' h=>?_,fun l ix hl hp hw=>?_⟩
         . rw[List.getElem?_map]at hl
           obtain⟨z,e1,rfl⟩:=Option.map_eq_some_iff.mp hl
           exact pa.2 i z e1
         . obtain⟨z,_,rfl⟩:=hb ha;exact List.cons_ne_nil _ _
         . obtain⟨z,h1,rfl⟩:=hb ha
           obtain⟨z',h2,rfl⟩:=hb hb'
           exact L2.dq (hz.2 z h1) (hz.2 z' h2)
         . obtain⟨z,h1,rfl⟩:=hb ha
           obtain⟨z',h2,rfl⟩:=hb hb'
           rw[L2.qN (hz.2 z h1) (hz.2 z' h2) h]
         . rw[List.length_map]at hp
           refine vA hr (ql (d:=(0,0)) q hp fun e1=>L2.rT ?_ (f9 hz.1 hz.2) fun x=>e1.mem_iff.trans (xW zs).mem_iff.symm) w l hl
           rw[List.pairwise_map]at hw ⊢
           refine hw.imp_of_mem fun{i j} hi hj w=>?_
           have l1:=List.mem_range.mp (hp.mem_iff.mp hi)
           have l2:=List.mem_range.mp (hp.mem_iff.mp hj)
           rw[List.getD_eq_getElem?_getD,List.getElem?_map,List.getElem?_eq_getElem l1,List.getD_eq_getElem?_getD,List.getElem?_map,List.getElem?_eq_getElem l2]at w
           rw[List.getD_eq_getElem?_getD,List.getElem?_eq_getElem l1,List.getD_eq_getElem?_getD,List.getElem?_eq_getElem l2]
           exact w
       . exact gen rv e w
     . exact gen rv e w
   . exact w.elim
 . exact w.elim
theorem lU{f:Value}{g:List Val→Sto→Out Val}(hg:∀vs s,g vs s=.stuck):L2.z9 X f (rMc X.K X.mg g):=by
 intro pins s σ H xs us Q I r h
 obtain⟨ρ,t,vs,hr,rv,w⟩:=h
 rw[hg]at w
 exact w.elim
theorem eh(hc:X.calm=true)(hr0:L2.y9 k X.A):∀(f:Bf) (m:Bool),L2.z9 X f.val (rMc X.K X.mg (blt f m))
 |.len,_=>iY|.all,_=>sS hc|.any,_=>lU fun _ _=>rfl|.tuple,_=>ni|.list,_=>km|.sorted,_=>oK|.repr,_=>ie hr0
 |.max,_=>iZ hc|.min,_=>ic hc|.sum,_=>lU fun _ _=>rfl|.int,_=>iX|.isi,_=>sT|.divmod,_=>vM|.str,_=>ig
end
end M
end
section
namespace M
open PySem
noncomputable def plain:Expr→Bool
 |.Starred ..|.Set ..|.Slice ..|.SetComp ..=>false
 |_=>true
theorem zd{e:Expr}(h:plain e=true):L2.noStar e=true:=by cases e<;>first|rfl|cases h
theorem vD{op:CmpOp}{e:Expr}(h:plain e=true):behindInMarks op e=false:=by cases e<;>first|rfl|cases h
theorem fP{e:Expr}(h:plain e=true):L2.lR e:=by
 intro o i
 cases e<;>first|rfl|cases h
theorem vC{e:Expr}{env:PySem.Env}(h:plain e=true)(x:Value):foldedSetIterable e env x=pure x:=by cases e<;>first|rfl|cases h
noncomputable def pW:Expr→Bool
 |.Call (.Name _ _) [] [] _=>false
 |_=>true
theorem wz{o:Expr}{name:Str}{env:PySem.Env}(h:pW o=true):attributeBase o name env (eval o env)=eval o env:=by
 unfold attributeBase
 split
 . cases h
 . rfl
noncomputable def plainT:Expr→Bool
 |.UnaryOp .Not _ _|.BoolOp ..|.IfExp ..|.Compare ..=>false
 |_=>true
theorem jx{e:Expr}{env:PySem.Env}(h:plainT e=true)(whole:Sem Value):isTrue e env whole=(do let v ←whole;standAt e.pos;holding [v] (truthy v)):=by
 cases e with
 |UnaryOp op a p=>cases op<;>first|rfl|cases h
 |_=>first|rfl|cases h
noncomputable def yZ:List Expr→Bool
 |[]=>true
 |e::es=>plain e&&yZ es
theorem v8:∀{es:List Expr} {pos:Pos} {env:PySem.Env},yZ es=true→(backTo pos (starEach es env)).any (·.1)=false
 |[],_,_,_=>rfl
 |e::es,pos,env,h=>by
  rw[yZ,Bool.and_eq_true]at h
  rw[L2.yC (zd h.1)]
  show (false||(backTo pos (starEach es env)).any (·.1))=false
  rw[v8 h.2];rfl
section
variable {K:KF}{mg:Str→Option Value}{env:Env}{s s1:Sto}{ρ ρ':Own}{H H':L2.Hp}
theorem yv.mono{α β:Type}{R:Own→L2.Hp→α→β→Prop}{o:Out α}{Q:β→L2.Hp→Prop}(w:yv K mg R ρ H o Q)(x:Ext ρ H ρ' H')(h:HR K mg ρ' s1 H'):yv K mg R ρ' H' o Q:=by
 cases o with
 |ok v s'=>exact fun ρ2 y H2 x2 h2 r2=>w ρ2 y H2 (x.trans h x2) h2 r2
 |_=>exact w
end
section
variable {X:L2.Cx}{env:Env}{s:Sto}{E a b c:Expr}
theorem zK{o:Out Val}(h:∀v s',o≠.ok v s'):L2.PE X E (tV X.K X.mg env s o):=X8 fun _ _ _=>Wh h
theorem un1{o:Out Val}{r:L2.V→L2.Hp→L2.VK→Prop}{g:Val→Sto→Out Val}(h:L2.PE X a (tV X.K X.mg env s o))(rule:∀ta,L2.PE X a ta→L2.PE X E (L2.tUn r ta))
 (op:∀ρ H s1 v x Q,HR X.K X.mg ρ s1 H→RD X.K X.mg ρ H v x→yv X.K X.mg (RD X.K X.mg) ρ H (g v s1) Q→r x H Q):L2.PE X E (tV X.K X.mg env s (o.bind g)):=by
 cases o with
 |ok v s1=>exact zx (rule _ h) fun σ H Q ⟨ρ,hr,er,w⟩=>⟨ρ,hr,er,fun ρ1 x H1 x1 hr1 r1=>op ρ1 H1 s1 v x Q hr1 r1 (w.mono x1 hr1)⟩
 |exc _ _ _=>exact zK (fun _ _ e=>by cases e)
 |stuck=>exact zK (fun _ _ e=>by cases e)
theorem aV{o:Out Val}{f2:Sto→Out Val}{g:Val→Val→Sto→Out Val}(h1:L2.PE X a (tV X.K X.mg env s o))(h2:∀s1,L2.PE X b (tV X.K X.mg env s1 (f2 s1)))
 (rule:∀ta tb,L2.PE X a ta→L2.PE X b tb→L2.PE X E (L2.tOp (rM2 X.K X.mg g) ta tb)):L2.PE X E (tV X.K X.mg env s (o.bind fun x s1=>(f2 s1).bind fun y s2=>g x y s2)):=by
 cases o with
 |ok v s1=>
  show L2.PE X E (tV X.K X.mg env s ((f2 s1).bind fun y s2=>g v y s2))
  have h2':=h2 s1
  cases hb:f2 s1 with
  |ok w s2=>
   rw[hb]at h2'
   exact zx (rule _ _ h1 h2') fun σ H Q ⟨ρ,hr,er,wt⟩=>⟨ρ,hr,er,fun ρ1 x H1 x1 hr1 r1=>⟨ρ1,hr1,er.mono x1,fun ρ2 y H2 x2 hr2 r2=>⟨ρ2,s2,v,w,hr2,r1.mono x2,r2,wt.mono (x1.trans hr1 x2) hr2⟩⟩⟩
  |exc _ _ _=>exact zK (fun _ _ e=>by cases e)
  |stuck=>exact zK (fun _ _ e=>by cases e)
 |exc _ _ _=>exact zK (fun _ _ e=>by cases e)
 |stuck=>exact zK (fun _ _ e=>by cases e)
theorem gK{op op':Cop}{o:Out Val}{f2 f3:Sto→Out Val}{k:Nat}{pos:Pos}(hr0:L2.y9 k X.A)(h1:L2.PE X a (tV X.K X.mg env s o))(h2:∀s1,L2.PE X b (tV X.K X.mg env s1 (f2 s1)))(h3:∀s1,L2.PE X c (tV X.K X.mg env s1 (f3 s1)))(hm:plain c=true) :
 L2.PE X (.Compare a [op.op,op'.op] [b,c] pos) (tV X.K X.mg env s (o.bind fun x s1=>(f2 s1).bind fun y s2=>(zV op x y s2).bind fun r s3=>match r with
  |.bool true=>(f3 s3).bind fun z s4=>zV op' y z s4
  |.bool false=>.ok (.bool false) s3
  |_=>.stuck)):=by
 cases o with
 |ok v s1=>
  have h2':=h2 s1
  show L2.PE X _ (tV X.K X.mg env s ((f2 s1).bind _))
  cases hb:f2 s1 with
  |ok w s2=>
   rw[hb]at h2'
   show L2.PE X _ (tV X.K X.mg env s ((zV op v w s2).bind _))
   cases hc:zV op v w s2 with
   |ok r s3=>
    cases r with
    |bool t=>
     have h3':=h3 s3
     have rule:=L2.fI (pos:=pos) (tD hr0 op) (tD hr0 op') h1 h2' h3' (show lastMarks [op.op,op'.op] [b,c]=false from vD hm)
     refine zx rule fun σ H Q ⟨ρ,hr,er,wt⟩=>⟨ρ,hr,er,fun ρ1 x H1 x1 hr1 r1=>⟨ρ1,hr1,er.mono x1,fun ρ2 y H2 x2 hr2 r2=>⟨ρ2,s2,v,w,hr2,r1.mono x2,r2,?_⟩⟩⟩
     rw[hc]
     intro ρ3 z H3 x3 hr3 r3
     cases r3
     refine⟨t,rfl,?_⟩
     have xx:=(x1.trans hr1 x2).trans hr2 x3
     have wt':=wt.mono xx hr3
     cases t with
     |true=>
      rw[if_pos rfl]
      refine⟨ρ3,hr3,er.mono xx,?_⟩
      have wt2:yv X.K X.mg (RD X.K X.mg) ρ3 H3 ((f3 s3).bind fun z s4=>zV op' w z s4) Q:=wt'
      cases hz:f3 s3 with
      |ok u s4=>
       rw[hz]at wt2
       exact fun ρ4 q H4 x4 hr4 r4=>⟨ρ4,s4,w,u,hr4,(r2.mono x3).mono x4,r4,wt2.mono x4 hr4⟩
      |exc _ _ _=>rw[hz]at wt2;exact wt2
      |stuck=>rw[hz]at wt2;exact wt2
     |false=>
      rw[if_neg Bool.false_ne_true]
      exact zH hr3 (.bool false) wt'
    |_=>exact zK (fun _ _ e=>by cases e)
   |exc _ _ _=>exact zK (fun _ _ e=>by cases e)
   |stuck=>exact zK (fun _ _ e=>by cases e)
  |exc _ _ _=>exact zK (fun _ _ e=>by cases e)
  |stuck=>exact zK (fun _ _ e=>by cases e)
 |exc _ _ _=>exact zK (fun _ _ e=>by cases e)
 |stuck=>exact zK (fun _ _ e=>by cases e)
theorem ZU{o:Out Val}{pos:Pos}(h:L2.PE X a (tV X.K X.mg env s o)):L2.PE X (.UnaryOp .USub a pos) (tV X.K X.mg env s (o.bind fun x s1=>match x with|.int i=>.ok (.int (-i)) s1|_=>.stuck)):=by
 refine un1 h (fun ta q=>L2.WD L2.Yo q) fun ρ H s1 v x Q hr r w=>?_
 cases r with
 |int i=>exact⟨i,rfl,zH hr (.int _) w⟩
 |_=>exact w.elim
theorem ZV{o:Out Val}{pos:Pos}(h:L2.PE X a (tV X.K X.mg env s o)):L2.PE X (.UnaryOp .Not a pos) (tV X.K X.mg env s (o.bind fun x s1=>match x with|.bool b=>.ok (.bool !b) s1|_=>.stuck)):=by
 refine un1 (r:=fun x H Q=>∃c,x=.bl c∧Q (.bl (!c)) H) h (fun ta q=>L2.YJ q) fun ρ H s1 v x Q hr r w=>?_
 cases r with
 |bool i=>exact⟨i,rfl,zH hr (.bool _) w⟩
 |_=>exact w.elim
theorem gI{rest:List Expr}{o:Out Val}{f2:Sto→Out Val}{pos:Pos}(h1:L2.PE X a (tV X.K X.mg env s o))(h2:∀s1,L2.PE X (.BoolOp .And (b::rest) pos) (tV X.K X.mg env s1 (f2 s1))) :
 L2.PE X (.BoolOp .And (a::b::rest) pos) (tV X.K X.mg env s (o.bind fun x s1=>match x with|.bool true=>f2 s1|.bool false=>.ok (.bool false) s1|_=>.stuck)):=by
 cases o with
 |ok v s1=>
  refine zx (L2.YF h1 (h2 s1)) fun σ H Q ⟨ρ,hr,er,wt⟩=>⟨ρ,hr,er,fun ρ1 x H1 x1 hr1 r1=>?_⟩
  have wt':=wt.mono x1 hr1
  cases r1 with
  |bool t=>
   refine⟨t,rfl,?_⟩
   cases t with
   |true=>exact L2.n9 (⟨ρ1,hr1,er.mono x1,wt'⟩)
   |false=>exact L2.n6 (zH hr1 (.bool _) wt')
  |_=>exact wt'.elim
 |exc _ _ _=>exact zK (fun _ _ e=>by cases e)
 |stuck=>exact zK (fun _ _ e=>by cases e)
theorem XU{rest:List Expr}{o:Out Val}{f2:Sto→Out Val}{pos:Pos}(h1:L2.PE X a (tV X.K X.mg env s o))(h2:∀s1,L2.PE X (.BoolOp .Or (b::rest) pos) (tV X.K X.mg env s1 (f2 s1))) :
 L2.PE X (.BoolOp .Or (a::b::rest) pos) (tV X.K X.mg env s (o.bind fun x s1=>match x with|.bool false=>f2 s1|.bool true=>.ok (.bool true) s1|_=>.stuck)):=by
 cases o with
 |ok v s1=>
  refine zx (L2.WA h1 (h2 s1)) fun σ H Q ⟨ρ,hr,er,wt⟩=>⟨ρ,hr,er,fun ρ1 x H1 x1 hr1 r1=>?_⟩
  have wt':=wt.mono x1 hr1
  cases r1 with
  |bool t=>
   refine⟨t,rfl,?_⟩
   cases t with
   |true=>exact L2.n9 (zH hr1 (.bool _) wt')
   |false=>exact L2.n6 (⟨ρ1,hr1,er.mono x1,wt'⟩)
  |_=>exact wt'.elim
 |exc _ _ _=>exact zK (fun _ _ e=>by cases e)
 |stuck=>exact zK (fun _ _ e=>by cases e)
theorem ue{es:List Expr}{o:Out (List Val)}(h:∀v s',o≠.ok v s'):L2.PA X es (tVs X.K X.mg env s o):=X5 fun _ _ _=>Ye h
theorem dg:L2.PA X [] (tVs X.K X.mg env s (.ok [] s)):=fC L2.vR fun σ H Q ⟨ρ,hr,er,wt⟩=>wt ρ [] H Ext.refl hr .nil
theorem gN{es:List Expr}{o:Out Val}{f2:Sto→Out (List Val)}(hp:plain a=true)(h1:L2.PE X a (tV X.K X.mg env s o))(h2:∀s1,L2.PA X es (tVs X.K X.mg env s1 (f2 s1))) :
 L2.PA X (a::es) (tVs X.K X.mg env s (o.bind fun v s1=>(f2 s1).bind fun vs s2=>.ok (v::vs) s2)):=by
 cases o with
 |ok v s1=>
  have h2':=h2 s1
  show L2.PA X _ (tVs X.K X.mg env s ((f2 s1).bind _))
  cases hb:f2 s1 with
  |ok ws s2=>
   rw[hb]at h2'
   exact fC (L2.pac h1 h2' (zd hp)) fun σ H Q ⟨ρ,hr,er,wt⟩=>⟨ρ,hr,er,fun ρ1 x H1 x1 hr1 r1=>⟨ρ1,hr1,er.mono x1,fun ρ2 y H2 x2 hr2 r2=>wt ρ2 _ H2 (x1.trans hr1 x2) hr2 (.cons (r1.mono x2) r2)⟩⟩
  |exc _ _ _=>exact ue (fun _ _ e=>by cases e)
  |stuck=>exact ue (fun _ _ e=>by cases e)
 |exc _ _ _=>exact ue (fun _ _ e=>by cases e)
 |stuck=>exact ue (fun _ _ e=>by cases e)
theorem gM{es:List Expr}{o:Out (List Val)}{k:Nat}{pos:Pos}(h:L2.PA X es (tVs X.K X.mg env s o)):L2.PE X (.Tuple es k pos) (tV X.K X.mg env s (o.bind fun vs s1=>if vs.length≤zO then .ok (.tup vs) s1 else .stuck)):=by
 cases o with
 |ok vs s1=>
  refine zx (L2.YL h) fun σ H Q ⟨ρ,hr,er,wt⟩=>⟨ρ,hr,er,fun ρ1 xs H1 x1 hr1 r1=>?_⟩
  have wt':yv X.K X.mg (RD X.K X.mg) ρ1 H1 (if vs.length≤zO then .ok (.tup vs) s1 else .stuck) Q:=wt.mono x1 hr1
  by_cases hz:vs.length≤zO
  . rw[if_pos hz]at wt'
    exact⟨by rw[←r1.length,←ya];exact hz,pV hr1 r1 wt'⟩
  . rw[if_neg hz]at wt';exact wt'.elim
 |exc _ _ _=>exact zK (fun _ _ e=>by cases e)
 |stuck=>exact zK (fun _ _ e=>by cases e)
theorem ZT{es:List Expr}{o:Out (List Val)}{m:Bool}{pos:Pos}(h:L2.PA X es (tVs X.K X.mg env s o)):L2.PE X (.List es pos) (tV X.K X.mg env s (o.bind fun vs s1=>if vs.length≤zO then newList m vs s1 else .stuck)):=by
 cases o with
 |ok vs s1=>
  refine zx (L2.YH h) fun σ H Q ⟨ρ,hr,er,wt⟩=>⟨ρ,hr,er,fun ρ1 xs H1 x1 hr1 r1=>?_⟩
  have wt':yv X.K X.mg (RD X.K X.mg) ρ1 H1 (if vs.length≤zO then newList m vs s1 else .stuck) Q:=wt.mono x1 hr1
  by_cases hz:vs.length≤zO
  . rw[if_pos hz]at wt'
    exact⟨by rw[←r1.length,←ya];exact hz,vA hr1 r1 wt'⟩
  . rw[if_neg hz]at wt';exact wt'.elim
 |exc _ _ _=>exact zK (fun _ _ e=>by cases e)
 |stuck=>exact zK (fun _ _ e=>by cases e)
theorem XS{es:List Expr}{o:Out (List Val)}{g:List Val→Sto→Out Val}(h:L2.PA X es (tVs X.K X.mg env s o))(rule:∀t,L2.PA X es t→L2.PE X E (L2.tCB (rMc X.K X.mg g) t)):L2.PE X E (tV X.K X.mg env s (o.bind g)):=by
 cases o with
 |ok vs s1=>exact zx (rule _ h) fun σ H Q ⟨ρ,hr,er,wt⟩=>⟨ρ,hr,er,fun ρ1 xs H1 x1 hr1 r1=>⟨ρ1,s1,vs,hr1,r1,wt.mono x1 hr1⟩⟩
 |exc _ _ _=>exact zK (fun _ _ e=>by cases e)
 |stuck=>exact zK (fun _ _ e=>by cases e)
theorem ZR{es:List Expr}{o:Out (List Val)}{f:Bf}{m:Bool}{k:Nat}{p pos:Pos}(hc:X.calm=true)(hr0:L2.y9 k X.A)(hg:L2.Gl X f.nm)(hm:X.mg f.nm=none)(hp:yZ (a::es)=true)(h:L2.PA X (a::es) (tVs X.K X.mg env s o)) :
 L2.PE X (.Call (.Name f.nm p) (a::es) [] pos) (tV X.K X.mg env s (o.bind (blt f m))):=by
 rw[yZ,Bool.and_eq_true]at hp
 refine XS h fun t ht=>?_
 have hb:=eh hc hr0 f m
 have bo:=f.boot
 have st:=L2.yC (es:=es) (env:=X.env) (zd hp.1)
 have hn:=v8 (pos:=pos) (env:=X.env) hp.2
 cases f with
 |tuple=>exact L2.vg hb hg hm bo ht (by decide) (by decide) st hn
 |list=>exact L2.vg hb hg hm bo ht (by decide) (by decide) st hn
 |int=>exact L2.vg hb hg hm bo ht (by decide) (by decide) st hn
 |str=>exact L2.vg hb hg hm bo ht (by decide) (by decide) st hn
 |_=>exact L2.fH hb hg hm bo ht (by decide) (by decide) st hn
theorem z7{o:Out Bool}(h:∀v s',o≠.ok v s'):L2.PT X E (tT X.K X.mg env s o):=WJ fun _ _ _=>aH h
theorem Zd{o:Out Val}(hp:plainT a=true)(h:L2.PE X a (tV X.K X.mg env s o)):L2.PT X a (tT X.K X.mg env s o.truth):=by
 cases o with
 |ok v s1=>
  refine ph (L2.fX h (jx hp)) fun σ H Q ⟨ρ,hr,er,wt⟩=>⟨ρ,hr,er,fun ρ1 x H1 x1 hr1 r1=>?_⟩
  have wt':=wt.mono x1 hr1
  simp only[Out.truth,za]at wt'
  cases ht:truth s1 v with
  |none=>rw[ht]at wt';exact wt'.elim
  |some b=>rw[ht]at wt';exact⟨b,Yl hr1 r1 ht,wt' _ _ _ Ext.refl hr1 rfl⟩
 |exc _ _ _=>exact z7 (fun _ _ e=>by cases e)
 |stuck=>exact z7 (fun _ _ e=>by cases e)
theorem Zc{o:Out Bool}{pos:Pos}(h:L2.PT X a (tT X.K X.mg env s o)):L2.PT X (.UnaryOp .Not a pos) (tT X.K X.mg env s (o.bind fun b s1=>.ok (!b) s1)):=by
 cases o with
 |ok v s1=>exact ph (L2.YU h) fun σ H Q ⟨ρ,hr,er,wt⟩=>⟨ρ,hr,er,fun ρ1 x H1 x1 hr1 r1=>by cases r1;exact wt _ _ _ x1 hr1 rfl⟩
 |exc _ _ _=>exact z7 (fun _ _ e=>by cases e)
 |stuck=>exact z7 (fun _ _ e=>by cases e)
theorem ug{o:Out Bool}(h:∀v s',o≠.ok v s'):L2.PW X E (tT X.K X.mg env s o):=WK fun _ _ _=>aH h
theorem mC{pos:Pos}:L2.PW X (.BoolOp .And [] pos) (tT X.K X.mg env s (.ok true s)):=fun wh pins sh σ H Q I ⟨ρ,hr,er,wt⟩=>PyProof.Rows.isTrue_and_nil ⟨H,I,wt _ _ _ Ext.refl hr rfl⟩
theorem jJ{pos:Pos}:L2.PW X (.BoolOp .Or [] pos) (tT X.K X.mg env s (.ok false s)):=fun wh pins sh σ H Q I ⟨ρ,hr,er,wt⟩=>PyProof.Rows.isTrue_or_nil ⟨H,I,wt _ _ _ Ext.refl hr rfl⟩
theorem gS{rest:List Expr}{o:Out Bool}{f2:Sto→Out Bool}{pos:Pos}(h1:L2.PT X a (tT X.K X.mg env s o))(h2:∀s1,L2.PW X (.BoolOp .And rest pos) (tT X.K X.mg env s1 (f2 s1))) :
 L2.PW X (.BoolOp .And (a::rest) pos) (tT X.K X.mg env s (o.bind fun b s1=>if b then f2 s1 else .ok false s1)):=by
 cases o with
 |ok v s1=>
  intro wh pins sh σ H Q I h
  obtain⟨ρ,hr,er,wt⟩:=h
  refine PyProof.Rows.isTrue_and (L2.thn (h1 pins sh σ H (fun c H1=>if c=true then tT X.K X.mg env s1 (f2 s1) σ H1 Q else Q false H1) I ⟨ρ,hr,er,fun ρ1 x H1 x1 hr1 r1=>?_⟩) fun c s' ⟨H1,I1,q1⟩=>?_)
  . have wt':=wt.mono x1 hr1
    cases r1
    cases v with
    |true=>exact L2.n9 (⟨ρ1,hr1,er.mono x1,wt'⟩)
    |false=>exact L2.n6 (wt' _ _ _ Ext.refl hr1 rfl)
  . cases c with
    |true=>exact h2 s1 wh pins s' σ H1 Q I1 q1
    |false=>exact⟨H1,I1,q1⟩
 |exc _ _ _=>exact ug (fun _ _ e=>by cases e)
 |stuck=>exact ug (fun _ _ e=>by cases e)
theorem bz{rest:List Expr}{o:Out Bool}{f2:Sto→Out Bool}{pos:Pos}(h1:L2.PT X a (tT X.K X.mg env s o))(h2:∀s1,L2.PW X (.BoolOp .Or rest pos) (tT X.K X.mg env s1 (f2 s1))) :
 L2.PW X (.BoolOp .Or (a::rest) pos) (tT X.K X.mg env s (o.bind fun b s1=>if b then .ok true s1 else f2 s1)):=by
 cases o with
 |ok v s1=>
  intro wh pins sh σ H Q I h
  obtain⟨ρ,hr,er,wt⟩:=h
  refine PyProof.Rows.isTrue_or (L2.thn (h1 pins sh σ H (fun c H1=>if c=true then Q true H1 else tT X.K X.mg env s1 (f2 s1) σ H1 Q) I ⟨ρ,hr,er,fun ρ1 x H1 x1 hr1 r1=>?_⟩) fun c s' ⟨H1,I1,q1⟩=>?_)
  . have wt':=wt.mono x1 hr1
    cases r1
    cases v with
    |true=>exact L2.n9 (wt' _ _ _ Ext.refl hr1 rfl)
    |false=>exact L2.n6 (⟨ρ1,hr1,er.mono x1,wt'⟩)
  . cases c with
    |true=>exact⟨H1,I1,q1⟩
    |false=>exact h2 s1 wh pins s' σ H1 Q I1 q1
 |exc _ _ _=>exact ug (fun _ _ e=>by cases e)
 |stuck=>exact ug (fun _ _ e=>by cases e)
end
end M
end
section
namespace M
open PySem
section
variable {X:L2.Cx}{env:Env}{s:Sto}{E a b c:Expr}
theorem fQ{e:Option Expr}{t t':L2.TO}(h:L2.PO X e t)(i:∀σ H Q,t' σ H Q→t σ H Q):L2.PO X e t':=fun pins s σ H Q I q=>h pins s σ H Q I (i σ H Q q)
theorem We{o:Out (Option Int)}(h:∀v s',o≠.ok v s'){σ:L2.St}{H:L2.Hp}{Q:Option Int→L2.Hp→Prop}:¬tO X.K X.mg env s o σ H Q:=by
 rintro ⟨ρ,_,_,w⟩
 cases o with
 |ok v s'=>exact h v s' rfl
 |_=>exact w
theorem nD{e:Option Expr}{o:Out (Option Int)}(h:∀v s',o≠.ok v s'):L2.PO X e (tO X.K X.mg env s o):=fun pins sh σ H Q I q=>(We h q).elim
theorem XY:L2.PO X none (tO X.K X.mg env s (.ok none s)):=fQ L2.cn fun σ H Q ⟨ρ,hr,er,wt⟩=>wt _ _ _ Ext.refl hr rfl
theorem ZY{o:Out Val}(h:L2.PE X a (tV X.K X.mg env s o)):L2.PO X (some a) (tO X.K X.mg env s (o.bind fun v s1=>match v with|.int i=>.ok (some i) s1|_=>.stuck)):=by
 cases o with
 |ok v s1=>
  refine fQ (L2.cq h) fun σ H Q ⟨ρ,hr,er,wt⟩=>⟨ρ,hr,er,fun ρ1 x H1 x1 hr1 r1=>?_⟩
  have wt':=wt.mono x1 hr1
  cases r1 with
  |int i=>exact⟨i,rfl,wt' _ _ _ Ext.refl hr1 rfl⟩
  |_=>exact wt'.elim
 |exc _ _ _=>exact nD (fun _ _ e=>by cases e)
 |stuck=>exact nD (fun _ _ e=>by cases e)
noncomputable def rMs(K:KF)(mg:Str→Option Value)(m:Bool):L2.V→Option Int→Option Int→L2.Hp→L2.VK→Prop:=fun x lo hi H Q=>∃ρ s v,HR K mg ρ s H∧RD K mg ρ H v x∧yv K mg (RD K mg) ρ H (vU m v lo hi none s) Q
theorem WY(m:Bool):L2.SlR X (rMs X.K X.mg m):=by
 intro pins s σ H x v vl vu lo hi sl Q I rx hs pl pu h
 obtain⟨ρ,t,w,hr,rw',wt⟩:=h
 simp only[vU]at wt
 split at wt
 . cases rw' with
   |tup n e q=>exact L2.bJ pins s σ H _ v vl vu lo hi sl Q I rx hs pl pu ⟨_,_,rfl,e,uV hr (q.cut lo hi) wt⟩
 . rename_i heq
   cases heq
 . split at wt
   . rename_i e
     obtain⟨p,xs,rfl,hq,q⟩:=xu hr rw' e
     exact L2.bI pins s σ H _ v vl vu lo hi sl Q I rx hs pl pu ⟨_,_,rfl,.of hq,vA hr (q.cut lo hi) wt⟩
   . exact wt.elim
 . rename_i heq
   cases heq
theorem XW{lo hi st:Option Expr}{o:Out Val}{f2 f3 f4:Sto→Out (Option Int)}{m:Bool}{p2 pos:Pos}(h1:L2.PE X a (tV X.K X.mg env s o))(h2:∀s1,L2.PO X lo (tO X.K X.mg env s1 (f2 s1)))(h3:∀s1,L2.PO X hi (tO X.K X.mg env s1 (f3 s1)))
 (h4:∀s1,L2.PO X st (tO X.K X.mg env s1 (f4 s1))) (hst:(st=none∧∀s1,f4 s1=.ok none s1)∨∃e,st=some e∧∀s1 s2,f4 s1≠.ok none s2) :
 L2.PE X (.Subscript a (.Slice lo hi st p2) pos) (tV X.K X.mg env s (o.bind fun x s1=>(f2 s1).bind fun l s2=>(f3 s2).bind fun h s3=>(f4 s3).bind fun c s4=>vU m x l h c s4)):=by
 cases o with
 |ok v s1=>
  have h2':=h2 s1
  show L2.PE X _ (tV X.K X.mg env s ((f2 s1).bind _))
  cases hl:f2 s1 with
  |ok l s2=>
   rw[hl]at h2'
   have h3':=h3 s2
   show L2.PE X _ (tV X.K X.mg env s ((f3 s2).bind _))
   cases hh:f3 s2 with
   |ok h s3=>
    rw[hh]at h3'
    have h4':=h4 s3
    show L2.PE X _ (tV X.K X.mg env s ((f4 s3).bind _))
    rcases hst with⟨rfl,e4⟩|⟨e,rfl,e4⟩
    . rw[e4 s3]
      refine zx (L2.fK (WY m) h1 h2' h3') fun σ H Q ⟨ρ,hr,er,wt⟩=>⟨ρ,hr,er,fun ρ1 x H1 x1 hr1 r1=>⟨ρ1,hr1,er.mono x1,fun ρ2 y H2 x2 hr2 r2=>?_⟩⟩
      cases r2
      refine⟨ρ2,hr2,(er.mono x1).mono x2,fun ρ3 z H3 x3 hr3 r3=>?_⟩
      cases r3
      exact⟨ρ3,s3,v,hr3,(r1.mono x2).mono x3,wt.mono ((x1.trans hr1 x2).trans hr2 x3) hr3⟩
    . cases hc:f4 s3 with
      |ok cc s4=>
       rw[hc]at h4'
       cases cc with
       |none=>exact absurd hc (e4 s3 s4)
       |some ci=>
        refine zx (L2.jt h1 h2' h3' h4') fun σ H Q ⟨ρ,hr,er,wt⟩=>⟨ρ,hr,er,fun ρ1 x H1 x1 hr1 r1=>⟨ρ1,hr1,er.mono x1,fun ρ2 y H2 x2 hr2 r2=>?_⟩⟩
        cases r2
        refine⟨ρ2,hr2,(er.mono x1).mono x2,fun ρ3 z H3 x3 hr3 r3=>?_⟩
        cases r3
        refine⟨ρ3,hr3,((er.mono x1).mono x2).mono x3,fun ρ4 z4 H4 x4 hr4 r4=>?_⟩
        cases r4
        have xx:=((x1.trans hr1 x2).trans hr2 x3).trans hr3 x4
        have wt':yv X.K X.mg (RD X.K X.mg) ρ4 H4 (vU m v l h (some ci) s4) Q:=wt.mono xx hr4
        have r:=((r1.mono x2).mono x3).mono x4
        cases r with
        |tup n e q=>
         simp only[vU]at wt'
         split at wt'
         . rename_i hz
           have hlen:=q.length
           refine⟨_,_,ci,rfl,e,rfl,hz.1,by rw[←hlen,←ya];exact hz.2,?_⟩
           rw[←hlen]
           exact uV hr4 (q.yc _ _ _) wt'
         . exact wt'.elim
        |_=>exact wt'.elim
      |exc _ _ _=>exact zK (fun _ _ e=>by cases e)
      |stuck=>exact zK (fun _ _ e=>by cases e)
   |exc _ _ _=>exact zK (fun _ _ e=>by cases e)
   |stuck=>exact zK (fun _ _ e=>by cases e)
  |exc _ _ _=>exact zK (fun _ _ e=>by cases e)
  |stuck=>exact zK (fun _ _ e=>by cases e)
 |exc _ _ _=>exact zK (fun _ _ e=>by cases e)
 |stuck=>exact zK (fun _ _ e=>by cases e)
noncomputable def Mf.nm:Mf→Str
 |.count=>"count"|.append=>"append"|.extend=>"extend"|.pop=>"pop"|.index=>"index"
theorem gL{f:Mf}{o:Out Val}{f2:Sto→Out Val}{apos cpos:Pos}(hs:pW a=true)(hp:plain b=true)(hline:(apos.endLine == cpos.line)=true)(h1:L2.PE X a (tV X.K X.mg env s o))(h2:∀s1,L2.PE X b (tV X.K X.mg env s1 (f2 s1))) :
 L2.PE X (.Call (.Attribute a f.nm apos) [b] [] cpos) (tV X.K X.mg env s (o.bind fun x s1=>((f2 s1).bind fun v s2=>(Out.ok [v] s2:Out (List Val))).bind fun vs s2=>yY f x vs s2)):=by
 cases o with
 |ok v s1=>
  have h2':=h2 s1
  show L2.PE X _ (tV X.K X.mg env s (((f2 s1).bind fun v s2=>(Out.ok [v] s2:Out (List Val))).bind fun vs s2=>yY f v vs s2))
  cases hb:f2 s1 with
  |ok w s2=>
   rw[hb]at h2'
   show L2.PE X _ (tV X.K X.mg env s (yY f v [w] s2))
   cases f with
   |count=>
    by_cases hv:∃vs,v=.tup vs
    . obtain⟨vs,rfl⟩:=hv
      refine zx (L2.js h1 h2' (wz hs) (zd hp) hline) fun σ H Q ⟨ρ,hr,er,wt⟩=>⟨ρ,hr,er,fun ρ1 x H1 x1 hr1 r1=>?_⟩
      cases r1 with
      |tup n e q=>
       refine⟨⟨_,_,rfl,e⟩,ρ1,hr1,er.mono x1,fun ρ2 y H2 x2 hr2 r2=>?_⟩
       have wt':yv X.K X.mg (RD X.K X.mg) ρ2 H2 (yY .count (.tup vs) [w] s2) Q:=wt.mono (x1.trans hr1 x2) hr2
       simp only[yY]at wt'
       split at wt'
       . rename_i hf
         rw[Bool.and_eq_true]at hf
         have q2:=q.mono x2
         refine⟨_,_,y,rfl,rfl,L2.SqT.of (x2.keep _ _ e n.1),r2.flat hf.1,q2.flat hf.2,?_⟩
         rw[RDs.countP r2 hf.1 q2 hf.2]
         exact zH hr2 (.int _) wt'
       . exact wt'.elim
    . refine zx (L2.jr h1 h2' (wz hs) (zd hp) hline) fun σ H Q ⟨ρ,hr,er,wt⟩=>⟨ρ,hr,er,fun ρ1 x H1 x1 hr1 r1=>?_⟩
      have wt':yv X.K X.mg (RD X.K X.mg) ρ1 H1 (yY .count v [w] s2) Q:=wt.mono x1 hr1
      have em:yY .count v [w] s2=(match yV s2 v with|some vs=>if M.flat w&&vs.all M.flat then .ok (.int (vs.countP fun z=>eqF z w:Nat)) s2 else .stuck|Option.none=>.stuck):=by
       cases v with
       |tup vs=>exact absurd ⟨vs,rfl⟩ hv
       |_=>rfl
      rw[em]at wt'
      cases hl:yV s2 v with
      |none=>rw[hl]at wt';exact wt'.elim
      |some vs=>
       rw[hl]at wt'
       -- the receiver is a list already ahead of the argument
       have ty:L2.tyV X.K "list" x H1:=by
        cases r1 with
        |lst n e q=>exact .inl ⟨rfl,_,.of e⟩
        |ref e=>
         obtain⟨xs,q⟩:=hr1.trk (List.mem_of_getElem? e)
         exact .inl ⟨rfl,_,.of q⟩
        |_=>cases hl
       refine⟨ty,ρ1,hr1,er.mono x1,fun ρ2 y H2 x2 hr2 r2=>?_⟩
       obtain⟨p,xs,rfl,hq,q⟩:=xu hr2 (r1.mono x2) hl
       have wt2:=wt'.mono x2 hr2
       simp only at wt2
       split at wt2
       . rename_i hf
         rw[Bool.and_eq_true]at hf
         refine⟨_,_,y,rfl,rfl,L2.SqL.of hq,r2.flat hf.1,q.flat hf.2,?_⟩
         rw[RDs.countP r2 hf.1 q hf.2]
         exact zH hr2 (.int _) wt2
       . exact wt2.elim
   |append=>
    cases v with
    |ref i=>
     refine zx (L2.jq (es:=[]) h1 h2' (wz hs) (zd hp) hline) fun σ H Q ⟨ρ,hr,er,wt⟩=>⟨ρ,hr,er,fun ρ1 x H1 x1 hr1 r1=>?_⟩
     cases r1 with
     |ref e=>
      obtain⟨xs,q⟩:=hr1.trk (List.mem_of_getElem? e)
      refine⟨.inl ⟨rfl,_,.of q⟩,ρ1,hr1,er.mono x1,fun ρ2 y H2 x2 hr2 r2=>?_⟩
      have wt':yv X.K X.mg (RD X.K X.mg) ρ2 H2 (yY .append (.ref i) [w] s2) Q:=wt.mono (x1.trans hr1 x2) hr2
      simp only[yY]at wt'
      split at wt'
      . rename_i vs hv
        split at wt'
        . rename_i hz
          obtain⟨b',ys,e1,e2,q2⟩:=hr2.obj i _ hv
          have e':=x2.get e
          rw[e']at e1;cases e1
          refine⟨_,ys,y,rfl,rfl,e2,by rw[←q2.length,←ya];exact hz,?_⟩
          exact wt' _ _ _ (Ext.write hr2 e' _) (hr2.write e' (q2.append (.cons r2 .nil))) .none
        . exact wt'.elim
      . exact wt'.elim
    |_=>exact zK (fun _ _ e=>by cases e)
   |extend=>
    cases v with
    |ref i=>
     have hs1:starEach [b] X.env=(false,eval b X.env)::starEach [] X.env:=L2.yC (zd hp)
     have rule:L2.PE X (.Call (.Attribute a "extend" apos) [b] [] cpos) (L2.tBM X.K "list" L2.kW _ (L2.qo _ L2.iD)):=L2.fF PySem.F.plainAttrs_list PySem.F.slot_list_extend PySem.F.type_list_extend L2.jX h1 (L2.pac h2' L2.vR (zd hp)) (wz hs) (by rw[hs1];rfl) hline hs1 rfl
     refine zx rule fun σ H Q ⟨ρ,hr,er,wt⟩=>⟨ρ,hr,er,fun ρ1 x H1 x1 hr1 r1=>?_⟩
     cases r1 with
     |ref e=>
      obtain⟨xs,q⟩:=hr1.trk (List.mem_of_getElem? e)
      refine⟨.inl ⟨rfl,_,.of q⟩,ρ1,hr1,er.mono x1,fun ρ2 y H2 x2 hr2 r2=>?_⟩
      have wt':yv X.K X.mg (RD X.K X.mg) ρ2 H2 (yY .extend (.ref i) [w] s2) Q:=wt.mono (x1.trans hr1 x2) hr2
      simp only[yY]at wt'
      split at wt'
      . rename_i vs ws hv hw
        split at wt'
        . rename_i hz
          obtain⟨b',ys,e1,e2,q2⟩:=hr2.obj i _ hv
          obtain⟨p,zs,rfl,hq,q3⟩:=xu hr2 r2 hw
          have e':=x2.get e
          rw[e']at e1;cases e1
          refine⟨_,_,ys,zs,rfl,rfl,e2,hq,by rw[←q2.length,←q3.length,←ya];exact hz,?_⟩
          exact wt' _ _ _ (Ext.write hr2 e' _) (hr2.write e' (q2.append q3)) .none
        . exact wt'.elim
      . exact wt'.elim
    |_=>exact zK (fun _ _ e=>by cases e)
   |pop=>exact zK (fun _ _ e=>by cases e)
   |index=>exact zK (fun _ _ e=>by cases e)
  |exc _ _ _=>exact zK (fun _ _ e=>by cases e)
  |stuck=>exact zK (fun _ _ e=>by cases e)
 |exc _ _ _=>exact zK (fun _ _ e=>by cases e)
 |stuck=>exact zK (fun _ _ e=>by cases e)
end
noncomputable def spN(T:Tbl)(K:KF)(mg:Str→Option Value)(n:Nat)(f:Str)(ver:Nat):L2.Sp:=fun vs H Q _=>∃ρ s args,HR K mg ρ s H∧RDs K mg ρ H args vs∧yv K mg (RD K mg) ρ H (zL T n f ver args s) Q
structure Callee(T:Tbl)(n:Nat)(X:L2.Cx)(f:Str)(ver:Nat)(F:Fn):Prop where
 ex:∃fa fd,X.mg f=some (.ref fa)∧PySem.W.keepIn X.K (.ref fa)=true∧L2.Binds X.K fd F.ps []∧L2.tY X.prog X.w X.K X.mg X.base L2.CX0 n fa fd F.ps (spN T X.K X.mg n f ver)
section
variable {X:L2.Cx}{env:Env}{s:Sto}{T:Tbl}{n ver:Nat}{f:Str}{F:Fn}
theorem gJ{p pos:Pos}(C:Callee T n X f ver F)(hr0:L2.y9 n X.A)(hg:L2.Gl X f)(hd:(f == ("__debug__":Str))=false):L2.PE X (.Call (.Name f p) [] [] pos) (tV X.K X.mg env s (zL T n f ver [] s)):=by
 obtain⟨fa,fd,hm,hk,hb,hf⟩:=C.ex
 exact zx (L2.fG hf hr0 hg hm hk hb .nil L2.aA hd) fun σ H Q ⟨ρ,hr,er,wt⟩=>⟨ρ,s,[],hr,.nil,wt⟩
theorem de{es:List Expr}{o:Out (List Val)}{p pos:Pos}(C:Callee T n X f ver F)(hr0:L2.y9 n X.A)(hg:L2.Gl X f)(hd:(f == ("__debug__":Str))=false)(hp:yZ es=true)(hne:es≠[])(h:L2.PA X es (tVs X.K X.mg env s o)) :
 L2.PE X (.Call (.Name f p) es [] pos) (tV X.K X.mg env s (o.bind (zL T n f ver))):=by
 obtain⟨fa,fd,hm,hk,hb,hf⟩:=C.ex
 cases o with
 |ok vs s1=>
  cases es with
  |nil=>exact absurd rfl hne
  |cons e es=>
   rw[yZ,Bool.and_eq_true]at hp
   refine zx (L2.cX hf hr0 hg hm hk hb .nil L2.aA h hd (L2.yC (zd hp.1)) (v8 hp.2)) fun σ H Q ⟨ρ,hr,er,wt⟩=>⟨ρ,hr,er,fun ρ1 xs H1 x1 hr1 r1=>?_⟩
   show spN T X.K X.mg n f ver (xs++[]) H1 Q L2.E0
   rw[List.append_nil]
   exact⟨ρ1,s1,vs,hr1,r1,wt.mono x1 hr1⟩
 |exc _ _ _=>exact zK (fun _ _ e=>by cases e)
 |stuck=>exact zK (fun _ _ e=>by cases e)
end
end M
end
section
namespace M
open PySem
mutual
theorem beq_eq:∀{a b:Val},a.beq b=true→a=b
 |.none,b,h=>by cases b<;>first|rfl|cases h
 |.bool x,b,h=>by cases b with|bool y=>simp only[Val.beq,beq_iff_eq]at h;rw[h]|_=>cases h
 |.int x,b,h=>by cases b with|int y=>simp only[Val.beq,beq_iff_eq]at h;rw[h]|_=>cases h
 |.str x,b,h=>by cases b with|str y=>simp only[Val.beq,beq_iff_eq]at h;rw[h]|_=>cases h
 |.tup x,b,h=>by cases b with|tup y=>simp only[Val.beq]at h;rw[vZ h]|_=>cases h
 |.lst x,b,h=>by cases b with|lst y=>simp only[Val.beq]at h;rw[vZ h]|_=>cases h
 |.dct0,b,h=>by cases b<;>first|rfl|cases h
 |.ctup x,b,h=>by cases b with|ctup y=>simp only[Val.beq,beq_iff_eq]at h;rw[h]|_=>cases h
 |.scr x,b,h=>by cases b with|scr y=>simp only[Val.beq,beq_iff_eq]at h;rw[h]|_=>cases h
 |.ref x,b,h=>by cases b with|ref y=>simp only[Val.beq,beq_iff_eq]at h;rw[h]|_=>cases h
 |.fn x,b,h=>by cases b with|fn y=>simp only[Val.beq,beq_iff_eq]at h;rw[h]|_=>cases h
 |.ty x,b,h=>by cases b with|ty y=>simp only[Val.beq,beq_iff_eq]at h;rw[h]|_=>cases h
theorem vZ:∀{a b:List Val},pC a b=true→a=b
 |[],[],_=>rfl
 |[],_::_,h=>by cases h
 |_::_,[],h=>by cases h
 |x::xs,y::ys,h=>by
  rw[pC,Bool.and_eq_true]at h
  rw[beq_eq h.1,vZ h.2]
end
section
variable {K:KF}{mg:Str→Option Value}
theorem Mv.refl{ρ:Own}{H:L2.Hp}:Mv ρ H ρ H:=⟨fun a o e n=>⟨e,n⟩,fun i a e=>e⟩
theorem Mv.trans{ρ ρ1 ρ2:Own}{H H1 H2:L2.Hp}(x:Mv ρ H ρ1 H1)(y:Mv ρ1 H1 ρ2 H2):Mv ρ H ρ2 H2:=
 ⟨fun a o e n=>y.keep a o (x.keep a o e n).1 (x.keep a o e n).2,fun i a e=>y.get i a (x.get i a e)⟩
structure Walk(K:KF)(mg:Str→Option Value)(ρ:Own)(H:L2.Hp)(r:Src)(J:L2.It):Prop where
 len:r.xs.length≤zO
 go:∀(ρ2:Own) (H2:L2.Hp) (s2:Sto) (i:Nat) (v:Val),Mv ρ H ρ2 H2→HR K mg ρ2 s2 H2→r.ok s2=true→r.xs[i]?=some v→J.go i H2∧∀x H3,J.yld i H2 x H3→(H3=H2∨∃p o,H2 p=none∧H3=L2.upd H2 p o)∧RD K mg ρ2 H3 v x
 stop:∀(ρ2:Own) (H2:L2.Hp) (s2:Sto) (i:Nat),Mv ρ H ρ2 H2→HR K mg ρ2 s2 H2→r.ok s2=true→i=r.xs.length→J.stop i H2
theorem Walk.mv{ρ ρ1:Own}{H H1:L2.Hp}{r:Src}{J:L2.It}(w:Walk K mg ρ H r J)(x:Mv ρ H ρ1 H1):Walk K mg ρ1 H1 r J:=
 ⟨w.len,fun ρ2 H2 s2 i v y=>w.go ρ2 H2 s2 i v (x.trans y),fun ρ2 H2 s2 i y=>w.stop ρ2 H2 s2 i (x.trans y)⟩
noncomputable def iQ(H:L2.Hp):Prop:=∀a xs,(H a=some (.tup xs)∨H a=some (.lst xs))→xs.length≤sizeLine
theorem uf{X:L2.Cx}{tg it:Expr}{wi:L2.TI}(h:L2.PI X tg it wi):L2.PI X tg it (fun σ H R=>wi σ H fun J H1=>iQ H1→R J H1):=fun pins s σ H R I q=>
 L2.thn (h pins s σ H _ I q) fun v s1 h1=>L2.thn h1 fun itv s2 ⟨i,fp,tn,J,H',e,I',T,t0,f,r⟩=>⟨i,fp,tn,J,H',e,I',T,t0,f,r fun a xs hx=>by
  rcases hx with hx|hx
  . obtain⟨z,_⟩:=(show L2.z5 X.prog X.w H' s2.heap a (.tup xs) from I'.hok a _ hx);exact z
  . obtain⟨z,_⟩:=(show L2.z5 X.prog X.w H' s2.heap a (.lst xs) from I'.hok a _ hx);exact z⟩
theorem eQ{ρ:Own}{H:L2.Hp}{a:Addr}{vs:List Val}{xs:List L2.V}(hz:vs.length≤zO)(n:ρ.no a)(e:H a=some (.tup xs))(q:RDs K mg ρ H vs xs):Walk K mg ρ H ⟨vs,none⟩ (L2.Itt K a) where
 len:=hz
 go:=fun ρ2 H2 s2 i v x hr _ hv=>by
  have e2:=(x.keep a _ e n).1
  have q2:=RDs.mv x q
  obtain⟨y,h1,h2⟩:=q2.get hv
  refine⟨⟨xs,y,.of e2,h1⟩,fun z H3 ⟨e3,h3⟩=>⟨.inl e3,?_⟩⟩
  subst e3
  have:=h3 xs (.of e2)
  rw[h1]at this;cases this
  exact h2
 stop:=fun ρ2 H2 s2 i x hr _ hi=>⟨xs,.of (x.keep a _ e n).1,by rw[←q.length];exact Nat.le_of_eq hi.symm⟩
theorem eO{ρ:Own}{H:L2.Hp}{a:Addr}{vs:List Val}{xs:List L2.V}(hz:vs.length≤zO)(n:ρ.no a)(e:H a=some (.lst xs))(q:RDs K mg ρ H vs xs):Walk K mg ρ H ⟨vs,none⟩ (L2.Itl K a) where
 len:=hz
 go:=fun ρ2 H2 s2 i v x hr _ hv=>by
  have e2:=(x.keep a _ e n).1
  have q2:=RDs.mv x q
  obtain⟨y,h1,h2⟩:=q2.get hv
  refine⟨⟨xs,y,.of e2,h1⟩,fun z H3 ⟨e3,h3⟩=>⟨.inl e3,?_⟩⟩
  subst e3
  have:=h3 xs (.of e2)
  rw[h1]at this;cases this
  exact h2
 stop:=fun ρ2 H2 s2 i x hr _ hi=>⟨xs,.of (x.keep a _ e n).1,by rw[←q.length];exact Nat.le_of_eq hi.symm⟩
theorem iH{ρ:Own}{H:L2.Hp}{a:Addr}{ns:List Int}(k:KT K a (ns.map L2.V.int)):Walk K mg ρ H ⟨ns.map .int,none⟩ (L2.Itt K a) where
 len:=by
  obtain⟨o,its,n,_,_,_,h4,h5⟩:=k
  have:=h5.length
  simp only[List.length_map,Array.length_toList]at this
  show (ns.map Val.int).length≤_
  rw[List.length_map,ya,this];exact h4
 go:=fun ρ2 H2 s2 i v x hr _ hv=>by
  obtain⟨y,h1,h2⟩:=(RDs.ints (K:=K) (mg:=mg) (ρ:=ρ2) (H:=H2) ns).get hv
  refine⟨⟨_,y,k.sqt,h1⟩,fun z H3 ⟨e3,h3⟩=>⟨.inl e3,?_⟩⟩
  subst e3
  have:=h3 _ k.sqt
  rw[h1]at this;cases this
  exact h2
 stop:=fun ρ2 H2 s2 i x hr _ hi=>⟨_,k.sqt,by rw[List.length_map];rw[hi];simp⟩
theorem eP{ρ:Own}{H:L2.Hp}{i0:Nat}{a:Addr}{vs:List Val}(hz:vs.length≤zO)(e:ρ.o[i0]?=some a):Walk K mg ρ H ⟨vs,some i0⟩ (L2.Itl K a) where
 len:=hz
 go:=fun ρ2 H2 s2 i v x hr ho hv=>by
  simp only[Src.ok]at ho
  split at ho
  . rename_i ws hw
    cases vZ ho
    obtain⟨b,xs,e1,e2,q⟩:=hr.obj i0 _ hw
    rw[x.get _ _ e]at e1;cases e1
    obtain⟨y,h1,h2⟩:=q.get hv
    refine⟨⟨xs,y,.of e2,h1⟩,fun z H3 ⟨e3,h3⟩=>⟨.inl e3,?_⟩⟩
    subst e3
    have:=h3 xs (.of e2)
    rw[h1]at this;cases this
    exact h2
  . cases ho
 stop:=fun ρ2 H2 s2 i x hr ho hi=>by
  simp only[Src.ok]at ho
  split at ho
  . rename_i ws hw
    cases vZ ho
    obtain⟨b,xs,e1,e2,q⟩:=hr.obj i0 _ hw
    rw[x.get _ _ e]at e1;cases e1
    exact⟨xs,.of e2,by rw[←q.length];exact Nat.le_of_eq hi.symm⟩
  . cases ho
theorem fc{lo:Int}{n i:Nat}:(zy lo n)[i]?=if i<n then some (.int (lo+i)) else none:=by
 unfold zy
 rw[List.getElem?_map]
 by_cases h:i<n
 . rw[if_pos h,List.getElem?_range h];rfl
 . rw[if_neg h,List.getElem?_eq_none (by rw[List.length_range];omega)];rfl
theorem nJ{lo:Int}{n:Nat}:(zy lo n).length=n:=by unfold zy;rw[List.length_map,List.length_range]
theorem nV{ρ:Own}{H:L2.Hp}{lo:Int}{n:Nat}(hz:n≤zO):Walk K mg ρ H ⟨zy lo n,none⟩ (L2.Itr lo n) where
 len:=by show (zy lo n).length≤_;rw[nJ];exact hz
 go:=fun ρ2 H2 s2 i v x hr _ hv=>by
  have hv':(zy lo n)[i]?=some v:=hv
  rw[fc]at hv'
  split at hv'
  . rename_i hi
    cases hv'
    refine⟨hi,fun z H3 ⟨e3,h3⟩=>⟨.inl e3,?_⟩⟩
    subst h3
    exact .int _
  . cases hv'
 stop:=fun ρ2 H2 s2 i x hr _ hi=>by
  have:i=(zy lo n).length:=hi
  rw[nJ]at this;exact Nat.le_of_eq this.symm
theorem vb:∀{vs:List Val} {n i:Nat},(yI n vs)[i]?=(vs[i]?).map fun v=>.tup [.int ((n+i:Nat):Int),v]
 |[],_,_=>rfl
 |v::vs,n,0=>rfl
 |v::vs,n,i+1=>by
  show (yI (n+1) vs)[i]?=(vs[i]?).map _
  rw[vb]
  rw[show n+1+i=n+(i+1) by omega]
theorem we:∀{vs:List Val} {n:Nat},(yI n vs).length=vs.length
 |[],_=>rfl
 |v::vs,n=>by show (yI (n+1) vs).length+1=_;rw[we];rfl
theorem iI{ρ:Own}{H:L2.Hp}{a:Addr}{vs:List Val}{xs:List L2.V}(hz:vs.length≤zO)(n:ρ.no a)(e:H a=some (.tup xs))(q:RDs K mg ρ H vs xs):Walk K mg ρ H ⟨yI 0 vs,none⟩ (L2.Ite K a) where
 len:=by show (yI 0 vs).length≤_;rw[we];exact hz
 go:=fun ρ2 H2 s2 i v x hr _ hv=>by
  have e2:=(x.keep a _ e n).1
  have q2:=RDs.mv x q
  have hv':(yI 0 vs)[i]?=some v:=hv
  rw[vb,Option.map_eq_some_iff]at hv'
  obtain⟨w,h0,rfl⟩:=hv'
  obtain⟨y,h1,h2⟩:=q2.get h0
  refine⟨⟨xs,y,.of e2,h1⟩,fun z H3 ⟨t,y',ht,e3,h3,e4⟩=>⟨.inr ⟨t,_,ht,e4⟩,?_⟩⟩
  subst e3 e4
  have:=h3 xs (.of e2)
  rw[h1]at this;cases this
  have X:=Ext.new hr ht (.tup [.int ((i:Nat):Int),y])
  refine .tup (hr.new ht) L2.z8 (.cons ?_ (.cons (h2.mono X) .nil))
  rw[Nat.zero_add];exact .int _
 stop:=fun ρ2 H2 s2 i x hr _ hi=>⟨xs,.of (x.keep a _ e n).1,by rw[←q.length,hi];exact we.symm⟩
theorem lK{ρ:Own}{H:L2.Hp}{a:Addr}{vs:List Val}{xs:List L2.V}(hz:vs.length≤zO)(n:ρ.no a)(e:H a=some (.lst xs))(q:RDs K mg ρ H vs xs):Walk K mg ρ H ⟨yI 0 vs,none⟩ (L2.aN K a) where
 len:=by show (yI 0 vs).length≤_;rw[we];exact hz
 go:=fun ρ2 H2 s2 i v x hr _ hv=>by
  have e2:=(x.keep a _ e n).1
  have q2:=RDs.mv x q
  have hv':(yI 0 vs)[i]?=some v:=hv
  rw[vb,Option.map_eq_some_iff]at hv'
  obtain⟨w,h0,rfl⟩:=hv'
  obtain⟨y,h1,h2⟩:=q2.get h0
  refine⟨⟨xs,y,.of e2,h1⟩,fun z H3 ⟨t,y',ht,e3,h3,e4⟩=>⟨.inr ⟨t,_,ht,e4⟩,?_⟩⟩
  subst e3 e4
  have:=h3 xs (.of e2)
  rw[h1]at this;cases this
  have X:=Ext.new hr ht (.tup [.int ((i:Nat):Int),y])
  refine .tup (hr.new ht) L2.z8 (.cons ?_ (.cons (h2.mono X) .nil))
  rw[Nat.zero_add];exact .int _
 stop:=fun ρ2 H2 s2 i x hr _ hi=>⟨xs,.of (x.keep a _ e n).1,by rw[←q.length,hi];exact we.symm⟩
noncomputable def tI(env:Env)(s:Sto)(o:Out Src):L2.TI:=fun σ H R=>∃ρ,HR K mg ρ s H∧ER K mg ρ H env σ∧(match o with
 |.ok r s'=>∀ρ' H' J,Ext ρ H ρ' H'→HR K mg ρ' s' H'→Walk K mg ρ' H' r J→R J H'
 |_=>False)
end
section
variable {X:L2.Cx}{env:Env}{s:Sto}{a b tg:Expr}
theorem v7{it:Expr}{t t':L2.TI}(h:L2.PI X tg it t)(i:∀σ H R,t' σ H R→t σ H R):L2.PI X tg it t':=fun pins s σ H R I q=>h pins s σ H R I (i σ H R q)
theorem yW{it:Expr}{o:Out Src}(h:∀v s',o≠.ok v s'):L2.PI X tg it (tI (K:=X.K) (mg:=X.mg) env s o):=fun pins sh σ H R I q=>by
 obtain⟨ρ,_,_,w⟩:=q
 cases o with
 |ok v s'=>exact(h v s' rfl).elim
 |exc _ _ _=>exact w.elim
 |stuck=>exact w.elim
theorem iQ.of{K:KF}{mg:Str→Option Value}{ρ:Own}{H:L2.Hp}(z:iQ H){a:Addr}{vs:List Val}{xs:List L2.V}(q:RDs K mg ρ H vs xs)(h:H a=some (.tup xs)∨H a=some (.lst xs)):vs.length≤zO:=by
 rw[q.length,ya];exact z a xs h
theorem ZX{o:Out Val}(h:L2.PE X a (tV X.K X.mg env s o)):L2.PI X tg a (tI (K:=X.K) (mg:=X.mg) env s (o.bind fun v s1=>match srcOf s1 v with|some r=>.ok r s1|Option.none=>.stuck)):=by
 cases o with
 |ok v s1=>
  show L2.PI X tg a (tI (K:=X.K) (mg:=X.mg) env s (match srcOf s1 v with|some r=>.ok r s1|Option.none=>.stuck))
  cases v with
  |tup vs=>
   refine v7 (uf (L2.fM h)) fun σ H R ⟨ρ,hr,er,w⟩=>⟨ρ,hr,er,fun ρ1 x H1 x1 hr1 r1=>?_⟩
   cases r1 with
   |tup n e q=>exact⟨_,rfl,⟨_,.of e⟩,fun z=>w ρ1 H1 _ x1 hr1 (eQ (z.of q (.inl e)) n e q)⟩
  |lst vs=>
   refine v7 (uf (L2.kP h)) fun σ H R ⟨ρ,hr,er,w⟩=>⟨ρ,hr,er,fun ρ1 x H1 x1 hr1 r1=>?_⟩
   cases r1 with
   |lst n e q=>exact⟨_,rfl,⟨_,.of e⟩,fun z=>w ρ1 H1 _ x1 hr1 (eO (z.of q (.inr e)) n e q)⟩
  |ctup ns=>
   refine v7 (L2.fM h) fun σ H R ⟨ρ,hr,er,w⟩=>⟨ρ,hr,er,fun ρ1 x H1 x1 hr1 r1=>?_⟩
   cases r1 with
   |ctup k=>exact⟨_,rfl,⟨_,k.sqt⟩,w ρ1 H1 _ x1 hr1 (iH k)⟩
  |ref i=>
   simp only[srcOf]
   cases hs:s1[i]? with
   |none=>exact yW (fun _ _ e=>by cases e)
   |some cl=>
    cases cl with
    |lst vs=>
     refine v7 (uf (L2.kP h)) fun σ H R ⟨ρ,hr,er,w⟩=>⟨ρ,hr,er,fun ρ1 x H1 x1 hr1 r1=>?_⟩
     cases r1 with
     |ref e=>
      obtain⟨b',xs,e1,e2,q⟩:=hr1.obj i _ hs
      rw[e]at e1;cases e1
      exact⟨_,rfl,⟨_,.of e2⟩,fun z=>w ρ1 H1 _ x1 hr1 (eP (z.of q (.inr e2)) e)⟩
  |_=>exact yW (fun _ _ e=>by cases e)
 |exc _ _ _=>exact yW (fun _ _ e=>by cases e)
 |stuck=>exact yW (fun _ _ e=>by cases e)
theorem jG{o:Out Val}{p pos:Pos}(hp:plain a=true)(hg:L2.Gl X "range")(hm:X.mg "range"=none)(h:L2.PE X a (tV X.K X.mg env s o)) :
 L2.PI X tg (.Call (.Name "range" p) [a] [] pos) (tI (K:=X.K) (mg:=X.mg) env s (o.bind fun x s1=>match x with
  |.int j=>if -(2 ^ 62)≤j∧j≤zO then .ok ⟨zy 0 j.toNat,Option.none⟩ s1 else .stuck
  |_=>.stuck)):=by
 cases o with
 |ok v s1=>
  have st:starEach [a] X.env=[(false,eval a X.env)]:=L2.yC (zd hp)
  refine v7 (L2.ju hg hm (L2.pac h L2.vR (zd hp)) st) fun σ H R ⟨ρ,hr,er,w⟩=>⟨ρ,hr,er,fun ρ1 x H1 x1 hr1 r1=>?_⟩
  cases r1 with
  |int j=>
   simp only[za]at w
   by_cases hz:-(2 ^ 62)≤j∧j≤zO
   . rw[if_pos hz]at w
     have hl:(zO:Int)<2 ^ 62:=by decide
     exact⟨j,rfl,hz.1,by omega,w ρ1 H1 _ x1 hr1 (nV (by omega))⟩
   . rw[if_neg hz]at w;exact w.elim
  |_=>exact w.elim
 |exc _ _ _=>exact yW (fun _ _ e=>by cases e)
 |stuck=>exact yW (fun _ _ e=>by cases e)
theorem jH{o:Out Val}{f2:Sto→Out Val}{p pos:Pos}(hp:plain a=true)(hp2:plain b=true)(hg:L2.Gl X "range")(hm:X.mg "range"=none)(h:L2.PE X a (tV X.K X.mg env s o))(h2:∀s1,L2.PE X b (tV X.K X.mg env s1 (f2 s1))) :
 L2.PI X tg (.Call (.Name "range" p) [a,b] [] pos) (tI (K:=X.K) (mg:=X.mg) env s (o.bind fun x s1=>(f2 s1).bind fun y s2=>match x,y with
  |.int i,.int j=>if -(2 ^ 62)≤i∧i<2 ^ 62∧-(2 ^ 62)≤j∧j<2 ^ 62∧j-i≤zO then .ok ⟨zy i (j-i).toNat,Option.none⟩ s2 else .stuck
  |_,_=>.stuck)):=by
 cases o with
 |ok v s1=>
  have h2':=h2 s1
  simp only[za]
  cases hb:f2 s1 with
  |ok w s2=>
   rw[hb]at h2'
   have st2:starEach [b] X.env=[(false,eval b X.env)]:=L2.yC (zd hp2)
   have st:starEach [a,b] X.env=[(false,eval a X.env),(false,eval b X.env)]:=by rw[L2.yC (zd hp),st2]
   refine v7 (L2.jv hg hm (L2.pac h (L2.pac h2' L2.vR (zd hp2)) (zd hp)) st st2) fun σ H R ⟨ρ,hr,er,wt⟩=>⟨ρ,hr,er,fun ρ1 x H1 x1 hr1 r1=>⟨ρ1,hr1,er.mono x1,fun ρ2 y H2 x2 hr2 r2=>?_⟩⟩
   simp only[za]at wt
   cases r1 with
   |int i=>
    cases r2 with
    |int j=>
     simp only at wt
     by_cases hz:-(2 ^ 62)≤i∧i<2 ^ 62∧-(2 ^ 62)≤j∧j<2 ^ 62∧j-i≤zO
     . rw[if_pos hz]at wt
       exact⟨i,j,rfl,⟨hz.1,hz.2.1,hz.2.2.1,hz.2.2.2.1⟩,wt ρ2 H2 _ (x1.trans hr1 x2) hr2 (nV (by omega))⟩
     . rw[if_neg hz]at wt;exact wt.elim
    |_=>exact wt.elim
   |_=>exact wt.elim
  |exc _ _ _=>exact yW (fun _ _ e=>by cases e)
  |stuck=>exact yW (fun _ _ e=>by cases e)
 |exc _ _ _=>exact yW (fun _ _ e=>by cases e)
 |stuck=>exact yW (fun _ _ e=>by cases e)
theorem dh{es:List Expr}{k:Nat}{o:Out Val}{p pos tp:Pos}(hp:plain a=true)(hg:L2.Gl X "enumerate")(hm:X.mg "enumerate"=none)(h:L2.PE X a (tV X.K X.mg env s o)) :
 L2.PI X (.Tuple es k tp) (.Call (.Name "enumerate" p) [a] [] pos) (tI (K:=X.K) (mg:=X.mg) env s (o.bind fun v s1=>match v with
  |.tup vs=>.ok ⟨yI 0 vs,Option.none⟩ s1
  |.lst vs=>.ok ⟨yI 0 vs,Option.none⟩ s1
  |_=>.stuck)):=by
 cases o with
 |ok v s1=>
  have st:starEach [a] X.env=[(false,eval a X.env)]:=L2.yC (zd hp)
  refine v7 (uf (L2.cj hg hm (L2.pac h L2.vR (zd hp)) st)) fun σ H R ⟨ρ,hr,er,w⟩=>⟨ρ,hr,er,fun ρ1 x H1 x1 hr1 r1=>?_⟩
  cases r1 with
  |tup n e q=>exact⟨_,rfl,.inl ⟨⟨_,.of e⟩,fun z=>w ρ1 H1 _ x1 hr1 (iI (z.of q (.inl e)) n e q)⟩⟩
  |lst n e q=>exact⟨_,rfl,.inr ⟨⟨_,.of e⟩,fun z=>w ρ1 H1 _ x1 hr1 (lK (z.of q (.inr e)) n e q)⟩⟩
  |_=>exact w.elim
 |exc _ _ _=>exact yW (fun _ _ e=>by cases e)
 |stuck=>exact yW (fun _ _ e=>by cases e)
end
end M
end
section
namespace M
open PySem
noncomputable def rl(K:KF)(mg:Str→Option Value)(t:Tgt)(g:L2.TG):Prop:=∀(ρ:Own) (s:Sto) (H:L2.Hp) (v:Val) (x:L2.V) (env env':Env) (σ:L2.St) (Q:L2.St→L2.Hp→Prop),HR K mg ρ s H→RD K mg ρ H v x→ER K mg ρ H env σ→yg t v env=some env' →
 (∀σ',ER K mg ρ H env' σ'→Q σ' H)→g x σ H Q
theorem oB{K:KF}{mg:Str→Option Value}{i:Nat}:rl K mg (.nm i) (L2.uS i):=fun ρ s H v x env env' σ Q hr r er e q=>by
 cases e
 exact q _ (er.set i r)
noncomputable def pM:List Nat→L2.TGs
 |[]=>L2.Y9
 |i::is=>L2.bu (L2.uS i) (pM is)
theorem qc{K:KF}{mg:Str→Option Value}{ρ:Own}{H:L2.Hp}{Q:L2.St→L2.Hp→Prop}:∀{is:List Nat} {vs:List Val} {xs:List L2.V} {env:Env} {σ:L2.St},RDs K mg ρ H vs xs→ER K mg ρ H env σ→vs.length=is.length →
 (∀σ',ER K mg ρ H ((is.zip vs).foldl (fun e p=>e.set p.1 (some p.2)) env) σ'→Q σ' H)→pM is xs σ H Q
 |[],[],_,env,σ,.nil,er,_,q=>⟨rfl,q σ er⟩
 |[],_::_,_,_,_,_,_,h,_=>by cases h
 |_::_,[],_,_,_,_,_,h,_=>by cases h
 |i::is,v::vs,x::xs,env,σ,.cons r rs,er,h,q=>⟨x,xs,rfl,qc rs (er.set i r) (by simpa using h) q⟩
theorem vW{K:KF}{mg:Str→Option Value}{is:List Nat}:rl K mg (.nms is) (L2.XB K is.length (pM is)):=fun ρ s H v x env env' σ Q hr r er e q=>by
 simp only[yg]at e
 split at e
 . split at e
   . rename_i hl
     cases e
     cases r with
     |tup n e q2=>exact⟨_,_,rfl,.of e,by rw[←q2.length];exact hl,qc q2 er hl q⟩
   . cases e
 . cases e
noncomputable def z6(sc:Scope)(N:List Str):List Nat→List Expr→Bool
 |[],[]=>true
 |i::is,.Name x _::es=>decide (N[i]?=some x)&&(decide (sc.names.lookup x=some .local)||decide (sc.names.lookup x=some .cell))&&z6 sc N is es
 |_,_=>false
noncomputable def ckT(sc:Scope)(N:List Str):Tgt→Expr→Bool
 |.nm i,.Name x _=>decide (N[i]?=some x)&&(decide (sc.names.lookup x=some .local)||decide (sc.names.lookup x=some .cell))
 |.nms is,.Tuple es _ _=>z6 sc N is es&&decide (es≠[])
 |_,_=>false
section
variable {X:L2.Cx}
structure Scp(sc:Scope)(N:List Str)(X:L2.Cx):Prop where
 hN:X.N=N
 nd:N.Nodup
 vis:∀x,sc.names.lookup x=some .local∨sc.names.lookup x=some .cell∨sc.names.lookup x=some .free→L2.Vis X.env.scope x
 loc:∀x,sc.names.lookup x=some .local∨sc.names.lookup x=some .cell→L2.Loc X.env.scope x∧(X.fn x=true∨X.env.scope.names.lookup x=some .local)
 gl:∀x,sc.names.lookup x=some .globalImplicit→L2.Gl X x
 cf:∀x,sc.names.lookup x=some .cell∨sc.names.lookup x=some .free→X.env.kindOf x=some .cell∨X.env.kindOf x=some .free
theorem kO{sc:Scope}{N:List Str}(S:Scp sc N X){i:Nat}{x:Str}{p:Pos}(h1:N[i]?=some x)(h2:sc.names.lookup x=some .local∨sc.names.lookup x=some .cell):L2.PG X (.Name x p) (L2.uS i):=by
 obtain⟨a,b⟩:=S.loc x h2
 exact L2.cb (by rw[S.hN];exact S.nd) (by rw[S.hN];exact h1) a b
theorem x8{sc:Scope}{N:List Str}(S:Scp sc N X):∀{is:List Nat} {es:List Expr},z6 sc N is es=true→L2.PGs X es (pM is)∧(assignEach es X.env).length=is.length∧(assignEach es X.env).findIdx? (·.1)=none
 |[],[],_=>⟨L2.cg,rfl,rfl⟩
 |[],_::_,h=>by cases h
 |_::_,[],h=>by cases h
 |i::is,e::es,h=>by
  cases e with
  |Name x p=>
   simp only[z6,Bool.and_eq_true,Bool.or_eq_true,decide_eq_true_eq]at h
   obtain⟨a,b,c⟩:=x8 S h.2
   refine⟨L2.fL (kO S h.1.1 h.1.2) a,?_,?_⟩
   . show (assignEach es X.env).length+1=is.length+1
     rw[b]
   . show List.findIdx? (·.1) ((false,assign (.Name x p) X.env)::assignEach es X.env)=none
     rw[List.findIdx?_cons]
     simp only[Bool.false_eq_true,if_false]
     rw[c];rfl
  |_=>cases h
theorem WE{sc:Scope}{N:List Str}(S:Scp sc N X)(hc:X.calm=true){t:Tgt}{e:Expr}(h:ckT sc N t e=true):∃g,L2.PG X e g∧rl X.K X.mg t g:=by
 cases t with
 |nm i=>
  cases e with
  |Name x p=>
   simp only[ckT,Bool.and_eq_true,Bool.or_eq_true,decide_eq_true_eq]at h
   exact⟨_,kO S h.1 h.2,oB⟩
  |_=>cases h
 |nms is=>
  cases e with
  |Tuple es k p=>
   simp only[ckT,Bool.and_eq_true,decide_eq_true_eq]at h
   obtain⟨a,b,c⟩:=x8 S h.1
   exact⟨_,L2.rQ hc a b c,vW⟩
  |_=>cases h
end
structure Lp(acc:Addr)(ρ:Own)(H:L2.Hp)(ρ':Own)(H':L2.Hp):Prop where
 pre:∃new:List Addr,ρ'.o=ρ.o++new∧∀a∈new,H a=none
 hid:ρ'.h=acc::ρ.h
 keep:∀(a:Addr) (o:L2.HO),H a=some o→a ∉ ρ.o→H' a=some o
section
variable {K:KF}{mg:Str→Option Value}{ρ ρ1 ρ2:Own}{H H1 H2:L2.Hp}{s s1:Sto}{acc:Addr}
noncomputable def Own.hide(ρ:Own)(acc:Addr):Own:=⟨ρ.o,acc::ρ.h⟩
theorem l9(hn:H acc=none)(o:L2.HO):Mv ρ H (ρ.hide acc) (L2.upd H acc o):=
 ⟨fun a u e n=>⟨by rw[L2.zS (L2.zY e hn)];exact e,n.1,fun hm=>by
  rcases List.mem_cons.mp hm with z|z
  . exact L2.zY e hn z
  . exact n.2 z⟩,fun i a e=>e⟩
theorem HR.hide(hr:HR K mg ρ s H)(hn:H acc=none){xs:List L2.V}:HR K mg (ρ.hide acc) s (L2.upd H acc (.lst xs)):=by
 refine⟨hr.len,hr.nd,fun i vs e=>?_,fun a ha=>?_⟩
 . obtain⟨a,ys,e1,e2,q⟩:=hr.obj i vs e
   exact⟨a,ys,e1,by rw[L2.zS (L2.zY e2 hn)];exact e2,RDs.mv (l9 hn _) q⟩
 . rcases List.mem_cons.mp ha with z|z
   . subst z;exact⟨⟨xs,L2.z8⟩,(hr.new hn).1⟩
   . obtain⟨⟨ys,e⟩,n⟩:=hr.hid a z
     exact⟨⟨ys,by rw[L2.zS (L2.zY e hn)];exact e⟩,n⟩
theorem Lp.start(hn:H acc=none)(o:L2.HO):Lp acc ρ H (ρ.hide acc) (L2.upd H acc o):=
 ⟨⟨[],by simp[Own.hide],fun a ha=>by cases ha⟩,rfl,fun a u e _=>by rw[L2.zS (L2.zY e hn)];exact e⟩
theorem Lp.step(l:Lp acc ρ H ρ1 H1)(hr:HR K mg ρ1 s1 H1)(x:Ext ρ1 H1 ρ2 H2):Lp acc ρ H ρ2 H2:=by
 obtain⟨new,e1,hn⟩:=l.pre
 obtain⟨new2,e2,hn2⟩:=x.pre
 refine⟨⟨new++new2,by rw[e2,e1,List.append_assoc],fun a ha=>?_⟩,x.hid.trans l.hid,fun a o e n=>x.keep a o (l.keep a o e n) ?_⟩
 . rcases List.mem_append.mp ha with ha|ha
   . exact hn a ha
   . cases q:H a with
     |none=>rfl
     |some o=>
      by_cases hm:a∈ρ.o
      . obtain⟨xs,e⟩:=hr.trk (a:=a) (by rw[e1];exact List.mem_append_left _ hm)
        rw[hn2 a ha]at e;cases e
      . have:=l.keep a o q hm
        rw[hn2 a ha]at this;cases this
 . rw[e1]
   intro hm
   rcases List.mem_append.mp hm with hm|hm
   . exact n hm
   . rw[hn a hm]at e;cases e
theorem Lp.emit(l:Lp acc ρ H ρ1 H1)(hn:H acc=none)(o:L2.HO):Lp acc ρ H ρ1 (L2.upd H1 acc o):=
 ⟨l.pre,l.hid,fun a u e n=>by rw[L2.zS (L2.zY e hn)];exact l.keep a u e n⟩
theorem Lp.here(l:Lp acc ρ H ρ1 H1):acc∈ρ1.h:=by rw[l.hid];exact List.mem_cons_self
theorem ll(ha:acc∈ρ1.h)(o:L2.HO):Mv ρ1 H1 ρ1 (L2.upd H1 acc o):=
 ⟨fun a u e n=>⟨by rw[L2.zS (fun z=>n.2 (by rw[z];exact ha))];exact e,n⟩,fun i a e=>e⟩
theorem HR.emit(hr:HR K mg ρ1 s1 H1)(ha:acc∈ρ1.h){xs:List L2.V}:HR K mg ρ1 s1 (L2.upd H1 acc (.lst xs)):=by
 have hno:=(hr.hid acc ha).2
 refine⟨hr.len,hr.nd,fun i vs e=>?_,fun a hm=>?_⟩
 . obtain⟨a,ys,e1,e2,q⟩:=hr.obj i vs e
   exact⟨a,ys,e1,by rw[L2.zS (fun z=>hno (by rw[←z];exact List.mem_of_getElem? e1))];exact e2,RDs.mv (ll ha _) q⟩
 . obtain⟨⟨ys,e⟩,n⟩:=hr.hid a hm
   by_cases z:a=acc
   . subst z;exact⟨⟨xs,L2.z8⟩,n⟩
   . exact⟨⟨ys,by rw[L2.zS z];exact e⟩,n⟩
theorem Lp.done(l:Lp acc ρ H ρ1 H1)(h0:HR K mg ρ s H)(hn:H acc=none)(hr:HR K mg ρ1 s1 H1){vs:List Val}{ys:List L2.V}(e:H1 acc=some (.lst ys))(q:RDs K mg ρ1 H1 vs ys){m:Bool}{Q:L2.VK}(w:yv K mg (RD K mg) ρ H (newList m vs s1) Q):Q (.ref acc) H1:=by
 have ha:=l.here
 have hacc:=(hr.hid acc ha).2
 have hnh:=(h0.new hn).2
 cases m with
 |false=>
  have mv:Mv ρ1 H1 ⟨ρ1.o,ρ.h⟩ H1:=⟨fun a u e n=>⟨e,n.1,fun z=>n.2 (by rw[l.hid];exact List.mem_cons_of_mem _ z)⟩,fun i a e=>e⟩
  refine w ⟨ρ1.o,ρ.h⟩ _ H1 ⟨l.pre,rfl,l.keep⟩ ⟨hr.len,hr.nd,fun i ws e=>?_,fun a hm=>?_⟩ (.lst ⟨hacc,hnh⟩ e (RDs.mv mv q))
  . obtain⟨a,zs,e1,e2,t⟩:=hr.obj i ws e
    exact⟨a,zs,e1,e2,RDs.mv mv t⟩
  . exact hr.hid a (by rw[l.hid];exact List.mem_cons_of_mem _ hm)
 |true=>
  have mv:Mv ρ1 H1 ⟨ρ1.o++[acc],ρ.h⟩ H1:=by
   refine⟨fun a u e n=>⟨e,fun hm=>?_,fun z=>n.2 (by rw[l.hid];exact List.mem_cons_of_mem _ z)⟩,fun i a e=>?_⟩
   . rcases List.mem_append.mp hm with hm|hm
     . exact n.1 hm
     . rw[List.mem_singleton.mp hm]at n;exact n.2 ha
   . show (ρ1.o++[acc])[i]?=_
     rw[List.getElem?_append_left (List.getElem?_eq_some_iff.mp e).1];exact e
  have rf:(ρ1.o++[acc])[s1.length]?=some acc:=by rw[←hr.len,List.getElem?_append_right (Nat.le_refl _)];simp
  refine w ⟨ρ1.o++[acc],ρ.h⟩ _ H1 ⟨?_,rfl,l.keep⟩ ⟨?_,?_,fun i ws q'=>?_,fun a hm=>?_⟩ (.ref rf)
  . obtain⟨new,e1,hnew⟩:=l.pre
    refine⟨new++[acc],by show ρ1.o++[acc]=_;rw[e1,List.append_assoc],fun a hm=>?_⟩
    rcases List.mem_append.mp hm with hm|hm
    . exact hnew a hm
    . rw[List.mem_singleton.mp hm];exact hn
  . show (ρ1.o++[acc]).length=(s1++[Cel.lst vs]).length
    rw[List.length_append,List.length_append,hr.len];rfl
  . show (ρ1.o++[acc]).Nodup
    rw[List.nodup_append]
    exact⟨hr.nd,by simp,fun a ha' b hb=>by rw[List.mem_singleton.mp hb];intro z;subst z;exact hacc ha'⟩
  . by_cases hi:i<s1.length
    . rw[List.getElem?_append_left hi]at q'
      obtain⟨a,zs,e1,e2,t⟩:=hr.obj i ws q'
      exact⟨a,zs,mv.get i a e1,e2,RDs.mv mv t⟩
    . have hi':i=s1.length:=by
       have:=(List.getElem?_eq_some_iff.mp q').1
       rw[List.length_append]at this
       simp at this;omega
      subst hi'
      rw[List.getElem?_append_right (Nat.le_refl _)]at q'
      simp at q'
      subst q'
      exact⟨acc,ys,rf,e,RDs.mv mv q⟩
  . obtain⟨x,n⟩:=hr.hid a (by rw[l.hid];exact List.mem_cons_of_mem _ hm)
    refine⟨x,fun z=>?_⟩
    rcases List.mem_append.mp z with z|z
    . exact n z
    . rw[List.mem_singleton.mp z]at hm;exact hnh hm
end
end M
end
section
namespace M
open PySem
section
variable {K:KF}{mg:Str→Option Value}
theorem oT{J:L2.It}{g:L2.TG}{tb:L2.TS}{D:L2.Ends}{σ:L2.St}{H:L2.Hp}{n:Nat}(Pv:Nat→L2.St→L2.Hp→Prop)(h0:Pv 0 σ H)(hd:∀σ H,Pv n σ H→J.stop n H∧D.nx σ H)
 (hs:∀i σ H,i<n→Pv i σ H→J.go i H∧∀x H',J.yld i H x H'→g x σ H' fun σ2 H2=>tb {D with nx:=Pv (i+1),ct:=Pv (i+1),bk:=D.nx} σ2 H2):L2.nH J g tb D σ H:=by
 refine⟨fun i m σ H=>m=n-i∧i≤n∧Pv i σ H,⟨n,by simp,Nat.zero_le _,h0⟩,?_⟩
 rintro i m σ H ⟨rfl,hi,p⟩
 by_cases hlt:i<n
 . obtain⟨a,b⟩:=hs i σ H hlt p
   exact .inr ⟨a,Pv (i+1),fun σ' H' p'=>⟨n-(i+1),by omega,rfl,hlt,p'⟩,b⟩
 . have e:i=n:=by omega
   subst e
   exact .inl (hd σ H p)
structure CS(K:KF)(mg:Str→Option Value)(acc:Addr)(ρ0:Own)(H0:L2.Hp)(a:List Val)(s:Sto)(env:Env)(ρ:Own)(σ:L2.St)(H:L2.Hp):Prop where
 lp:Lp acc ρ0 H0 ρ H
 hr:HR K mg ρ s H
 er:ER K mg ρ H env σ
 ac:∃ys,H acc=some (.lst ys)∧RDs K mg ρ H a ys
noncomputable def Grows(body:Env→Sto→List Val→Out (List Val × Env)):Prop:=∀e s a p s',body e s a=.ok p s'→a.length≤p.1.length
theorem tR{r:Src}{t:Tgt}{body:Env→Sto→List Val→Out (List Val × Env)}(hb:Grows body):∀{xs:List Val} {env:Env} {s:Sto} {a:List Val} {p:List Val × Env} {s':Sto},yh r t body xs env s a=.ok p s'→a.length≤p.1.length
 |[],env,s,a,p,s',h=>by
  rw[yh]at h
  split at h
  . cases h;exact Nat.le_refl _
  . cases h
 |x::xs,env,s,a,p,s',h=>by
  rw[yh]at h
  split at h
  . split at h
    . cases h
    . rename_i env' he
      cases hc:body env' s a with
      |ok q s1=>
       rw[hc]at h
       exact Nat.le_trans (hb _ _ _ _ _ hc) (tR hb h)
      |exc _ _ _=>rw[hc]at h;cases h
      |stuck=>rw[hc]at h;cases h
  . cases h
noncomputable def BodyOk(K:KF)(mg:Str→Option Value)(acc:Addr)(ρ0:Own)(H0:L2.Hp)(body:Env→Sto→List Val→Out (List Val × Env))(tb:L2.TS):Prop:=
 ∀(ρ:Own) (s:Sto) (H:L2.Hp) (env:Env) (σ:L2.St) (a:List Val) (p:List Val × Env) (s':Sto) (D:L2.Ends),CS K mg acc ρ0 H0 a s env ρ σ H→body env s a=.ok p s'→p.1.length≤zO →
  (∀ρ' H' σ',CS K mg acc ρ0 H0 p.1 s' p.2 ρ' σ' H'→Mv ρ H ρ' H'→D.nx σ' H')→tb D σ H
theorem uz{acc:Addr}{ρ0:Own}{H0:L2.Hp}{r:Src}{J:L2.It}{t:Tgt}{g:L2.TG}{body:Env→Sto→List Val→Out (List Val × Env)}{tb:L2.TS}{D:L2.Ends}{ρ:Own}{s:Sto}{H:L2.Hp}{env:Env}{σ:L2.St}{a:List Val}
 {p:List Val × Env} {sf:Sto} (W:Walk K mg ρ H r J) (TG:rl K mg t g) (hg:Grows body) (hb:BodyOk K mg acc ρ0 H0 body tb)
 (C:CS K mg acc ρ0 H0 a s env ρ σ H) (h:yh r t body r.xs env s a=.ok p sf) (hz:p.1.length≤zO) (fin:∀ρ' H' σ',CS K mg acc ρ0 H0 p.1 sf p.2 ρ' σ' H'→Mv ρ H ρ' H'→D.nx σ' H'):L2.nH J g tb D σ H:=by
 refine oT (n:=r.xs.length) (fun i σ2 H2=>∃ρ2 s2 env2 a2,CS K mg acc ρ0 H0 a2 s2 env2 ρ2 σ2 H2∧Mv ρ H ρ2 H2∧yh r t body (r.xs.drop i) env2 s2 a2=.ok p sf) ⟨ρ,s,env,a,C,Mv.refl,by rw[List.drop_zero];exact h⟩ ?_ ?_
 . rintro σ2 H2 ⟨ρ2,s2,env2,a2,C2,mv,h2⟩
   rw[List.drop_length,yh]at h2
   split at h2
   . rename_i ho
     cases h2
     exact⟨W.stop ρ2 H2 _ _ mv C2.hr ho rfl,fin ρ2 H2 σ2 C2 mv⟩
   . cases h2
 . rintro i σ2 H2 hi ⟨ρ2,s2,env2,a2,C2,mv,h2⟩
   rw[List.drop_eq_getElem_cons hi,yh]at h2
   split at h2
   . rename_i ho
     obtain⟨hgo,hy⟩:=W.go ρ2 H2 s2 i (r.xs[i]) mv C2.hr ho (List.getElem?_eq_getElem hi)
     refine⟨hgo,fun x H3 y=>?_⟩
     obtain⟨hH,rx⟩:=hy x H3 y
     split at h2
     . cases h2
     . rename_i env' he
       -- the item is there: perhaps a new thing
       have C3:CS K mg acc ρ0 H0 a2 s2 env2 ρ2 σ2 H3∧Mv ρ2 H2 ρ2 H3:=by
        rcases hH with e|⟨q,o,hq,e⟩
        . subst e;exact⟨C2,Mv.refl⟩
        . subst e
          have X:=Ext.new C2.hr hq o
          refine⟨⟨C2.lp.step C2.hr X,C2.hr.more hq o,C2.er.mono X,?_⟩,X.mv⟩
          obtain⟨ys,e1,e2⟩:=C2.ac
          exact⟨ys,by rw[L2.zS (L2.zY e1 hq)];exact e1,e2.mono X⟩
       refine TG ρ2 s2 H3 _ x env2 env' σ2 _ C3.1.hr rx C3.1.er he fun σ4 er4=>?_
       cases hc:body env' s2 a2 with
       |ok q s5=>
        rw[hc]at h2
        have hlen:q.1.length≤zO:=Nat.le_trans (tR hg h2) hz
        exact hb ρ2 s2 H3 env' σ4 a2 q s5 _ ⟨C3.1.lp,C3.1.hr,er4,C3.1.ac⟩ hc hlen fun ρ5 H5 σ5 C5 mv5=>⟨ρ5,s5,q.2,q.1,C5,(mv.trans C3.2).trans mv5,h2⟩
       |exc _ _ _=>rw[hc]at h2;cases h2
       |stuck=>rw[hc]at h2;cases h2
   . cases h2
end
section
variable (K:KF)(mg:Str→Option Value)(Φ:Calls)(G:Str→Option Val)
noncomputable def uE(e:Ex):L2.TE:=fun σ H Q=>∃env s,tV K mg env s (evE Φ G env e s) σ H Q
noncomputable def uT(e:Cn):L2.TT:=fun σ H Q=>∃env s,tT K mg env s (evT Φ G env e s) σ H Q
noncomputable def uI(it:Itb):L2.TI:=fun σ H R=>∃env s,tI (K:=K) (mg:=mg) env s (yq Φ G env it s) σ H R
noncomputable def uTs:Cns→List L2.TT
 |.nil=>[]
 |.cons e es=>uT K mg Φ G e::uTs es
end
section
variable {K:KF}{mg:Str→Option Value}{Φ:Calls}{G:Str→Option Val}
theorem WC{X:L2.Cx}{e:Ex}{E:Expr}(h:∀env s,L2.PE X E (tV X.K X.mg env s (evE Φ G env e s))):L2.PE X E (uE X.K X.mg Φ G e):=fun pins s σ H Q I ⟨env,t,q⟩=>h env t pins s σ H Q I q
theorem W7{X:L2.Cx}{e:Cn}{E:Expr}(h:∀env s,L2.PT X E (tT X.K X.mg env s (evT Φ G env e s))):L2.PT X E (uT X.K X.mg Φ G e):=fun pins s σ H Q I ⟨env,t,q⟩=>h env t pins s σ H Q I q
theorem YO{X:L2.Cx}{it:Itb}{tg E:Expr}(h:∀env s,L2.PI X tg E (tI (K:=X.K) (mg:=X.mg) env s (yq Φ G env it s))):L2.PI X tg E (uI X.K X.mg Φ G it):=fun pins s σ H Q I ⟨env,t,q⟩=>h env t pins s σ H Q I q
theorem nT{s2:Sto}{env:Env}{σ:L2.St}{b:Bool}{Q:Bool→L2.Hp→Prop}:∀{es:Cns} {ρ:Own} {s:Sto} {H:L2.Hp},HR K mg ρ s H→ER K mg ρ H env σ→xy Φ G env es s=.ok b s2 →
 (∀ρ' H',Ext ρ H ρ' H'→HR K mg ρ' s2 H'→Q b H')→L2.oA (uTs K mg Φ G es) σ H Q
 |.nil,ρ,s,H,hr,er,h,q=>by
  rw[xy]at h;cases h
  exact q ρ H Ext.refl hr
 |.cons e es,ρ,s,H,hr,er,h,q=>by
  rw[xy]at h
  refine⟨env,s,ρ,hr,er,?_⟩
  cases hc:evT Φ G env e s with
  |ok c s1=>
   rw[hc]at h
   intro ρ1 c' H1 x1 hr1 e1
   cases e1
   cases c with
   |true=>exact L2.n9 (nT hr1 (er.mono x1) h fun ρ' H' x' hr'=>q ρ' H' (x1.trans hr1 x') hr')
   |false=>
    simp only[za]at h
    cases h
    exact L2.n6 (q ρ1 H1 x1 hr1)
  |exc _ _ _=>rw[hc]at h;cases h
  |stuck=>rw[hc]at h;cases h
noncomputable def uo(Φ:Calls)(G:Str→Option Val)(elt:Ex)(ifs:Cns):Env→Sto→List Val→Out (List Val × Env):=fun e s' acc=>(xy Φ G e ifs s').bind fun b s2=>if b then (evE Φ G e elt s2).bind fun v s3=>.ok (acc++[v],e) s3 else .ok (acc,e) s2
theorem tX{elt:Ex}{ifs:Cns}:Grows (uo Φ G elt ifs):=by
 intro e s a p s' h
 unfold uo at h
 cases hc:xy Φ G e ifs s with
 |ok b s1=>
  rw[hc]at h
  cases b with
  |true=>
   simp only[za,if_true]at h
   cases hv:evE Φ G e elt s1 with
   |ok v s2=>rw[hv]at h;cases h;simp
   |exc _ _ _=>rw[hv]at h;cases h
   |stuck=>rw[hv]at h;cases h
  |false=>simp only[za]at h;cases h;exact Nat.le_refl _
 |exc _ _ _=>rw[hc]at h;cases h
 |stuck=>rw[hc]at h;cases h
theorem nU{acc:Addr}{ρ0:Own}{H0:L2.Hp}(hn:H0 acc=none){elt:Ex}{ifs:Cns}:BodyOk K mg acc ρ0 H0 (uo Φ G elt ifs) (L2.tTB (uTs K mg Φ G ifs) (L2.qp acc (uE K mg Φ G elt))):=by
 intro ρ s H env σ a p s' D C h hz q
 unfold uo at h
 cases hc:xy Φ G env ifs s with
 |ok b s1=>
  rw[hc]at h
  refine nT (ρ:=ρ) (s:=s) C.hr C.er hc fun ρ1 H1 x1 hr1=>?_
  have hacc1:∃ys,H1 acc=some (.lst ys)∧RDs K mg ρ1 H1 a ys:=by
   obtain⟨ys,e1,e2⟩:=C.ac
   exact⟨ys,x1.keep _ _ e1 (C.hr.hid acc C.lp.here).2,e2.mono x1⟩
  cases b with
  |true=>
   simp only[za,if_true]at h
   refine L2.n9 ⟨env,s1,ρ1,hr1,C.er.mono x1,?_⟩
   cases hv:evE Φ G env elt s1 with
   |ok v s2=>
    rw[hv]at h
    cases h
    intro ρ2 y H2 x2 hr2 r2
    have xx:=x1.trans hr1 x2
    have lp2:=C.lp.step C.hr xx
    obtain⟨ys,e1,e2⟩:=hacc1
    have e3:H2 acc=some (.lst ys):=x2.keep _ _ e1 (hr1.hid acc (C.lp.step C.hr x1).here).2
    have e4:=e2.mono x2
    have hl:ys.length<sizeLine:=by
     have h1:(a++[v]).length≤zO:=hz
     rw[List.length_append,e2.length,ya]at h1
     simp at h1;omega
    have mv2:=ll (H1:=H2) lp2.here (.lst (ys++[y]))
    refine⟨ys,e3,hl,q ρ2 _ σ ⟨lp2.emit hn _,hr2.emit lp2.here,⟨C.er.len,fun i v' e'=>?_⟩,⟨_,L2.z8,RDs.mv mv2 (e4.append (.cons r2 .nil))⟩⟩ (xx.mv.trans mv2)⟩
    obtain⟨u,h1,h2⟩:=(C.er.mono xx).at_ i v' e'
    exact⟨u,h1,RD.mv mv2 h2⟩
   |exc _ _ _=>rw[hv]at h;cases h
   |stuck=>rw[hv]at h;cases h
  |false=>
   simp only[za]at h
   cases h
   exact L2.n6 (q ρ1 H1 σ ⟨C.lp.step C.hr x1,hr1,C.er.mono x1,hacc1⟩ x1.mv)
 |exc _ _ _=>rw[hc]at h;cases h
 |stuck=>rw[hc]at h;cases h
theorem iB{ρ:Own}{H:L2.Hp}{env:Env}{σ:L2.St}(er:ER K mg ρ H env σ)(fr:List (Option Nat)):ER K mg ρ H (zN fr env) (L2.zN fr σ):=by
 refine⟨by unfold zN L2.zN;rw[List.length_map,List.length_map],fun i v e=>?_⟩
 unfold zN at e
 unfold L2.zN
 rw[List.getElem?_map]at e ⊢
 cases hf:fr[i]? with
 |none=>rw[hf]at e;cases e
 |some o=>
  rw[hf]at e
  cases o with
  |none=>cases e
  |some j=>
   have e':(env[j]?).join=some v:=Option.some.inj e
   have e2:env[j]?=some (some v):=by
    cases h1:env[j]? with
    |none=>rw[h1]at e';cases e'
    |some w=>rw[h1]at e';have:w=some v:=e';rw[this]
   obtain⟨x,h1,h2⟩:=er.at_ j v e2
   refine⟨x,?_,h2⟩
   show some ((σ[j]?).join)=_
   rw[h1];rfl
theorem qP{fr:List (Option Nat)}{it:Itb}{t:Tgt}{g:L2.TG}{ts:List L2.TT}{tb:Addr→L2.TB}{body:Env→Sto→List Val→Out (List Val × Env)}{m:Bool}{env:Env}{s:Sto}(TG:rl K mg t g)(hg:Grows body)
 (hb:∀acc ρ0 H0,H0 acc=none→BodyOk K mg acc ρ0 H0 body (L2.tTB ts (tb acc))) {σ:L2.St} {H:L2.Hp} {Q:L2.VK} {chk:Bool}
 (h:tV K mg env s ((yq Φ G env it s).bind fun r s1=>(yh r t body r.xs (zN fr env) s1 []).bind fun p s2=>if chk=true→p.1.length≤zO then newList m p.1 s2 else .stuck) σ H Q)
 (hlen:chk=false→∀r s1 p s2,yh r t body r.xs (zN fr env) s1 []=.ok p s2→p.1.length≤r.xs.length):L2.tU fr (uI K mg Φ G it) g ts tb σ H Q:=by
 obtain⟨ρ,hr,er,w⟩:=h
 refine⟨env,s,ρ,hr,er,?_⟩
 cases hi:yq Φ G env it s with
 |ok r s1=>
  rw[hi]at w
  simp only[za]at w
  intro ρ1 H1 J x1 hr1 W acc hacc
  cases hl:yh r t body r.xs (zN fr env) s1 [] with
  |ok p s2=>
   rw[hl]at w
   simp only[za]at w
   have hz:p.1.length≤zO∧yv K mg (RD K mg) ρ H (newList m p.1 s2) Q:=by
    by_cases hc:chk=true→p.1.length≤zO
    . rw[if_pos hc]at w
      refine⟨?_,w⟩
      cases chk with
      |true=>exact hc rfl
      |false=>exact Nat.le_trans (hlen rfl r s1 p s2 hl) W.len
    . rw[if_neg hc]at w;exact w.elim
   have mv:=l9 (ρ:=ρ1) hacc (.lst [])
   have ers:=iB (er.mono x1) fr
   refine uz (ρ0:=ρ1) (H0:=H1) (W.mv mv) TG hg (hb acc ρ1 H1 hacc) ⟨Lp.start hacc _,hr1.hide hacc,⟨ers.len,fun i v e=>?_⟩,⟨[],L2.z8,.nil⟩⟩ hl hz.1 fun ρ3 H3 σ3 C3 _=>?_
   . obtain⟨x,h1,h2⟩:=ers.at_ i v e
     exact⟨x,h1,RD.mv mv h2⟩
   . obtain⟨ys,e1,e2⟩:=C3.ac
     exact C3.lp.done hr1 hacc C3.hr e1 e2 (hz.2.mono x1 hr1)
  |exc _ _ _=>rw[hl]at w;exact w.elim
  |stuck=>rw[hl]at w;exact w.elim
 |exc _ _ _=>rw[hi]at w;exact w.elim
 |stuck=>rw[hi]at w;exact w.elim
theorem tG{r:Src}{t:Tgt}{elt:Ex}{ifs:Cns}:∀{xs:List Val} {env:Env} {s:Sto} {a:List Val} {p:List Val × Env} {s':Sto},yh r t (uo Φ G elt ifs) xs env s a=.ok p s'→p.1.length≤a.length+xs.length
 |[],env,s,a,p,s',h=>by
  rw[yh]at h
  split at h
  . cases h;exact Nat.le_refl _
  . cases h
 |x::xs,env,s,a,p,s',h=>by
  rw[yh]at h
  split at h
  . split at h
    . cases h
    . rename_i env' he
      cases hc:uo Φ G elt ifs env' s a with
      |ok q s1=>
       rw[hc]at h
       have h1:=tG h
       have h2:q.1.length≤a.length+1:=by
        unfold uo at hc
        cases h3:xy Φ G env' ifs s with
        |ok b s2=>
         rw[h3]at hc
         cases b with
         |true=>
          simp only[za,if_true]at hc
          cases h4:evE Φ G env' elt s2 with
          |ok v s3=>rw[h4]at hc;cases hc;simp
          |exc _ _ _=>rw[h4]at hc;cases hc
          |stuck=>rw[h4]at hc;cases hc
         |false=>simp only[za]at hc;cases hc;exact Nat.le_succ _
        |exc _ _ _=>rw[h3]at hc;cases hc
        |stuck=>rw[h3]at hc;cases hc
       rw[List.length_cons];omega
      |exc _ _ _=>rw[hc]at h;cases h
      |stuck=>rw[hc]at h;cases h
  . cases h
end
end M
end
section
namespace M
open PySem
noncomputable def bx(sc:Scope)(x:Str):Bool:=decide (sc.names.lookup x=some .local)||decide (sc.names.lookup x=some .cell)||decide (sc.names.lookup x=some .free)
noncomputable def uW(sc:Scope)(x:Str):Bool:=decide (sc.names.lookup x=some .globalImplicit)
noncomputable def wY:List Str:=["len","all","any","tuple","list","sorted","repr","max","min","sum","int","isinstance","divmod","str","bool","dict","set","range","enumerate","zip"]
noncomputable def Wi(y:Str)(n:String):Bool:=(decide (y="int")&&decide (n="int"))||(decide (y="bool")&&decide (n="bool"))||(decide (y="str")&&decide (n="str"))||(decide (y="list")&&decide (n="list"))||(decide (y="tuple")&&decide (n="tuple"))||(decide (y="dict")&&decide (n="dict"))
noncomputable def qM:Val→Expr→Bool
 |.none,.Constant .none _ _=>true
 |.bool b,.Constant (.bool c) _ _=>b == c
 |.int i,.Constant (.int j) _ _=>decide (i=j)
 |.str x,.Constant (.str y) _ _=>decide (x=y)
 |_,_=>false
mutual
noncomputable def ck(sc:Scope)(N:List Str):Ex→Expr→Bool
 |.lit v,e=>qM v e
 |.var i,e=>(match e with|.Name x _=>decide (N[i]?=some x)&&bx sc x&&!(x == ("__debug__":Str))&&!(x == ("__classdict__":Str))|_=>false)
 |.gl y,e=>(match e with|.Name x _=>decide (x=y)&&uW sc x&&!(x == ("__debug__":Str))|_=>false)
 |.ty y n,e=>(match e with|.Name x _=>decide (x=y)&&uW sc x&&Wi y n|_=>false)
 |.bin _ op a b,e=>(match e with|.BinOp l o r _=>decide (o=op.op)&&ck sc N a l&&ck sc N b r|_=>false)
 |.neg a,e=>(match e with|.UnaryOp .USub x _=>ck sc N a x|_=>false)
 |.not a,e=>(match e with|.UnaryOp .Not x _=>ck sc N a x|_=>false)
 |.cmp op a b,e=>(match e with|.Compare l [o] [r] _=>decide (o=op.op)&&ck sc N a l&&ck sc N b r&&plain r|_=>false)
 |.chain op op' a b c,e=>(match e with|.Compare l [o,o'] [r,r'] _=>decide (o=op.op)&&decide (o'=op'.op)&&ck sc N a l&&ck sc N b r&&ck sc N c r'&&plain r'|_=>false)
 |.andE a es,e=>(match e with|.BoolOp .And (x::xs) _=>ck sc N a x&&ckL sc N es xs|_=>false)
 |.orE _ _,_=>false
 |.ife _ _ _,_=>false
 |.tup es,e=>(match e with|.Tuple xs _ _=>ckL sc N es xs&&yZ xs|_=>false)
 |.lst _ es,e=>(match e with|.List xs _=>ckL sc N es xs&&yZ xs|_=>false)
 |.dct0,_=>false
 |.call f _ es,e=>(match e with|.Call (.Name x _) xs [] _=>decide (x=f)&&uW sc x&&!(x == ("__debug__":Str))&&ckL sc N es xs&&yZ xs|_=>false)
 |.blt f _ es,e=>(match e with|.Call (.Name x _) (y::ys) [] _=>decide (x=f.nm)&&uW sc x&&ckL sc N es (y::ys)&&yZ (y::ys)|_=>false)
 |.maxD _ _,_=>false
 |.yY f _ o es,e=>(match e with|.Call (.Attribute ob x ap) [y] [] cp=>decide (x=f.nm)&&ck sc N o ob&&ckL sc N es [y]&&plain y&&pW ob&&(ap.endLine == cp.line)|_=>false)
 |.ix a b,e=>(match e with|.Subscript l r _=>ck sc N a l&&ck sc N b r&&plain r|_=>false)
 |.sl _ a lo hi st,e=>(match e with|.Subscript l (.Slice x y z _) _=>ck sc N a l&&ckO sc N lo x&&ckO sc N hi y&&ckO sc N st z|_=>false)
 |.comp _ N' fr elt t it ifs,e=>(match e with|.ListComp x [⟨tg,iter,fs,0⟩] csc _=>L2.nj sc N N' csc fr&&decide N'.Nodup&&ckT csc N' t tg&&ckI sc N it iter tg&&nk csc N' ifs fs&&ck csc N' elt x&&plain iter|_=>false)
 |.comp2 _ _ _ _ _ _ _ _ _ _,_=>false
 |.listRange _ _ _ _,_=>false
noncomputable def ckL(sc:Scope)(N:List Str):Exs→List Expr→Bool
 |.nil,es=>(match es with|[]=>true|_=>false)
 |.cons a as,es=>(match es with|e::es=>ck sc N a e&&ckL sc N as es|_=>false)
noncomputable def ckO(sc:Scope)(N:List Str):OEx→Option Expr→Bool
 |.no,e=>(match e with|none=>true|_=>false)
 |.yes a,e=>(match e with|some e=>ck sc N a e|_=>false)
noncomputable def ckC(sc:Scope)(N:List Str):Cn→Expr→Bool
 |.val a,e=>ck sc N a e&&(plainT e||(match e with|.Compare ..=>true|_=>false))
 |.not c,e=>(match e with|.UnaryOp .Not x _=>ckC sc N c x|_=>false)
 |.and c cs,e=>(match e with|.BoolOp .And (x::xs) _=>ckC sc N c x&&nk sc N cs xs|_=>false)
 |.or c cs,e=>(match e with|.BoolOp .Or (x::xs) _=>ckC sc N c x&&nk sc N cs xs|_=>false)
noncomputable def nk(sc:Scope)(N:List Str):Cns→List Expr→Bool
 |.nil,es=>(match es with|[]=>true|_=>false)
 |.cons a as,es=>(match es with|e::es=>ckC sc N a e&&nk sc N as es|_=>false)
noncomputable def ckI(sc:Scope)(N:List Str):Itb→Expr→Expr→Bool
 |.val a,e,_=>ck sc N a e
 |.range1 a,e,_=>(match e with|.Call (.Name x _) [y] [] _=>decide (x="range")&&uW sc x&&ck sc N a y&&plain y|_=>false)
 |.range2 a b,e,_=>(match e with|.Call (.Name x _) [y,z] [] _=>decide (x="range")&&uW sc x&&ck sc N a y&&ck sc N b z&&plain y&&plain z|_=>false)
 |.enum a,e,tg=>(match e,tg with|.Call (.Name x _) [y] [] _,.Tuple _ _ _=>decide (x="enumerate")&&uW sc x&&ck sc N a y&&plain y|_,_=>false)
 |.zip _ _,_,_=>false
end
structure Ok(T:Tbl)(n:Nat)(sc:Scope)(N:List Str)(X:L2.Cx):Prop where
 calm:X.calm=true
 room:L2.y9 n X.A
 scp:Scp sc N X
 fns:∀f v F,T.fn f v=some F→Callee T n X f v F
 gls:∀x v,T.gl x=some v→∃u xv,X.mg x=some u∧L2.RelV xv u∧∀ρ H,RD X.K X.mg ρ H v xv
 blt:∀x∈wY,X.mg x=none
 xe:X.xe=fun _ _=>False
theorem br{sc:Scope}{N N':List Str}{csc:Scope}{fr:List (Option Nat)}{X:L2.Cx}(S:Scp sc N X)(h:L2.nj sc N N' csc fr=true):L2.yB X N' csc fr:=by
 unfold L2.nj at h
 simp only[Bool.and_eq_true,List.all_eq_true,Bool.or_eq_true,decide_eq_true_eq,List.mem_range]at h
 obtain⟨⟨⟨⟨⟨⟨a1,a2⟩,a3⟩,a4⟩,a5⟩,a6⟩,a7⟩:=h
 refine⟨a1,a2,fun x hx hk=>?_,fun x hx hk=>?_,a5,fun i j x e1 e2=>?_,fun x e1 e2=>?_⟩
 . rcases a3 x hx with z|z
   . exact absurd hk z
   . exact z
 . rcases a4 x hx with z|z
   . exact absurd hk z
   . exact S.cf x.1 z
 . have hi:i<N'.length:=(List.getElem?_eq_some_iff.mp e1).1
   have q:=a6 i hi
   rw[e1,e2]at q
   simp only[Bool.and_eq_true,decide_eq_true_eq,List.any_eq_true]at q
   obtain⟨q1,y,q2,q3,q4⟩:=q
   refine⟨by rw[S.hN];exact q1,?_⟩
   have:y=(x,NameKind.free):=Prod.ext q3 q4
   rw[←this];exact q2
 . rcases a7 (x,.free) e2 with z|z
   . exact z rfl
   . exact z e1
theorem wV{sc:Scope}{env:PySem.Env}{x:Str}(h:sc.names.lookup x=some .local):(relabel sc env).names.lookup x=some .local:=lookup_relabel_local h
theorem mi{sc:Scope}{env:PySem.Env}{x:Str}(h:sc.names.lookup x=some .globalImplicit):(relabel sc env).names.lookup x=some .globalImplicit:=by
 have key:∀(names:List (Str × NameKind)),names.lookup x=some .globalImplicit→(names.map fun(n,k)=>if (k == NameKind.free&&env.scope.kind == .function&&env.kindOf n == some .cell) then (n,NameKind.cell) else (n,k)).lookup x=some .globalImplicit:=by
  intro names
  induction names with
  |nil=>intro h;simp at h
  |cons p r ih=>
   obtain⟨n,k⟩:=p
   intro h
   rw[List.map_cons]
   dsimp only
   cases hx:(x == n) with
   |true=>
    rw[List.lookup_cons,hx]at h
    cases h
    have e:(NameKind.globalImplicit == NameKind.free)=false:=rfl
    rw[e]
    simp only[Bool.false_and,Bool.false_eq_true,if_false,List.lookup_cons,hx]
   |false=>
    rw[List.lookup_cons,hx]at h
    have:=ih h
    split<;>simpa only[List.lookup_cons,hx] using this
 exact key sc.names h
theorem Scp.comp{sc:Scope}{N N':List Str}{csc:Scope}{fr:List (Option Nat)}{X:L2.Cx}(S:Scp sc N X)(hc:L2.yB X N' csc fr)(nd:N'.Nodup)(C:Addr)(s0:Shared)(H0:L2.Hp)(ex:List Addr):Scp csc N' (X.comp N' csc C s0 H0 ex):=by
 have nocell:∀x,csc.names.lookup x≠some .cell:=fun x h=>hc.nocell _ (PySem.mem_of_lookup h) rfl
 refine⟨rfl,nd,fun x h=>?_,fun x h=>?_,fun x h=>?_,fun x h=>?_⟩
 . rcases h with h|h|h
   . exact .inl (wV h)
   . exact absurd h (nocell x)
   . exact(L2.uh hc.locals h).elim (fun z=>.inr (.inl z)) fun z=>.inr (.inr z)
 . rcases h with h|h
   . exact⟨.inl (wV h),.inr (wV h)⟩
   . exact absurd h (nocell x)
 . exact mi h
 . rcases h with h|h
   . exact absurd h (nocell x)
   . exact L2.uh hc.locals h
theorem Callee.comp{T:Tbl}{n:Nat}{X:L2.Cx}{f:Str}{v:Nat}{F:Fn}(c:Callee T n X f v F)(N':List Str)(csc:Scope)(C:Addr)(s0:Shared)(H0:L2.Hp)(ex:List Addr):Callee T n (X.comp N' csc C s0 H0 ex) f v F:=⟨c.ex⟩
theorem Ok.comp{T:Tbl}{n:Nat}{sc:Scope}{N N':List Str}{csc:Scope}{fr:List (Option Nat)}{X:L2.Cx}(o:Ok T n sc N X)(hc:L2.yB X N' csc fr)(nd:N'.Nodup)(C:Addr)(s0:Shared)(H0:L2.Hp)(ex:List Addr):Ok T n csc N' (X.comp N' csc C s0 H0 ex):=
 ⟨o.calm,o.room,o.scp.comp hc nd C s0 H0 ex,fun f v F h=>(o.fns f v F h).comp N' csc C s0 H0 ex,o.gls,o.blt,rfl⟩
end M
end
section
namespace M
open PySem
section
variable {T:Tbl}{n:Nat}
noncomputable def JE(T:Tbl)(n:Nat)(a:Ex):Prop:=∀(sc:Scope) (N:List Str) (X:L2.Cx) (e:Expr),Ok T n sc N X→ck sc N a e=true→∀env s,L2.PE X e (tV X.K X.mg env s (evE (zL T n) T.gl env a s))
noncomputable def JL(T:Tbl)(n:Nat)(a:Exs):Prop:=∀(sc:Scope) (N:List Str) (X:L2.Cx) (es:List Expr),Ok T n sc N X→ckL sc N a es=true →
 (yZ es=true→∀env s,L2.PA X es (tVs X.K X.mg env s (yp (zL T n) T.gl env a s))) ∧
 (∀e es' pos,es=e::es'→∀env s,L2.PE X (.BoolOp .And es pos) (tV X.K X.mg env s (tQ (zL T n) T.gl env a s))) ∧
 (∀e es' pos,es=e::es'→∀env s,L2.PE X (.BoolOp .Or es pos) (tV X.K X.mg env s (oR (zL T n) T.gl env a s))) ∧
 (∀y,es=[y]→plain y=true→∃b,a=.cons b .nil∧∀env s,L2.PE X y (tV X.K X.mg env s (evE (zL T n) T.gl env b s)))
noncomputable def JO(T:Tbl)(n:Nat)(a:OEx):Prop:=∀(sc:Scope) (N:List Str) (X:L2.Cx) (e:Option Expr),Ok T n sc N X→ckO sc N a e=true→(∀env s,L2.PO X e (tO X.K X.mg env s (evO (zL T n) T.gl env a s))) ∧
 ((e=none∧∀env s1,evO (zL T n) T.gl env a s1=.ok none s1)∨∃e',e=some e'∧∀env s1 s2,evO (zL T n) T.gl env a s1≠.ok none s2)
noncomputable def JC(T:Tbl)(n:Nat)(a:Cn):Prop:=∀(sc:Scope) (N:List Str) (X:L2.Cx) (e:Expr),Ok T n sc N X→ckC sc N a e=true→∀env s,L2.PT X e (tT X.K X.mg env s (evT (zL T n) T.gl env a s))
noncomputable def JCs(T:Tbl)(n:Nat)(a:Cns):Prop:=∀(sc:Scope) (N:List Str) (X:L2.Cx) (es:List Expr),Ok T n sc N X→nk sc N a es=true →
 (∀pos env s,L2.PW X (.BoolOp .And es pos) (tT X.K X.mg env s (xy (zL T n) T.gl env a s)))∧(∀pos env s,L2.PW X (.BoolOp .Or es pos) (tT X.K X.mg env s (uO (zL T n) T.gl env a s)))∧L2.PTs X es (uTs X.K X.mg (zL T n) T.gl a)
noncomputable def JI(T:Tbl)(n:Nat)(a:Itb):Prop:=∀(sc:Scope) (N:List Str) (X:L2.Cx) (e tg:Expr),Ok T n sc N X→ckI sc N a e tg=true→∀env s,L2.PI X tg e (tI (K:=X.K) (mg:=X.mg) env s (yq (zL T n) T.gl env a s))
theorem ZS{v:Val}:JE T n (.lit v):=by
 intro sc N X e o h env s
 simp only[ck]at h
 show L2.PE X e (tV X.K X.mg env s (.ok v s))
 unfold qM at h
 split at h
 . exact zx L2.YI fun σ H Q ⟨ρ,hr,er,w⟩=>zH hr .none w
 . have h':=(beq_iff_eq.mp h);subst h'
   exact zx L2.X6 fun σ H Q ⟨ρ,hr,er,w⟩=>zH hr (.bool _) w
 . have h':=of_decide_eq_true h;subst h'
   exact zx L2.YG fun σ H Q ⟨ρ,hr,er,w⟩=>zH hr (.int _) w
 . have h':=of_decide_eq_true h;subst h'
   exact zx L2.YK fun σ H Q ⟨ρ,hr,er,w⟩=>zH hr (.str _) w
 . cases h
theorem ZW{i:Nat}:JE T n (.var i):=by
 intro sc N X e o h env s
 simp only[ck]at h
 split at h
 . rename_i x p
   simp only[Bool.and_eq_true,decide_eq_true_eq,bx,Bool.or_eq_true,Bool.not_eq_true']at h
   obtain⟨⟨⟨h1,h2⟩,h3⟩,h4⟩:=h
   have hv:L2.Vis X.env.scope x:=o.scp.vis x (by rcases h2 with (z|z)|z;exact .inl z;exact .inr (.inl z);exact .inr (.inr z))
   show L2.PE X _ (tV X.K X.mg env s (match env[i]? with|some (some v)=>.ok v s|_=>.stuck))
   refine zx (L2.YM (i:=i) (by rw[o.scp.hN];exact h1) hv h3 h4) fun σ H Q ⟨ρ,hr,er,w⟩=>?_
   split at w
   . rename_i v e
     obtain⟨x',h5,h6⟩:=er.at_ i v e
     exact⟨x',h5,zH hr h6 w⟩
   . exact w.elim
 . cases h
theorem XT{y:Str}:JE T n (.gl y):=by
 intro sc N X e o h env s
 simp only[ck]at h
 split at h
 . rename_i x p
   simp only[Bool.and_eq_true,decide_eq_true_eq,uW,Bool.not_eq_true']at h
   obtain⟨⟨h1,h2⟩,h3⟩:=h
   subst h1
   show L2.PE X _ (tV X.K X.mg env s (match T.gl x with|some v=>.ok v s|Option.none=>.stuck))
   cases hv:T.gl x with
   |none=>exact zK (fun _ _ e=>by cases e)
   |some v=>
    obtain⟨u,xv,e1,e2,e3⟩:=o.gls x v hv
    exact zx (L2.cZ (o.scp.gl x h2) e1 e2 h3) fun σ H Q ⟨ρ,hr,er,w⟩=>zH hr (e3 ρ H) w
 . cases h
theorem XX{y:Str}{m:String}:JE T n (.ty y m):=by
 intro sc N X e o h env s
 simp only[ck]at h
 split at h
 . rename_i x p
   simp only[Bool.and_eq_true,decide_eq_true_eq,uW]at h
   obtain⟨⟨h1,h2⟩,h3⟩:=h
   subst h1
   show L2.PE X _ (tV X.K X.mg env s (.ok (.ty m) s))
   have key:x∈wY∧bootBuiltins x=some (.type m)∧x≠"__name__"∧(x == ("__debug__":Str))=false:=by
    unfold Wi at h3
    simp only[Bool.or_eq_true,Bool.and_eq_true,decide_eq_true_eq]at h3
    rcases h3 with ((((⟨rfl,rfl⟩|⟨rfl,rfl⟩)|⟨rfl,rfl⟩)|⟨rfl,rfl⟩)|⟨rfl,rfl⟩)|⟨rfl,rfl⟩
    . exact⟨by decide,PyProof.Rows.boot_int,by decide,by decide⟩
    . exact⟨by decide,PyProof.Rows.boot_bool,by decide,by decide⟩
    . exact⟨by decide,PyProof.Rows.boot_str,by decide,by decide⟩
    . exact⟨by decide,PyProof.Rows.boot_list,by decide,by decide⟩
    . exact⟨by decide,PyProof.Rows.boot_tuple,by decide,by decide⟩
    . exact⟨by decide,PyProof.Rows.boot_dict,by decide,by decide⟩
   exact zx (L2.WB (o.scp.gl x h2) (o.blt x key.1) key.2.1 key.2.2.1 key.2.2.2) fun σ H Q ⟨ρ,hr,er,w⟩=>zH hr (.ty _) w
 . cases h
theorem oN{op:Cop}{x y v:Val}{s s':Sto}(h:zV op x y s=.ok v s'):∃b,v=.bool b:=by
 unfold zV at h
 split at h<;>(split at h<;>first|(cases h;exact⟨_,rfl⟩)|cases h|(split at h<;>first|(cases h;exact⟨_,rfl⟩)|cases h|(split at h<;>first|(cases h;exact⟨_,rfl⟩)|cases h)))
theorem rg{K:KF}{mg:Str→Option Value}{ρ:Own}{H:L2.Hp}{o:Out Val}{Q:Bool→L2.Hp→Prop}(hb:∀v s',o=.ok v s'→∃b,v=.bool b)(w:yv K mg (fun _ _ a b=>a=b) ρ H o.truth Q):yv K mg (RD K mg) ρ H o fun x H'=>∃k,x=.bl k∧Q k H':=by
 cases o with
 |ok v s1=>
  obtain⟨b,rfl⟩:=hb v s1 rfl
  intro ρ1 x H1 x1 hr1 r1
  cases r1
  exact⟨b,rfl,w _ _ _ x1 hr1 rfl⟩
 |exc _ _ _=>exact w
 |stuck=>exact w
theorem Zb{X:L2.Cx}{env:Env}{s:Sto}{a b:Expr}{op:Cop}{o:Out Val}{f2:Sto→Out Val}{k:Nat}{pos:Pos}(hr0:L2.y9 k X.A)(h1:L2.PE X a (tV X.K X.mg env s o))(h2:∀s1,L2.PE X b (tV X.K X.mg env s1 (f2 s1)))(hm:plain b=true) :
 L2.PT X (.Compare a [op.op] [b] pos) (tT X.K X.mg env s (o.bind fun x s1=>(f2 s1).bind fun y s2=>zV op x y s2).truth):=by
 cases o with
 |ok v s1=>
  have h2':=h2 s1
  show L2.PT X _ (tT X.K X.mg env s ((f2 s1).bind fun y s2=>zV op v y s2).truth)
  cases hb:f2 s1 with
  |ok w s2=>
   rw[hb]at h2'
   exact ph (L2.cz (tD hr0 op) h1 h2' (vD hm)) fun σ H Q ⟨ρ,hr,er,wt⟩=>⟨ρ,hr,er,fun ρ1 x H1 x1 hr1 r1=>⟨ρ1,hr1,er.mono x1,fun ρ2 y H2 x2 hr2 r2=>⟨ρ2,s2,v,w,hr2,r1.mono x2,r2,rg (fun _ _ h=>oN h) (wt.mono (x1.trans hr1 x2) hr2)⟩⟩⟩
  |exc _ _ _=>exact z7 (fun _ _ e=>by cases e)
  |stuck=>exact z7 (fun _ _ e=>by cases e)
 |exc _ _ _=>exact z7 (fun _ _ e=>by cases e)
 |stuck=>exact z7 (fun _ _ e=>by cases e)
theorem gR{X:L2.Cx}{env:Env}{s:Sto}{a b c:Expr}{op op':Cop}{o:Out Val}{f2 f3:Sto→Out Val}{k:Nat}{pos:Pos}(hr0:L2.y9 k X.A)(h1:L2.PE X a (tV X.K X.mg env s o))(h2:∀s1,L2.PE X b (tV X.K X.mg env s1 (f2 s1)))(h3:∀s1,L2.PE X c (tV X.K X.mg env s1 (f3 s1)))(hm:plain c=true) :
 L2.PT X (.Compare a [op.op,op'.op] [b,c] pos) (tT X.K X.mg env s (o.bind fun x s1=>(f2 s1).bind fun y s2=>(zV op x y s2).bind fun r s3=>match r with
  |.bool true=>(f3 s3).bind fun z s4=>zV op' y z s4
  |.bool false=>.ok (.bool false) s3
  |_=>.stuck).truth):=by
 cases o with
 |ok v s1=>
  have h2':=h2 s1
  show L2.PT X _ (tT X.K X.mg env s ((f2 s1).bind _).truth)
  cases hb:f2 s1 with
  |ok w s2=>
   rw[hb]at h2'
   show L2.PT X _ (tT X.K X.mg env s ((zV op v w s2).bind _).truth)
   cases hc:zV op v w s2 with
   |ok r s3=>
    cases r with
    |bool t=>
     have h3':=h3 s3
     have rule:=L2.fW (pos:=pos) (tD hr0 op) (tD hr0 op') h1 h2' h3' (show lastMarks [op.op,op'.op] [b,c]=false from vD hm)
     refine ph rule fun σ H Q ⟨ρ,hr,er,wt⟩=>⟨ρ,hr,er,fun ρ1 x H1 x1 hr1 r1=>⟨ρ1,hr1,er.mono x1,fun ρ2 y H2 x2 hr2 r2=>⟨ρ2,s2,v,w,hr2,r1.mono x2,r2,?_⟩⟩⟩
     rw[hc]
     intro ρ3 z H3 x3 hr3 r3
     cases r3
     refine⟨t,rfl,?_⟩
     have xx:=(x1.trans hr1 x2).trans hr2 x3
     have wt':=wt.mono xx hr3
     cases t with
     |true=>
      rw[if_pos rfl]
      refine⟨ρ3,hr3,er.mono xx,?_⟩
      have wt2:yv X.K X.mg (fun _ _ a b=>a=b) ρ3 H3 ((f3 s3).bind fun z s4=>zV op' w z s4).truth Q:=wt'
      cases hz:f3 s3 with
      |ok u s4=>
       rw[hz]at wt2
       exact fun ρ4 q H4 x4 hr4 r4=>⟨ρ4,s4,w,u,hr4,(r2.mono x3).mono x4,r4,rg (fun _ _ h=>oN h) (wt2.mono x4 hr4)⟩
      |exc _ _ _=>rw[hz]at wt2;exact wt2
      |stuck=>rw[hz]at wt2;exact wt2
     |false=>
      rw[if_neg Bool.false_ne_true]
      exact⟨false,rfl,wt' _ _ _ Ext.refl hr3 rfl⟩
    |_=>exact z7 (fun _ _ e=>by cases e)
   |exc _ _ _=>exact z7 (fun _ _ e=>by cases e)
   |stuck=>exact z7 (fun _ _ e=>by cases e)
  |exc _ _ _=>exact z7 (fun _ _ e=>by cases e)
  |stuck=>exact z7 (fun _ _ e=>by cases e)
 |exc _ _ _=>exact z7 (fun _ _ e=>by cases e)
 |stuck=>exact z7 (fun _ _ e=>by cases e)
theorem ZQ{op:Cop}{a b:Ex}(ja:JE T n a)(jb:JE T n b):JC T n (.val (.cmp op a b)):=by
 intro sc N X e o h env s
 simp only[ckC,Bool.and_eq_true,ck]at h
 obtain⟨h1,_⟩:=h
 split at h1
 . simp only[Bool.and_eq_true,decide_eq_true_eq]at h1
   obtain⟨⟨⟨rfl,h3⟩,h4⟩,h5⟩:=h1
   exact Zb o.room (ja _ _ _ _ o h3 env s) (fun s1=>jb _ _ _ _ o h4 env s1) h5
 . cases h1
theorem gH{op op':Cop}{a b c:Ex}(ja:JE T n a)(jb:JE T n b)(jc:JE T n c):JC T n (.val (.chain op op' a b c)):=by
 intro sc N X e o h env s
 simp only[ckC,Bool.and_eq_true,ck]at h
 obtain⟨h1,_⟩:=h
 split at h1
 . simp only[Bool.and_eq_true,decide_eq_true_eq]at h1
   obtain⟨⟨⟨⟨⟨rfl,rfl⟩,h3⟩,h4⟩,h5⟩,h6⟩:=h1
   exact gR o.room (ja _ _ _ _ o h3 env s) (fun s1=>jb _ _ _ _ o h4 env s1) (fun s1=>jc _ _ _ _ o h5 env s1) h6
 . cases h1
noncomputable def XI:Ex→Bool
 |.cmp ..|.chain ..=>true
 |_=>false
theorem yA{a:Ex}(ja:JE T n a)(hn:XI a=false):JC T n (.val a):=by
 intro sc N X e o h env s
 simp only[ckC,Bool.and_eq_true,Bool.or_eq_true]at h
 obtain⟨h1,h2⟩:=h
 have je:=ja sc N X e o h1 env s
 rcases h2 with h2|h2
 . exact Zd h2 je
 . split at h2
   . cases a<;>first|(cases hn;done)|(simp only[ck,qM]at h1;cases h1;done)|(simp only[ck,qM]at h1;split at h1<;>first|(rename_i heq;cases heq;done)|(cases h1;done))
   . cases h2
end
end M
end
section
namespace M
open PySem
section
variable {T:Tbl}{n:Nat}
theorem ZC{m:Bool}{op:Bop}{a b:Ex}(ja:JE T n a)(jb:JE T n b):JE T n (.bin m op a b):=by
 intro sc N X e o h env s
 simp only[ck]at h
 split at h
 . simp only[Bool.and_eq_true,decide_eq_true_eq]at h
   obtain⟨⟨rfl,h1⟩,h2⟩:=h
   exact aV (ja _ _ _ _ o h1 env s) (fun s1=>jb _ _ _ _ o h2 env s1) fun ta tb pa pb=>L2.X9 (Zs m op) pa pb
 . cases h
theorem ZG{a:Ex}(ja:JE T n a):JE T n (.neg a):=by
 intro sc N X e o h env s
 simp only[ck]at h
 split at h
 . exact ZU (ja _ _ _ _ o h env s)
 . cases h
theorem ZH{a:Ex}(ja:JE T n a):JE T n (.not a):=by
 intro sc N X e o h env s
 simp only[ck]at h
 split at h
 . exact ZV (ja _ _ _ _ o h env s)
 . cases h
theorem ZE{op:Cop}{a b:Ex}(ja:JE T n a)(jb:JE T n b):JE T n (.cmp op a b):=by
 intro sc N X e o h env s
 simp only[ck]at h
 split at h
 . simp only[Bool.and_eq_true,decide_eq_true_eq]at h
   obtain⟨⟨⟨rfl,h1⟩,h2⟩,h3⟩:=h
   exact aV (ja _ _ _ _ o h1 env s) (fun s1=>jb _ _ _ _ o h2 env s1) fun ta tb pa pb=>L2.cY (tD o.room op) pa pb (vD h3)
 . cases h
theorem gD{op op':Cop}{a b c:Ex}(ja:JE T n a)(jb:JE T n b)(jc:JE T n c):JE T n (.chain op op' a b c):=by
 intro sc N X e o h env s
 simp only[ck]at h
 split at h
 . simp only[Bool.and_eq_true,decide_eq_true_eq]at h
   obtain⟨⟨⟨⟨⟨rfl,rfl⟩,h3⟩,h4⟩,h5⟩,h6⟩:=h
   exact gK o.room (ja _ _ _ _ o h3 env s) (fun s1=>jb _ _ _ _ o h4 env s1) (fun s1=>jc _ _ _ _ o h5 env s1) h6
 . cases h
theorem ZA{a:Ex}{es:Exs}(ja:JE T n a)(jl:JL T n es):JE T n (.andE a es):=by
 intro sc N X e o h env s
 simp only[ck]at h
 split at h
 . rename_i x xs pos
   simp only[Bool.and_eq_true]at h
   obtain⟨h1,h2⟩:=h
   cases es with
   |nil=>
    simp only[ckL]at h2
    split at h2
    . exact L2.mZ (ja _ _ _ _ o h1 env s)
    . cases h2
   |cons b es'=>
    cases xs with
    |nil=>cases h2
    |cons y ys=>exact gI (ja _ _ _ _ o h1 env s) fun s1=>(jl _ _ _ _ o h2).2.1 y ys pos rfl env s1
 . cases h
theorem ZI{es:Exs}(jl:JL T n es):JE T n (.tup es):=by
 intro sc N X e o h env s
 simp only[ck]at h
 split at h
 . simp only[Bool.and_eq_true]at h
   exact gM ((jl _ _ _ _ o h.1).1 h.2 env s)
 . cases h
theorem ZF{m:Bool}{es:Exs}(jl:JL T n es):JE T n (.lst m es):=by
 intro sc N X e o h env s
 simp only[ck]at h
 split at h
 . simp only[Bool.and_eq_true]at h
   exact ZT ((jl _ _ _ _ o h.1).1 h.2 env s)
 . cases h
theorem nh{f:Str}{ver:Nat}(h:T.fn f ver=none)(vs:List Val)(s:Sto):zL T n f ver vs s=.stuck:=by
 cases n with
 |zero=>rfl
 |succ n=>simp only[zL,h]
theorem dR{f:Str}{ver:Nat}{es:Exs}(jl:JL T n es):JE T n (.call f ver es):=by
 intro sc N X e o h env s
 simp only[ck]at h
 split at h
 . rename_i x p xs pos
   simp only[Bool.and_eq_true,decide_eq_true_eq,uW,Bool.not_eq_true']at h
   obtain⟨⟨⟨⟨rfl,h2⟩,h3⟩,h4⟩,h5⟩:=h
   show L2.PE X _ (tV X.K X.mg env s ((yp (zL T n) T.gl env es s).bind fun vs s1=>zL T n x ver vs s1))
   cases hf:T.fn x ver with
   |none=>
    refine zK fun v s' e=>?_
    cases hv:yp (zL T n) T.gl env es s with
    |ok vs s1=>rw[hv]at e;simp only[za,nh hf]at e;cases e
    |exc _ _ _=>rw[hv]at e;cases e
    |stuck=>rw[hv]at e;cases e
   |some F=>
    have C:=o.fns x ver F hf
    cases xs with
    |nil=>
     cases es with
     |nil=>exact gJ C o.room (o.scp.gl x h2) h3
     |cons _ _=>cases h4
    |cons y ys=>exact de C o.room (o.scp.gl x h2) h3 h5 (by simp) ((jl _ _ _ _ o h4).1 h5 env s)
 . cases h
theorem aU(f:Bf):f.nm∈wY:=by cases f<;>decide
theorem ZD{f:Bf}{m:Bool}{es:Exs}(jl:JL T n es):JE T n (.blt f m es):=by
 intro sc N X e o h env s
 simp only[ck]at h
 split at h
 . rename_i x p y ys pos
   simp only[Bool.and_eq_true,decide_eq_true_eq,uW]at h
   obtain⟨⟨⟨rfl,h2⟩,h3⟩,h4⟩:=h
   exact ZR o.calm o.room (o.scp.gl _ h2) (o.blt _ (aU f)) h4 ((jl _ _ _ _ o h3).1 h4 env s)
 . cases h
theorem dU{f:Mf}{m:Bool}{a:Ex}{es:Exs}(ja:JE T n a)(jl:JL T n es):JE T n (.yY f m a es):=by
 intro sc N X e o h env s
 simp only[ck]at h
 split at h
 . rename_i ob x ap y cp
   simp only[Bool.and_eq_true,decide_eq_true_eq]at h
   obtain⟨⟨⟨⟨⟨rfl,h1⟩,h2⟩,h3⟩,h4⟩,h5⟩:=h
   obtain⟨b,rfl,jb⟩:=(jl _ _ _ _ o h2).2.2.2 y rfl h3
   exact gL h4 h3 h5 (ja _ _ _ _ o h1 env s) fun s1=>jb env s1
 . cases h
theorem XN{a b:Ex}(ja:JE T n a)(jb:JE T n b):JE T n (.ix a b):=by
 intro sc N X e o h env s
 simp only[ck]at h
 split at h
 . simp only[Bool.and_eq_true]at h
   exact aV (ja _ _ _ _ o h.1.1 env s) (fun s1=>jb _ _ _ _ o h.1.2 env s1) fun ta tb pa pb=>L2.X7 XJ pa pb (fP h.2)
 . cases h
theorem XO{m:Bool}{a:Ex}{lo hi st:OEx}(ja:JE T n a)(j1:JO T n lo)(j2:JO T n hi)(j3:JO T n st):JE T n (.sl m a lo hi st):=by
 intro sc N X e o h env s
 simp only[ck]at h
 split at h
 . simp only[Bool.and_eq_true]at h
   obtain⟨⟨⟨h1,h2⟩,h3⟩,h4⟩:=h
   obtain⟨p3,q3⟩:=j3 _ _ _ _ o h4
   refine XW (ja _ _ _ _ o h1 env s) (fun s1=>(j1 _ _ _ _ o h2).1 env s1) (fun s1=>(j2 _ _ _ _ o h3).1 env s1) (fun s1=>p3 env s1) ?_
   rcases q3 with⟨e1,e2⟩|⟨e',e1,e2⟩
   . exact .inl ⟨e1,fun s1=>e2 env s1⟩
   . exact .inr ⟨e',e1,fun s1 s2=>e2 env s1 s2⟩
 . cases h
theorem dS{m:Bool}{N':List Str}{fr:List (Option Nat)}{elt:Ex}{t:Tgt}{it:Itb}{ifs:Cns}(je:JE T n elt)(ji:JI T n it)(jc:JCs T n ifs):JE T n (.comp m N' fr elt t it ifs):=by
 intro sc N X e o h env s
 simp only[ck]at h
 split at h
 . rename_i x tg iter fs csc cpos
   simp only[Bool.and_eq_true,decide_eq_true_eq]at h
   obtain⟨⟨⟨⟨⟨⟨h1,h2⟩,h3⟩,h4⟩,h5⟩,h6⟩,h7⟩:=h
   have S:=br o.scp h1
   have oc:=o.comp S h2
   obtain⟨g,pg,tg'⟩:∃g,(∀C s0 H0 ex,L2.PG (X.comp N' csc C s0 H0 ex) tg g)∧rl X.K X.mg t g:=by
    cases t with
    |nm i=>
     cases tg with
     |Name y p=>
      simp only[ckT,Bool.and_eq_true,Bool.or_eq_true,decide_eq_true_eq]at h3
      exact⟨_,fun C s0 H0 ex=>kO (oc C s0 H0 ex).scp h3.1 h3.2,oB⟩
     |_=>cases h3
    |nms is=>
     cases tg with
     |Tuple es k p=>
      simp only[ckT,Bool.and_eq_true,decide_eq_true_eq]at h3
      refine⟨_,fun C s0 H0 ex=>?_,vW (is:=is)⟩
      obtain⟨a,b,c⟩:=x8 (oc C s0 H0 ex).scp h3.1
      exact L2.rQ (X:=X.comp N' csc C s0 H0 ex) o.calm a b c
     |_=>cases h3
   have rule:L2.PE X (.ListComp x [⟨tg,iter,fs,0⟩] csc cpos) (L2.tU fr (uI X.K X.mg (zL T n) T.gl it) g (uTs X.K X.mg (zL T n) T.gl ifs) fun acc=>L2.qp acc (uE X.K X.mg (zL T n) T.gl elt)):=
    L2.kN o.calm S (YO fun env s=>ji _ _ _ _ _ o h4 env s) pg (fun C s0 H0 ex=>(jc _ _ _ _ (oc C s0 H0 ex) h5).2.2) (fun C s0 H0 ex=>WC (X:=X.comp N' csc C s0 H0 ex) fun env s=>je _ _ _ _ (oc C s0 H0 ex) h6 env s) (vC h7)
   refine zx rule fun σ H Q hq=>qP (env:=env) (s:=s) (chk:=false) (m:=m) (body:=uo (zL T n) T.gl elt ifs) tg' tX (fun acc ρ0 H0 hn=>nU hn) ?_ fun _ r s1 p s2 hl=>?_
   . simp only[Bool.false_eq_true,false_implies,if_true];exact hq
   . have:=tG hl
     simpa using this
 . cases h
theorem ZK:JL T n .nil:=by
 intro sc N X es o h
 simp only[ckL]at h
 split at h
 . exact⟨fun _ env s=>dg,⟨fun e es' pos z=>(nomatch z),⟨fun e es' pos z=>(nomatch z),fun y z=>(nomatch z)⟩⟩⟩
 . cases h
theorem dX{a:Ex}{as:Exs}(ja:JE T n a)(jl:JL T n as):JL T n (.cons a as):=by
 intro sc N X es o h
 simp only[ckL]at h
 split at h
 . rename_i e es
   simp only[Bool.and_eq_true]at h
   obtain⟨h1,h2⟩:=h
   obtain⟨l1,l2,l3,l4⟩:=jl _ _ _ _ o h2
   refine⟨fun hp env s=>?_,fun e' es' pos z env s=>?_,fun e' es' pos z env s=>?_,fun y z hp=>?_⟩
   . rw[yZ,Bool.and_eq_true]at hp
     exact gN hp.1 (ja _ _ _ _ o h1 env s) fun s1=>l1 hp.2 env s1
   . cases as with
     |nil=>
      simp only[ckL]at h2
      split at h2
      . exact L2.mZ (ja _ _ _ _ o h1 env s)
      . cases h2
     |cons b as'=>
      cases es with
      |nil=>cases h2
      |cons y ys=>exact gI (ja _ _ _ _ o h1 env s) fun s1=>l2 y ys pos rfl env s1
   . cases as with
     |nil=>
      simp only[ckL]at h2
      split at h2
      . exact L2.mZ (ja _ _ _ _ o h1 env s)
      . cases h2
     |cons b as'=>
      cases es with
      |nil=>cases h2
      |cons y ys=>exact XU (ja _ _ _ _ o h1 env s) fun s1=>l3 y ys pos rfl env s1
   . cases z
     cases as with
     |nil=>exact⟨a,rfl,fun env s=>ja _ _ _ _ o h1 env s⟩
     |cons _ _=>cases h2
 . cases h
theorem XQ:JO T n .no:=by
 intro sc N X e o h
 simp only[ckO]at h
 split at h
 . exact⟨fun env s=>XY,.inl ⟨rfl,fun env s1=>rfl⟩⟩
 . cases h
theorem ZL{a:Ex}(ja:JE T n a):JO T n (.yes a):=by
 intro sc N X e o h
 simp only[ckO]at h
 split at h
 . refine⟨fun env s=>ZY (ja _ _ _ _ o h env s),.inr ⟨_,rfl,fun env s1 s2 z=>?_⟩⟩
   have z':((evE (zL T n) T.gl env a s1).bind fun v s1=>match v with|.int i=>.ok (some i) s1|_=>.stuck)=.ok none s2:=z
   cases hv:evE (zL T n) T.gl env a s1 with
   |ok v s3=>rw[hv]at z';cases v<;>cases z'
   |exc _ _ _=>rw[hv]at z';cases z'
   |stuck=>rw[hv]at z';cases z'
 . cases h
theorem a9{c:Cn}(jc:JC T n c):JC T n (.not c):=by
 intro sc N X e o h env s
 simp only[ckC]at h
 split at h
 . exact Zc (jc _ _ _ _ o h env s)
 . cases h
theorem a8{c:Cn}{cs:Cns}(jc:JC T n c)(jcs:JCs T n cs):JC T n (.and c cs):=by
 intro sc N X e o h env s
 simp only[ckC]at h
 split at h
 . simp only[Bool.and_eq_true]at h
   exact(gS (jc _ _ _ _ o h.1 env s) fun s1=>(jcs _ _ _ _ o h.2).1 _ env s1).pt
 . cases h
theorem XM{c:Cn}{cs:Cns}(jc:JC T n c)(jcs:JCs T n cs):JC T n (.or c cs):=by
 intro sc N X e o h env s
 simp only[ckC]at h
 split at h
 . simp only[Bool.and_eq_true]at h
   exact(bz (jc _ _ _ _ o h.1 env s) fun s1=>(jcs _ _ _ _ o h.2).2.1 _ env s1).pt
 . cases h
theorem dQ:JCs T n .nil:=by
 intro sc N X es o h
 simp only[nk]at h
 split at h
 . exact⟨fun pos env s=>mC,fun pos env s=>jJ,.nil⟩
 . cases h
theorem gC{c:Cn}{cs:Cns}(jc:JC T n c)(jcs:JCs T n cs):JCs T n (.cons c cs):=by
 intro sc N X es o h
 simp only[nk]at h
 split at h
 . simp only[Bool.and_eq_true]at h
   obtain⟨a,b,d⟩:=jcs _ _ _ _ o h.2
   exact⟨fun pos env s=>gS (jc _ _ _ _ o h.1 env s) fun s1=>a pos env s1,fun pos env s=>bz (jc _ _ _ _ o h.1 env s) fun s1=>b pos env s1,.cons (W7 fun env s=>jc _ _ _ _ o h.1 env s) d⟩
 . cases h
theorem ZJ{a:Ex}(ja:JE T n a):JI T n (.val a):=fun sc N X e tg o h env s=>ZX (ja _ _ _ _ o (by simpa only[ckI] using h) env s)
theorem jD{a:Ex}(ja:JE T n a):JI T n (.range1 a):=by
 intro sc N X e tg o h env s
 simp only[ckI]at h
 split at h
 . simp only[Bool.and_eq_true,decide_eq_true_eq,uW]at h
   obtain⟨⟨⟨rfl,h1⟩,h2⟩,h3⟩:=h
   exact jG h3 (o.scp.gl _ h1) (o.blt _ (by decide)) (ja _ _ _ _ o h2 env s)
 . cases h
theorem jF{a b:Ex}(ja:JE T n a)(jb:JE T n b):JI T n (.range2 a b):=by
 intro sc N X e tg o h env s
 simp only[ckI]at h
 split at h
 . simp only[Bool.and_eq_true,decide_eq_true_eq,uW]at h
   obtain⟨⟨⟨⟨⟨rfl,h1⟩,h2⟩,h3⟩,h4⟩,h5⟩:=h
   exact jH h4 h5 (o.scp.gl _ h1) (o.blt _ (by decide)) (ja _ _ _ _ o h2 env s) fun s1=>jb _ _ _ _ o h3 env s1
 . cases h
theorem dW{a:Ex}(ja:JE T n a):JI T n (.enum a):=by
 intro sc N X e tg o h env s
 simp only[ckI]at h
 split at h
 . simp only[Bool.and_eq_true,decide_eq_true_eq,uW]at h
   obtain⟨⟨⟨rfl,h1⟩,h2⟩,h3⟩:=h
   exact dh h3 (o.scp.gl _ h1) (o.blt _ (by decide)) (ja _ _ _ _ o h2 env s)
 . cases h
end
section
variable (T:Tbl)(n:Nat)
mutual
theorem jE:∀a:Ex,JE T n a
 |.lit _=>ZS
 |.var _=>ZW
 |.gl _=>XT
 |.ty _ _=>XX
 |.bin _ _ a b=>ZC (jE a) (jE b)
 |.neg a=>ZG (jE a)
 |.not a=>ZH (jE a)
 |.cmp _ a b=>ZE (jE a) (jE b)
 |.chain _ _ a b c=>gD (jE a) (jE b) (jE c)
 |.andE a es=>ZA (jE a) (jL es)
 |.orE _ _=>fun sc N X e o h=>by cases h
 |.ife _ _ _=>fun sc N X e o h=>by cases h
 |.tup es=>ZI (jL es)
 |.lst _ es=>ZF (jL es)
 |.dct0=>fun sc N X e o h=>by cases h
 |.call _ _ es=>dR (jL es)
 |.blt _ _ es=>ZD (jL es)
 |.maxD _ _=>fun sc N X e o h=>by cases h
 |.yY _ _ a es=>dU (jE a) (jL es)
 |.ix a b=>XN (jE a) (jE b)
 |.sl _ a lo hi st=>XO (jE a) (jO lo) (jO hi) (jO st)
 |.comp _ _ _ elt _ it ifs=>dS (jE elt) (jI it) (jCs ifs)
 |.comp2 _ _ _ _ _ _ _ _ _ _=>fun sc N X e o h=>by cases h
 |.listRange _ _ _ _=>fun sc N X e o h=>by cases h
theorem jL:∀a:Exs,JL T n a
 |.nil=>ZK
 |.cons a as=>dX (jE a) (jL as)
theorem jO:∀a:OEx,JO T n a
 |.no=>XQ
 |.yes a=>ZL (jE a)
theorem jC:∀a:Cn,JC T n a
 |.val (.cmp _ a b)=>ZQ (jE a) (jE b)
 |.val (.chain _ _ a b c)=>gH (jE a) (jE b) (jE c)
 |.val (.lit v)=>yA (jE (.lit v)) rfl
 |.val (.var v)=>yA (jE (.var v)) rfl
 |.val (.gl v)=>yA (jE (.gl v)) rfl
 |.val (.ty v w)=>yA (jE (.ty v w)) rfl
 |.val (.bin m o a b)=>yA (jE (.bin m o a b)) rfl
 |.val (.neg a)=>yA (jE (.neg a)) rfl
 |.val (.not a)=>yA (jE (.not a)) rfl
 |.val (.andE a b)=>yA (jE (.andE a b)) rfl
 |.val (.orE a b)=>yA (jE (.orE a b)) rfl
 |.val (.ife a b c)=>yA (jE (.ife a b c)) rfl
 |.val (.tup a)=>yA (jE (.tup a)) rfl
 |.val (.lst m a)=>yA (jE (.lst m a)) rfl
 |.val .dct0=>yA (jE .dct0) rfl
 |.val (.call a b c)=>yA (jE (.call a b c)) rfl
 |.val (.blt a b c)=>yA (jE (.blt a b c)) rfl
 |.val (.maxD a b)=>yA (jE (.maxD a b)) rfl
 |.val (.yY a b c d)=>yA (jE (.yY a b c d)) rfl
 |.val (.ix a b)=>yA (jE (.ix a b)) rfl
 |.val (.sl a b c d e)=>yA (jE (.sl a b c d e)) rfl
 |.val (.comp a b c d e f g)=>yA (jE (.comp a b c d e f g)) rfl
 |.val (.comp2 a b c d e f g h i j)=>yA (jE (.comp2 a b c d e f g h i j)) rfl
 |.val (.listRange a b c d)=>yA (jE (.listRange a b c d)) rfl
 |.not c=>a9 (jC c)
 |.and c cs=>a8 (jC c) (jCs cs)
 |.or c cs=>XM (jC c) (jCs cs)
theorem jCs:∀a:Cns,JCs T n a
 |.nil=>dQ
 |.cons c cs=>gC (jC c) (jCs cs)
theorem jI:∀a:Itb,JI T n a
 |.val a=>ZJ (jE a)
 |.range1 a=>jD (jE a)
 |.range2 a b=>jF (jE a) (jE b)
 |.enum a=>dW (jE a)
 |.zip _ _=>fun sc N X e tg o h=>by cases h
end
end
end M
end
section
namespace M
open PySem
section
variable (K:KF)(mg:Str→Option Value)
noncomputable def qE(ρ:Own)(H:L2.Hp)(o:Out Fl)(D:L2.Ends):Prop:=
 match o with
 |.ok (.nx e) s'=>∀ρ' H' σ',Ext ρ H ρ' H'→HR K mg ρ' s' H'→ER K mg ρ' H' e σ'→D.nx σ' H'
 |.ok (.bk e) s'=>∀ρ' H' σ',Ext ρ H ρ' H'→HR K mg ρ' s' H'→ER K mg ρ' H' e σ'→D.bk σ' H'
 |.ok (.ct e) s'=>∀ρ' H' σ',Ext ρ H ρ' H'→HR K mg ρ' s' H'→ER K mg ρ' H' e σ'→D.ct σ' H'
 |.ok (.rt v) s'=>∀ρ' H' x,Ext ρ H ρ' H'→HR K mg ρ' s' H'→RD K mg ρ' H' v x→D.rt x H'
 |_=>False
noncomputable def tSt(env:Env)(s:Sto)(o:Out Fl):L2.TS:=fun D σ H=>∃ρ,HR K mg ρ s H∧ER K mg ρ H env σ∧qE K mg ρ H o D
end
section
variable {K:KF}{mg:Str→Option Value}{ρ ρ':Own}{H H':L2.Hp}
theorem qE.mono{s1:Sto}{o:Out Fl}{D:L2.Ends}(w:qE K mg ρ H o D)(x:Ext ρ H ρ' H')(h:HR K mg ρ' s1 H'):qE K mg ρ' H' o D:=by
 cases o with
 |ok fl s'=>
  cases fl with
  |nx e=>exact fun ρ2 H2 σ2 x2 h2 r2=>w ρ2 H2 σ2 (x.trans h x2) h2 r2
  |bk e=>exact fun ρ2 H2 σ2 x2 h2 r2=>w ρ2 H2 σ2 (x.trans h x2) h2 r2
  |ct e=>exact fun ρ2 H2 σ2 x2 h2 r2=>w ρ2 H2 σ2 (x.trans h x2) h2 r2
  |rt v=>exact fun ρ2 H2 y x2 h2 r2=>w ρ2 H2 y (x.trans h x2) h2 r2
 |exc _ _ _=>exact w
 |stuck=>exact w
end
noncomputable def sE:Expr→Bool
 |.ListComp ..|.SetComp ..|.DictComp ..=>false
 |_=>true
theorem nR{e:Expr}{t:Option Expr}{l:Nat}{env:PySem.Env}(h:sE e=true):swapsWith e t l env=pure false:=by cases e<;>first|rfl|cases h
theorem vh{e:Expr}{ts:List Expr}{k:Nat}{p:Pos}{l:Nat}{env:PySem.Env}:swapsWithSole [.Tuple ts k p] e l env=pure false:=by cases e<;>rfl
theorem iC{e o i:Expr}{p:Pos}{l:Nat}{env:PySem.Env}:swapsWithSole [.Subscript o i p] e l env=pure false:=by cases e<;>rfl
noncomputable def notTuple:Expr→Bool
 |.Tuple ..=>false
 |_=>true
theorem m8{e:Expr}{ts:List Expr}{k:Nat}{p:Pos}{env:PySem.Env}(h:notTuple e=true):swappedStores [.Tuple ts k p] e env=pure none:=by
 cases e<;>first|(cases h;done)|rfl
theorem nP{o i e:Expr}{p:Pos}{env:PySem.Env}:swappedStores [.Subscript o i p] e env=pure none:=by cases e<;>rfl
noncomputable def aE(sc:Scope)(ts vs:List Expr):Bool:=
 match ts with
 |[.Name x px,.Name y py]=>decide (sc.names.lookup x=some .local)&&decide (sc.names.lookup y=some .local)&&(px.line == py.line)&&decide (x≠y)&&!(vs.all (foldedForSure 8))&&!(vs.all (constantsAlone 8))
 |[.Name x px,.Name y py,.Name z pz]=>decide (sc.names.lookup x=some .local)&&decide (sc.names.lookup y=some .local)&&decide (sc.names.lookup z=some .local)&&(px.line == py.line)&&(px.line == pz.line)&&decide (x≠y)&&decide (x≠z)&&decide (y≠z)&&!(vs.all (foldedForSure 8))&&!(vs.all (constantsAlone 8))
 |_=>false
noncomputable def aK(sc:Scope)(ts:List Expr):Bool:=ts.any (fun|.Name x _=>decide (sc.names.lookup x≠some .local)|_=>false)||decide (3<ts.length)
theorem rJ{vs:List Expr}(h:yZ vs=true):(vs.any fun|.Starred ..=>true|_=>false)=false:=by
 induction vs with
 |nil=>rfl
 |cons v vs ih=>
  rw[yZ,Bool.and_eq_true]at h
  rw[List.any_cons,ih h.2]
  cases v<;>first|rfl|(have z:=h.1;cases z)
theorem nQ{x y:Str}{px py pt pt2:Pos}{kt k2:Nat}{a b:Expr}{env:PySem.Env}(hb:env.blockKind=.function)(hx:env.kindOf x=some .local)(hy:env.kindOf y=some .local)(hl:(px.line == py.line)=true)(hne:x≠y)(hp:yZ [a,b]=true)
 (hf:[a,b].all (foldedForSure 8)=false) (hc:[a,b].all (constantsAlone 8)=false):swappedStores [.Tuple [.Name x px,.Name y py] kt pt] (.Tuple [a,b] k2 pt2) env=pure (some [x,y]):=by
 have hs:=rJ hp
 have hl':(py.line == px.line)=true:=by rw[beq_iff_eq]at hl ⊢;exact hl.symm
 unfold swappedStores
 have e1:([x,y].eraseDups.length != [x,y].length)=false:=by
  have:(y == x)=false:=by simpa using Ne.symm hne
  simp[List.eraseDups_cons,this]
 simp only[List.length_cons,List.length_nil,hb,hf,hs,hc,hx,hy,hl',List.head?_cons,Option.map_some,Option.getD_some,List.filterMap_cons,List.filterMap_nil,beq_self_eq_true,Bool.and_self,if_true]
 have hpos:(Expr.Name x px).pos.line=px.line:=rfl
 refine(if_neg (by decide)).trans ((if_neg (fun z=>Bool.false_ne_true (hs.symm.trans z))).trans ?_)
 simp only[hpos,beq_self_eq_true,hl',Bool.and_self,if_true,e1,List.length_cons,List.length_nil,bne_self_eq_false,Bool.or_self,Bool.false_eq_true,if_false]
 exact if_neg (fun z=>Bool.false_ne_true (e1.symm.trans (by rw[Bool.false_or]at z;exact z)))
theorem qA{x y z:Str}{px py pz pt pt2:Pos}{kt k2:Nat}{a b c:Expr}{env:PySem.Env}(hb:env.blockKind=.function)(hx:env.kindOf x=some .local)(hy:env.kindOf y=some .local)(hz:env.kindOf z=some .local)(hl:(px.line == py.line)=true)(hl2:(px.line == pz.line)=true)
 (hne:x≠y) (hne2:x≠z) (hne3:y≠z) (hp:yZ [a,b,c]=true) (hf:[a,b,c].all (foldedForSure 8)=false) (hc:[a,b,c].all (constantsAlone 8)=false):swappedStores [.Tuple [.Name x px,.Name y py,.Name z pz] kt pt] (.Tuple [a,b,c] k2 pt2) env=pure (some [x,y,z]):=by
 have hs:=rJ hp
 have hl':(py.line == px.line)=true:=by rw[beq_iff_eq]at hl ⊢;exact hl.symm
 have hl2':(pz.line == px.line)=true:=by rw[beq_iff_eq]at hl2 ⊢;exact hl2.symm
 unfold swappedStores
 have e1:([x,y,z].eraseDups.length != [x,y,z].length)=false:=by
  have h1:(y == x)=false:=by simpa using Ne.symm hne
  have h2:(z == x)=false:=by simpa using Ne.symm hne2
  have h3:(z == y)=false:=by simpa using Ne.symm hne3
  simp[List.eraseDups_cons,h1,h2,h3]
 simp only[List.length_cons,List.length_nil,hb,hf,hs,hc,hx,hy,hz,hl',hl2',List.head?_cons,Option.map_some,Option.getD_some,List.filterMap_cons,List.filterMap_nil,beq_self_eq_true,Bool.and_self,if_true]
 have hpos:(Expr.Name x px).pos.line=px.line:=rfl
 refine(if_neg (by decide)).trans ((if_neg (fun z=>Bool.false_ne_true (hs.symm.trans z))).trans ?_)
 simp only[hpos,beq_self_eq_true,hl',hl2',Bool.and_self,if_true,e1,List.length_cons,List.length_nil,bne_self_eq_false,Bool.or_self,Bool.false_eq_true,if_false]
 exact if_neg (fun z=>Bool.false_ne_true (e1.symm.trans (by rw[Bool.false_or]at z;exact z)))
theorem uP{α β:Type}{f:α→Option β}:∀{l:List α},(∃a∈l,f a=none)→(l.filterMap f).length<l.length
 |[],⟨a,h,_⟩=>by cases h
 |b::l,⟨a,h,e⟩=>by
  rw[List.filterMap_cons]
  have hle:=List.length_filterMap_le f l
  rcases List.mem_cons.mp h with z|z
  . subst z;rw[e];simp only[List.length_cons];omega
  . have:=uP ⟨a,z,e⟩
    cases f b with
    |none=>simp only[List.length_cons];omega
    |some _=>simp only[List.length_cons];omega
theorem iG{ts vs:List Expr}{kt k2:Nat}{pt pt2:Pos}{env:PySem.Env}(h:(∃x p,Expr.Name x p∈ts∧env.kindOf x≠some .local)∨3<ts.length):swappedStores [.Tuple ts kt pt] (.Tuple vs k2 pt2) env=pure none:=by
 unfold swappedStores
 simp only[]
 split
 . rfl
 . rename_i h1
   split
   . rfl
   . rw[if_pos]
     rcases h with⟨x,p,hm,hk⟩|h
     . rw[Bool.or_eq_true]
       left
       rw[bne_iff_ne]
       refine Nat.ne_of_lt (uP ⟨_,hm,?_⟩)
       have:(env.kindOf x == some .local)=false:=by simpa using hk
       simp only[this,Bool.false_and,Bool.false_eq_true,if_false]
     . exfalso
       apply h1
       have:(ts.length == 2||ts.length == 3)=false:=by
        rw[Bool.or_eq_false_iff]
        constructor<;>(rw[beq_eq_false_iff_ne];omega)
       rw[this];rfl
theorem m7{o i:Expr}{p:Pos}{env:PySem.Env}(h:plain i=true)(v:Value):assign (.Subscript o i p) env v=(do
 let ov ←holding [v] (eval o env)
 let iv ←holding [v,ov] (eval i env)
 standAt p
 holding [v,ov,iv] (setItem ov iv v)
 release [v,ov,iv] []):=by
 cases i<;>first|rfl|cases h
section
variable {X:L2.Cx}{env:Env}{s:Sto}
theorem WI{st:Stmt}{t:L2.TS}(h:∀D σ H,¬t D σ H):L2.PS X st t:=fun pins s σ H D I q=>(h D σ H q).elim
theorem Yd{o:Out Fl}(h:∀v s',o≠.ok v s'){D:L2.Ends}{σ:L2.St}{H:L2.Hp}:¬tSt X.K X.mg env s o D σ H:=by
 rintro ⟨ρ,_,_,w⟩
 cases o with
 |ok v s'=>exact h v s' rfl
 |exc _ _ _=>exact w
 |stuck=>exact w
theorem zM{st:Stmt}{o:Out Fl}(h:∀v s',o≠.ok v s'):L2.PS X st (tSt X.K X.mg env s o):=WI fun _ _ _=>Yd h
theorem di{e:Expr}{o:Out Val}{pos:Pos}(hn:sE e=true)(h:L2.PE X e (tV X.K X.mg env s o)):L2.PS X (.Expr e pos) (tSt X.K X.mg env s (o.bind fun _ s1=>.ok (.nx env) s1)):=by
 cases o with
 |ok v s1=>exact wU (L2.cw h (nR hn)) fun D σ H ⟨ρ,hr,er,w⟩=>⟨ρ,hr,er,fun ρ1 x H1 x1 hr1 r1=>w ρ1 H1 σ x1 hr1 (er.mono x1)⟩
 |exc _ _ _=>exact zM (fun _ _ e=>by cases e)
 |stuck=>exact zM (fun _ _ e=>by cases e)
theorem Za{e:Expr}{o:Out Val}{pos:Pos}(h:L2.PE X e (tV X.K X.mg env s o)):L2.PS X (.Return (some e) pos) (tSt X.K X.mg env s (o.bind fun v s1=>.ok (.rt v) s1)):=by
 cases o with
 |ok v s1=>exact wU (L2.YT h) fun D σ H ⟨ρ,hr,er,w⟩=>⟨ρ,hr,er,fun ρ1 x H1 x1 hr1 r1=>w ρ1 H1 x x1 hr1 r1⟩
 |exc _ _ _=>exact zM (fun _ _ e=>by cases e)
 |stuck=>exact zM (fun _ _ e=>by cases e)
theorem gO{i:Nat}{o:Out Val}{st:Stmt}{te:L2.TE}(rule:L2.PS X st (L2.nS te (L2.uS i)))(h:∀σ H Q,tV X.K X.mg env s o σ H Q→te σ H Q):L2.PS X st (tSt X.K X.mg env s (o.bind fun v s1=>.ok (.nx (env.set i (some v))) s1)):=by
 cases o with
 |ok v s1=>exact wU rule fun D σ H ⟨ρ,hr,er,w⟩=>h _ _ _ ⟨ρ,hr,er,fun ρ1 x H1 x1 hr1 r1=>w ρ1 H1 _ x1 hr1 ((er.mono x1).set i r1)⟩
 |exc _ _ _=>exact zM (fun _ _ e=>by cases e)
 |stuck=>exact zM (fun _ _ e=>by cases e)
theorem kH{t:Tgt}{g:L2.TG}{o:Out Val}{st:Stmt}{te:L2.TE}(TG:rl X.K X.mg t g)(rule:L2.PS X st (L2.nS te g))(h:∀σ H Q,tV X.K X.mg env s o σ H Q→te σ H Q) :
 L2.PS X st (tSt X.K X.mg env s (o.bind fun v s1=>match yg t v env with|some env'=>.ok (.nx env') s1|Option.none=>.stuck)):=by
 cases o with
 |ok v s1=>
  show L2.PS X st (tSt X.K X.mg env s (match yg t v env with|some env'=>.ok (.nx env') s1|Option.none=>.stuck))
  cases hb:yg t v env with
  |none=>exact zM (fun _ _ e=>by cases e)
  |some env'=>exact wU rule fun D σ H ⟨ρ,hr,er,w⟩=>h _ _ _ ⟨ρ,hr,er,fun ρ1 x H1 x1 hr1 r1=>TG ρ1 s1 H1 v x env env' σ _ hr1 r1 (er.mono x1) hb fun σ' er'=>w ρ1 H1 σ' x1 hr1 er'⟩
 |exc _ _ _=>exact zM (fun _ _ e=>by cases e)
 |stuck=>exact zM (fun _ _ e=>by cases e)
theorem av(op:Bop)(m:Bool):(∃r,L2.PIp X op.op r∧∀(i j:Int) (H:L2.Hp) (Q:L2.VK) (v:Val) (s s':Sto),binOp m op (.int i) (.int j) s=.ok v s'→(∃k:Int,v=.int k∧s'=s∧(Q (.int k) H→r (.int i) (.int j) H Q)))∨(op=.pow∨op=.shl∨op=.shr∨op=.band):=by
 cases op with
 |add=>exact .inl ⟨_,L2.dI,fun i j H Q v s s' h=>by cases h;exact⟨_,rfl,rfl,fun q=>⟨i,j,rfl,rfl,q⟩⟩⟩
 |sub=>exact .inl ⟨_,L2.dN,fun i j H Q v s s' h=>by cases h;exact⟨_,rfl,rfl,fun q=>⟨i,j,rfl,rfl,q⟩⟩⟩
 |mul=>exact .inl ⟨_,L2.dM,fun i j H Q v s s' h=>by
  simp only[binOp]at h
  split at h
  . rename_i hz;cases h;exact⟨_,rfl,rfl,fun q=>⟨i,j,rfl,rfl,hz,q⟩⟩
  . cases h⟩
 |fdiv=>exact .inl ⟨_,L2.hZ,fun i j H Q v s s' h=>by
  simp only[binOp]at h
  split at h
  . rename_i hz;cases h;exact⟨_,rfl,rfl,fun q=>⟨i,j,rfl,rfl,hz,q⟩⟩
  . cases h⟩
 |mod=>exact .inl ⟨_,L2.dJ,fun i j H Q v s s' h=>by
  simp only[binOp]at h
  split at h
  . rename_i hz;cases h;exact⟨_,rfl,rfl,fun q=>⟨i,j,rfl,rfl,hz,q⟩⟩
  . cases h⟩
 |pow=>exact .inr (.inl rfl)
 |shl=>exact .inr (.inr (.inl rfl))
 |shr=>exact .inr (.inr (.inr (.inl rfl)))
 |band=>exact .inr (.inr (.inr (.inr rfl)))
theorem Wz{i:Nat}{x:Str}{e:Expr}{op:Bop}{f:Sto→Out Val}{pos pos':Pos}(hop:¬(op=.pow∨op=.shl∨op=.shr∨op=.band))(hN:X.N.Nodup)(hi:X.N[i]?=some x)(hx:L2.Loc X.env.scope x)(hf:X.fn x=true∨X.env.scope.names.lookup x=some .local)(h:∀s,L2.PE X e (tV X.K X.mg env s (f s))) :
 L2.PS X (.AugAssign (.Name x pos') op.op e pos) (tSt X.K X.mg env s (match env[i]? with
 |some (some (.int x))=>(f s).bind fun v s1=>match v with
  |.int y=>(binOp false op (.int x) (.int y) s1).bind fun z s2=>.ok (.nx (env.set i (some z))) s2
  |_=>.stuck
 |_=>.stuck)):=by
 rcases av (X:=X) op false with⟨r,hr0,hq⟩|z
 . cases he:env[i]? with
   |none=>exact zM (fun _ _ e=>by cases e)
   |some ov=>
    cases ov with
    |none=>exact zM (fun _ _ e=>by cases e)
    |some v0=>
     cases v0 with
     |int a=>
      have h':=h s
      simp only[]
      cases hv:f s with
      |ok v s1=>
       rw[hv]at h'
       cases v with
       |int b=>
        simp only[za]
        cases hb:binOp false op (.int a) (.int b) s1 with
        |ok z s2=>
         obtain⟨k,rfl,rfl,q⟩:=hq a b (fun _=>none) (fun _ _=>True) z s1 s2 hb
         refine wU (L2.YQ hN hi hx h' hr0 hf) fun D σ H ⟨ρ,hr,er,w⟩=>?_
         obtain⟨xv,e1,e2⟩:=er.at_ i _ he
         cases e2
         refine⟨_,e1,ρ,hr,er,fun ρ1 y H1 x1 hr1 r1=>?_⟩
         cases r1
         obtain⟨k',e3,_,q'⟩:=hq a b H1 (fun z H2=>D.nx (σ.set i (some z)) H2) _ _ _ hb
         cases e3
         exact q' (w ρ1 H1 _ x1 hr1 ((er.mono x1).set i (.int _)))
        |exc _ _ _=>exact zM (fun _ _ e=>by cases e)
        |stuck=>exact zM (fun _ _ e=>by cases e)
       |_=>exact zM (fun _ _ e=>by cases e)
      |exc _ _ _=>exact zM (fun _ _ e=>by cases e)
      |stuck=>exact zM (fun _ _ e=>by cases e)
     |_=>exact zM (fun _ _ e=>by cases e)
 . exact absurd z hop
theorem gP{a i e:Expr}{o:Out Val}{f2 f3:Sto→Out Val}{p pos:Pos}(hi0:plain i=true)(h1:L2.PE X e (tV X.K X.mg env s o))(h2:∀s1,L2.PE X a (tV X.K X.mg env s1 (f2 s1)))(h3:∀s1,L2.PE X i (tV X.K X.mg env s1 (f3 s1))) :
 L2.PS X (.Assign [.Subscript a i p] e pos) (tSt X.K X.mg env s (o.bind fun v s1=>(f2 s1).bind fun x s2=>(f3 s2).bind fun y s3=>match x,y with
  |.ref r,.int k=>(match s3[r]? with
   |some (.lst vs)=>(match L2.ixN vs.length k with|some j=>.ok (.nx env) (upd s3 r (vs.set j v))|Option.none=>.stuck)
   |Option.none=>.stuck)
  |_,_=>.stuck)):=by
 cases o with
 |ok v s1=>
  have h2':=h2 s1
  simp only[za]
  cases hb:f2 s1 with
  |ok x s2=>
   rw[hb]at h2'
   have h3':=h3 s2
   simp only[za]
   cases hc:f3 s2 with
   |ok y s3=>
    rw[hc]at h3'
    simp only[za]
    have rule:L2.PS X (.Assign [.Subscript a i p] e pos) (L2.nS _ (L2.XA _ _ L2.aC)):=L2.mh h1 (L2.YN h2' h3' L2.set_list (m7 hi0)) iC nP
    cases x with
    |ref r=>
     cases y with
     |int k=>
      simp only[]
      cases hs:s3[r]? with
      |none=>exact zM (fun _ _ e=>by cases e)
      |some cl=>
       cases cl with
       |lst vs=>
        simp only[]
        cases hj:L2.ixN vs.length k with
        |none=>exact zM (fun _ _ e=>by cases e)
        |some j=>
         refine wU rule fun D σ H ⟨ρ,hr,er,w⟩=>⟨ρ,hr,er,fun ρ1 xv H1 x1 hr1 r1=>⟨ρ1,hr1,er.mono x1,fun ρ2 xo H2 x2 hr2 r2=>⟨ρ2,hr2,(er.mono x1).mono x2,fun ρ3 xi H3 x3 hr3 r3=>?_⟩⟩⟩
         cases r3
         have r2':=r2.mono x3
         cases r2' with
         |ref e0=>
          obtain⟨b',xs,e1,e2,q⟩:=hr3.obj r _ hs
          rw[e0]at e1;cases e1
          have xx:=(x1.trans hr1 x2).trans hr2 x3
          refine⟨_,xs,k,j,rfl,rfl,e2,by rw[←q.length];exact hj,?_⟩
          exact w ρ3 _ σ (xx.trans hr3 (Ext.write hr3 e0 _)) (hr3.write e0 (RDs.set ((r1.mono x2).mono x3) j q)) ((er.mono xx).mono (Ext.write hr3 e0 _))
     |_=>exact zM (fun _ _ e=>by cases e)
    |_=>exact zM (fun _ _ e=>by cases e)
   |exc _ _ _=>exact zM (fun _ _ e=>by cases e)
   |stuck=>exact zM (fun _ _ e=>by cases e)
  |exc _ _ _=>exact zM (fun _ _ e=>by cases e)
  |stuck=>exact zM (fun _ _ e=>by cases e)
 |exc _ _ _=>exact zM (fun _ _ e=>by cases e)
 |stuck=>exact zM (fun _ _ e=>by cases e)
end
end M
end
section
namespace M
open PySem
section
variable {X:L2.Cx}{env:Env}{s:Sto}
theorem dj{i j:Nat}{o:Out (List Val)}{st:Stmt}{ta:L2.TA}(rule:L2.PS X st (L2.Wf i j ta))(h:∀σ H Q,tVs X.K X.mg env s o σ H Q→ta σ H Q) :
 L2.PS X st (tSt X.K X.mg env s (o.bind fun vs s1=>if vs.length=[i,j].length then .ok (.nx (([i,j].zip vs).foldl (fun e p=>e.set p.1 (some p.2)) env)) s1 else .stuck)):=by
 cases o with
 |ok vs s1=>
  show L2.PS X st (tSt X.K X.mg env s (if vs.length=[i,j].length then .ok (.nx (([i,j].zip vs).foldl (fun e p=>e.set p.1 (some p.2)) env)) s1 else .stuck))
  match vs with
  |[v,w]=>
   refine wU rule fun D σ H ⟨ρ,hr,er,wt⟩=>h _ _ _ ⟨ρ,hr,er,fun ρ1 xs H1 x1 hr1 r1=>?_⟩
   obtain⟨x,y,rfl,rx,ry⟩:=jz r1
   exact⟨x,y,rfl,wt ρ1 H1 _ x1 hr1 (((er.mono x1).set i rx).set j ry)⟩
  |[]=>exact zM (fun _ _ e=>by cases e)
  |[_]=>exact zM (fun _ _ e=>by cases e)
  |_::_::_::r=>exact zM (fun _ _ e=>by simp at e)
 |exc _ _ _=>exact zM (fun _ _ e=>by cases e)
 |stuck=>exact zM (fun _ _ e=>by cases e)
theorem VE{K:KF}{mg:Str→Option Value}{ρ:Own}{H:L2.Hp}{v w z:Val}{xs:List L2.V}(r:RDs K mg ρ H [v,w,z] xs):∃x y t,xs=[x,y,t]∧RD K mg ρ H v x∧RD K mg ρ H w y∧RD K mg ρ H z t:=by
 cases r with
 |cons r1 r2=>
  obtain⟨y,t,rfl,r3,r4⟩:=jz r2
  exact⟨_,_,_,rfl,r1,r3,r4⟩
theorem dk{i j k:Nat}{o:Out (List Val)}{st:Stmt}{ta:L2.TA}(rule:L2.PS X st (L2.aG i j k ta))(h:∀σ H Q,tVs X.K X.mg env s o σ H Q→ta σ H Q) :
 L2.PS X st (tSt X.K X.mg env s (o.bind fun vs s1=>if vs.length=[i,j,k].length then .ok (.nx (([i,j,k].zip vs).foldl (fun e p=>e.set p.1 (some p.2)) env)) s1 else .stuck)):=by
 cases o with
 |ok vs s1=>
  show L2.PS X st (tSt X.K X.mg env s (if vs.length=[i,j,k].length then .ok (.nx (([i,j,k].zip vs).foldl (fun e p=>e.set p.1 (some p.2)) env)) s1 else .stuck))
  match vs with
  |[v,w,z]=>
   refine wU rule fun D σ H ⟨ρ,hr,er,wt⟩=>h _ _ _ ⟨ρ,hr,er,fun ρ1 xs H1 x1 hr1 r1=>?_⟩
   obtain⟨x,y,t,rfl,rx,ry,rt⟩:=VE r1
   exact⟨x,y,t,rfl,wt ρ1 H1 _ x1 hr1 ((((er.mono x1).set i rx).set j ry).set k rt)⟩
  |[]=>exact zM (fun _ _ e=>by cases e)
  |[_]=>exact zM (fun _ _ e=>by cases e)
  |[_,_]=>exact zM (fun _ _ e=>by cases e)
  |_::_::_::_::r=>exact zM (fun _ _ e=>by simp at e)
 |exc _ _ _=>exact zM (fun _ _ e=>by cases e)
 |stuck=>exact zM (fun _ _ e=>by cases e)
noncomputable def uSs(K:KF)(mg:Str→Option Value)(Φ:Calls)(G:Str→Option Val)(b:Sms):L2.TS:=fun D σ H=>∃env s,tSt K mg env s (zf Φ G env b s) D σ H
theorem XZ{c:Expr}{a b:List Stmt}{o:Out Bool}{f2 f3:Sto→Out Fl}{ta tb:L2.TS}{pos:Pos}(hc:L2.PT X c (tT X.K X.mg env s o))(ha:L2.PSs X a ta)(hb:L2.PSs X b tb)(ia:∀s1 D σ H,tSt X.K X.mg env s1 (f2 s1) D σ H→ta D σ H)(ib:∀s1 D σ H,tSt X.K X.mg env s1 (f3 s1) D σ H→tb D σ H) :
 L2.PS X (.If c a b pos) (tSt X.K X.mg env s (o.bind fun t s1=>if t then f2 s1 else f3 s1)):=by
 cases o with
 |ok v s1=>
  refine wU (L2.WH hc ha hb) fun D σ H ⟨ρ,hr,er,wt⟩=>⟨ρ,hr,er,fun ρ1 x H1 x1 hr1 r1=>?_⟩
  have wt':=wt.mono x1 hr1
  cases r1
  cases v with
  |true=>exact L2.n9 (ia s1 D σ H1 ⟨ρ1,hr1,er.mono x1,wt'⟩)
  |false=>exact L2.n6 (ib s1 D σ H1 ⟨ρ1,hr1,er.mono x1,wt'⟩)
 |exc _ _ _=>exact zM (fun _ _ e=>by cases e)
 |stuck=>exact zM (fun _ _ e=>by cases e)
theorem hG{K:KF}{mg:Str→Option Value}{r:Src}{J:L2.It}{t:Tgt}{g:L2.TG}{body:Env→Sto→Out Fl}{tb:L2.TS}{D:L2.Ends}{ρ:Own}{H:L2.Hp}{σ:L2.St}(W:Walk K mg ρ H r J)(TG:rl K mg t g)(hb:∀env s D σ H,tSt K mg env s (body env s) D σ H→tb D σ H)
 (hr:HR K mg ρ s H) (er:ER K mg ρ H env σ) (w:qE K mg ρ H (vH r t body r.xs env s) D):L2.nH J g tb D σ H:=by
 refine oT (n:=r.xs.length) (fun i σ2 H2=>∃ρ2 s2 env2,HR K mg ρ2 s2 H2∧ER K mg ρ2 H2 env2 σ2∧Ext ρ H ρ2 H2∧vH r t body (r.xs.drop i) env2 s2=vH r t body r.xs env s) ⟨ρ,s,env,hr,er,Ext.refl,by rw[List.drop_zero]⟩ ?_ ?_
 . rintro σ2 H2 ⟨ρ2,s2,env2,hr2,er2,x2,h2⟩
   rw[List.drop_length,vH]at h2
   split at h2
   . rename_i ho
     rw[←h2]at w
     exact⟨W.stop ρ2 H2 s2 _ x2.mv hr2 ho rfl,w ρ2 H2 σ2 x2 hr2 er2⟩
   . rw[←h2]at w;exact w.elim
 . rintro i σ2 H2 hi ⟨ρ2,s2,env2,hr2,er2,x2,h2⟩
   rw[List.drop_eq_getElem_cons hi,vH]at h2
   split at h2
   . rename_i ho
     obtain⟨hgo,hy⟩:=W.go ρ2 H2 s2 i (r.xs[i]) x2.mv hr2 ho (List.getElem?_eq_getElem hi)
     refine⟨hgo,fun x H3 y=>?_⟩
     obtain⟨hH,rx⟩:=hy x H3 y
     split at h2
     . rw[←h2]at w;exact w.elim
     . rename_i env' he
       have C3:HR K mg ρ2 s2 H3∧Ext ρ2 H2 ρ2 H3:=by
        rcases hH with e|⟨q,o,hq,e⟩
        . subst e;exact⟨hr2,Ext.refl⟩
        . subst e;exact⟨hr2.more hq o,Ext.new hr2 hq o⟩
       have x3:=x2.trans hr2 C3.2
       refine TG ρ2 s2 H3 _ x env2 env' σ2 _ C3.1 rx (er2.mono C3.2) he fun σ4 er4=>hb env' s2 _ σ4 H3 ⟨ρ2,C3.1,er4,?_⟩
       cases hc:body env' s2 with
       |ok fl s5=>
        rw[hc]at h2
        simp only[za]at h2
        cases fl with
        |nx e=>exact fun ρ5 H5 σ5 x5 hr5 er5=>⟨ρ5,s5,e,hr5,er5,x3.trans C3.1 x5,h2⟩
        |ct e=>exact fun ρ5 H5 σ5 x5 hr5 er5=>⟨ρ5,s5,e,hr5,er5,x3.trans C3.1 x5,h2⟩
        |bk e=>
         simp only[]at h2
         rw[←h2]at w
         exact fun ρ5 H5 σ5 x5 hr5 er5=>w ρ5 H5 σ5 (x3.trans C3.1 x5) hr5 er5
        |rt v=>
         simp only[]at h2
         rw[←h2]at w
         exact fun ρ5 H5 y5 x5 hr5 r5=>w ρ5 H5 y5 (x3.trans C3.1 x5) hr5 r5
       |exc _ _ _=>rw[hc]at h2;simp only[iT]at h2;rw[←h2]at w;exact w.elim
       |stuck=>rw[hc]at h2;simp only[sQ]at h2;rw[←h2]at w;exact w.elim
   . rw[←h2]at w;exact w.elim
theorem ZZ{Φ:Calls}{G:Str→Option Val}{it:Itb}{t:Tgt}{b:Sms}{tg iter:Expr}{body:List Stmt}{g:L2.TG}{pos:Pos}(hx:X.xe=fun _ _=>False)(hc:X.calm=true)(hp:plain iter=true)(hi:∀env s,L2.PI X tg iter (tI (K:=X.K) (mg:=X.mg) env s (yq Φ G env it s)))(hg:L2.PG X tg g)(TG:rl X.K X.mg t g)
 (hb:L2.PSs X body (uSs X.K X.mg Φ G b)):L2.PS X (.For tg iter body [] pos) (tSt X.K X.mg env s ((yq Φ G env it s).bind fun r s1=>vH r t (fun e s'=>zf Φ G e b s') r.xs env s1)):=by
 have hpass:PassesOwn (model X.prog X.w) X.A X.env X.xe:=by rw[hx];exact PassesOwn.never
 refine wU (L2.YR hpass hc (YO hi) hg hb (vC hp)) fun D σ H ⟨ρ,hr,er,w⟩=>⟨env,s,ρ,hr,er,?_⟩
 cases hv:yq Φ G env it s with
 |ok r s1=>
  rw[hv]at w
  exact fun ρ1 H1 J x1 hr1 W=>hG W TG (fun env s D σ H h=>⟨env,s,h⟩) hr1 (er.mono x1) (w.mono x1 hr1)
 |exc _ _ _=>rw[hv]at w;exact w.elim
 |stuck=>rw[hv]at w;exact w.elim
theorem dm:L2.PSs X [] (tSt X.K X.mg env s (.ok (.nx env) s)):=kS L2.cy fun D σ H ⟨ρ,hr,er,w⟩=>w ρ H σ Ext.refl hr er
theorem gQ{st:Stmt}{rest:List Stmt}{o:Out Fl}{f:Env→Sto→Out Fl}{tr:L2.TS}(h1:L2.PS X st (tSt X.K X.mg env s o))(h2:L2.PSs X rest tr)(i2:∀env s D σ H,tSt X.K X.mg env s (f env s) D σ H→tr D σ H) :
 L2.PSs X (st::rest) (tSt X.K X.mg env s (o.bind fun fl s1=>match fl with|.nx e=>f e s1|fl=>.ok fl s1)):=by
 refine kS (L2.fV h1 h2) fun D σ H ⟨ρ,hr,er,w⟩=>⟨ρ,hr,er,?_⟩
 cases o with
 |ok fl s1=>
  simp only[za]at w
  cases fl with
  |nx e=>exact fun ρ1 H1 σ1 x1 hr1 er1=>i2 e s1 D σ1 H1 ⟨ρ1,hr1,er1,w.mono x1 hr1⟩
  |bk e=>exact w
  |ct e=>exact w
  |rt v=>exact w
 |exc _ _ _=>exact w.elim
 |stuck=>exact w.elim
end
end M
end
section
namespace M
open PySem
mutual
noncomputable def ckS(sc:Scope)(N:List Str):Sm→Stmt→Bool
 |.expr e,st=>(match st with|.Expr x _=>ck sc N e x&&sE x|_=>false)
 |.ret e,st=>(match st with|.Return (some x) _=>ck sc N e x|_=>false)
 |.retN,_=>false
 |.asg i e,st=>(match st with|.Assign [.Name x _] v _=>decide (N[i]?=some x)&&(decide (sc.names.lookup x=some .local)||decide (sc.names.lookup x=some .cell))&&ck sc N e v|_=>false)
 |.asgT is e,st=>(match st with|.Assign [.Tuple ts _ _] v _=>z6 sc N is ts&&ck sc N e v&&notTuple v|_=>false)
 |.par is es,st=>(match st with|.Assign [.Tuple ts _ _] (.Tuple vs _ _) _=>z6 sc N is ts&&ckL sc N es vs&&yZ vs&&decide (is.length≤8)&&decide is.Nodup&&decide (ts.length=vs.length)&&(aE sc ts vs||aK sc ts)|_=>false)
 |.aug _ _ _,_=>false
 |.setIx o i e,st=>(match st with|.Assign [.Subscript a b _] v _=>ck sc N o a&&ck sc N i b&&ck sc N e v&&plain b|_=>false)
 |.ifS c a b,st=>(match st with|.If t x y _=>ckC sc N c t&&pI sc N a x&&pI sc N b y|_=>false)
 |.forS t it b,st=>(match st with|.For tg iter body [] _=>ckT sc N t tg&&ckI sc N it iter tg&&pI sc N b body&&plain iter|_=>false)
 |.whileS _ _,_=>false
 |.pass,_=>false
 |.brk,_=>false
 |.cont,_=>false
 |.raise _,_=>true
noncomputable def pI(sc:Scope)(N:List Str):Sms→List Stmt→Bool
 |.nil,ss=>(match ss with|[]=>true|_=>false)
 |.cons c cs,ss=>(match ss with|t::ts=>ckS sc N c t&&pI sc N cs ts|_=>false)
end
structure OkF(T:Tbl)(n:Nat)(sc:Scope)(N:List Str)(X:L2.Cx):Prop where
 ok:Ok T n sc N X
 esc:X.env.scope=sc
 bk:X.env.blockKind=.function
section
variable {T:Tbl}{n:Nat}
noncomputable def JS(T:Tbl)(n:Nat)(a:Sm):Prop:=∀(sc:Scope) (N:List Str) (X:L2.Cx) (st:Stmt),OkF T n sc N X→ckS sc N a st=true→∀env s,L2.PS X st (tSt X.K X.mg env s (exS (zL T n) T.gl env a s))
noncomputable def JSs(T:Tbl)(n:Nat)(a:Sms):Prop:=∀(sc:Scope) (N:List Str) (X:L2.Cx) (st:List Stmt),OkF T n sc N X→pI sc N a st=true→∀env s,L2.PSs X st (tSt X.K X.mg env s (zf (zL T n) T.gl env a s))
theorem kT{X:L2.Cx}{b:Sms}{st:List Stmt}{Φ:Calls}{G:Str→Option Val}(h:∀env s,L2.PSs X st (tSt X.K X.mg env s (zf Φ G env b s))):L2.PSs X st (uSs X.K X.mg Φ G b):=fun pins s σ H D I ⟨env,t,q⟩=>h env t pins s σ H D I q
theorem dZ{e:Ex}:JS T n (.expr e):=by
 intro sc N X st o h env s
 simp only[ckS]at h
 split at h
 . simp only[Bool.and_eq_true]at h
   exact di h.2 (jE T n e _ _ _ _ o.ok h.1 env s)
 . cases h
theorem ZP{e:Ex}:JS T n (.ret e):=by
 intro sc N X st o h env s
 simp only[ckS]at h
 split at h
 . exact Za (jE T n e _ _ _ _ o.ok h env s)
 . cases h
theorem m9{elt:Expr}{gens:List Comprehension}{csc:Scope}{cpos py:Pos}{y:Str}{l:Nat}{env:PySem.Env}:∃b,swapsWith (.ListComp elt gens csc cpos) (some (.Name y py)) l env=pure b:=⟨_,rfl⟩
theorem ZM{i:Nat}{e:Ex}:JS T n (.asg i e):=by
 intro sc N X st o h env s
 simp only[ckS]at h
 split at h
 . rename_i x px v pos
   simp only[Bool.and_eq_true,decide_eq_true_eq,Bool.or_eq_true]at h
   obtain⟨⟨h1,h2⟩,h3⟩:=h
   obtain⟨l1,l2⟩:=o.ok.scp.loc x h2
   have hN:X.N.Nodup:=by rw[o.ok.scp.hN];exact o.ok.scp.nd
   have hi:X.N[i]?=some x:=by rw[o.ok.scp.hN];exact h1
   by_cases hn:sE v=true
   . exact gO (L2.fU hN hi l1 (jE T n e _ _ _ _ o.ok h3 env s) (nR hn) l2) fun σ H Q q=>q
   . -- a comprehension
     cases e with
     |comp m N' fr elt t it ifs=>
      simp only[ck]at h3
      split at h3
      . rename_i x' tg iter fs csc cpos
        simp only[Bool.and_eq_true,decide_eq_true_eq]at h3
        obtain⟨⟨⟨⟨⟨⟨c1,c2⟩,c3⟩,c4⟩,c5⟩,c6⟩,c7⟩:=h3
        have S:=br o.ok.scp c1
        have oc:=o.ok.comp S c2
        obtain⟨g,pg,tg'⟩:∃g,(∀C s0 H0 ex,L2.PG (X.comp N' csc C s0 H0 ex) tg g)∧rl X.K X.mg t g:=by
         cases t with
         |nm i=>
          cases tg with
          |Name y p=>
           simp only[ckT,Bool.and_eq_true,Bool.or_eq_true,decide_eq_true_eq]at c3
           exact⟨_,fun C s0 H0 ex=>kO (oc C s0 H0 ex).scp c3.1 c3.2,oB⟩
          |_=>cases c3
         |nms is=>
          cases tg with
          |Tuple es k p=>
           simp only[ckT,Bool.and_eq_true,decide_eq_true_eq]at c3
           refine⟨_,fun C s0 H0 ex=>?_,vW (is:=is)⟩
           obtain⟨a,b,c⟩:=x8 (oc C s0 H0 ex).scp c3.1
           exact L2.rQ (X:=X.comp N' csc C s0 H0 ex) o.ok.calm a b c
          |_=>cases c3
        have hpi:L2.PI X tg iter (uI X.K X.mg (zL T n) T.gl it):=YO fun env s=>jI T n it _ _ _ _ _ o.ok c4 env s
        have hts:∀C s0 H0 ex,L2.PTs (X.comp N' csc C s0 H0 ex) fs (uTs X.K X.mg (zL T n) T.gl ifs):=fun C s0 H0 ex=>(jCs T n ifs _ _ _ _ (oc C s0 H0 ex) c5).2.2
        have hel:∀C s0 H0 ex,L2.PE (X.comp N' csc C s0 H0 ex) x' (uE X.K X.mg (zL T n) T.gl elt):=fun C s0 H0 ex=>WC (X:=X.comp N' csc C s0 H0 ex) fun env s=>jE T n elt _ _ _ _ (oc C s0 H0 ex) c6 env s
        have rule:L2.PS X (.Assign [.Name x px] (.ListComp x' [⟨tg,iter,fs,0⟩] csc cpos) pos) (L2.nS (L2.tU fr (uI X.K X.mg (zL T n) T.gl it) g (uTs X.K X.mg (zL T n) T.gl ifs) fun acc=>L2.qp acc (uE X.K X.mg (zL T n) T.gl elt)) (L2.uS i)):=by
         obtain⟨b,hb⟩:=m9 (elt:=x') (gens:=[⟨tg,iter,fs,0⟩]) (csc:=csc) (cpos:=cpos) (y:=x) (py:=px) (l:=pos.line) (env:=X.env)
         cases b with
         |true=>exact L2.cu o.ok.calm S hpi pg hts hel hN hi l1 hb l2 (vC c7)
         |false=>exact L2.fU hN hi l1 (L2.kN o.ok.calm S hpi pg hts hel (vC c7)) hb l2
        refine gO (o:=evE (zL T n) T.gl env (.comp m N' fr elt t it ifs) s) rule fun σ H Q hq=>qP (env:=env) (s:=s) (chk:=false) (m:=m) (body:=uo (zL T n) T.gl elt ifs) tg' tX (fun acc ρ0 H0 hn=>nU hn) ?_ fun _ r s1 p s2 hl=>?_
        . simp only[Bool.false_eq_true,false_implies,if_true];exact hq
        . have:=tG hl
          simpa using this
      . cases h3
     |_=>exfalso;apply hn;first|(simp only[ck,qM]at h3;cases h3;done)|(simp only[ck,qM]at h3;split at h3<;>first|rfl|(cases h3;done))
 . cases h
theorem dY{is:List Nat}{e:Ex}:JS T n (.asgT is e):=by
 intro sc N X st o h env s
 simp only[ckS]at h
 split at h
 . rename_i ts k p v pos
   simp only[Bool.and_eq_true]at h
   obtain⟨⟨h1,h2⟩,h3⟩:=h
   obtain⟨a,b,c⟩:=x8 o.ok.scp h1
   exact kH (t:=.nms is) vW (L2.mh (jE T n e _ _ _ _ o.ok h2 env s) (L2.rQ o.ok.calm a b c) vh (m8 h3)) fun σ H Q q=>q
 . cases h
theorem ZO{is:List Nat}{es:Exs}:JS T n (.par is es):=by
 intro sc N X st o h env s
 simp only[ckS]at h
 split at h
 . rename_i ts k p vs k2 p2 pos
   simp only[Bool.and_eq_true,decide_eq_true_eq,Bool.or_eq_true]at h
   obtain⟨⟨⟨⟨⟨⟨h1,h2⟩,h3⟩,h4⟩,h5⟩,h6⟩,h7⟩:=h
   have hes:=(jL T n es _ _ _ _ o.ok h2).1 h3 env s
   have hN:X.N.Nodup:=by rw[o.ok.scp.hN];exact o.ok.scp.nd
   have kind:∀x,X.env.kindOf x=sc.names.lookup x:=fun x=>by show X.env.scope.names.lookup x=_;rw[o.esc]
   rcases h7 with h7|h7
   . unfold aE at h7
     split at h7
     . rename_i x px y py
       simp only[Bool.and_eq_true,decide_eq_true_eq,Bool.not_eq_true']at h7
       obtain⟨⟨⟨⟨⟨q1,q2⟩,q3⟩,q4⟩,q5⟩,q6⟩:=h7
       match is,h1,h5 with
       |[i,j],h1,h5=>
        simp only[z6,Bool.and_eq_true,decide_eq_true_eq,Bool.or_eq_true]at h1
        obtain⟨⟨i1,i2⟩,⟨j1,j2⟩,_⟩:=h1
        match vs,h6 with
        |[a,b],_=>
         have hij:i≠j:=by rw[List.nodup_cons]at h5;exact fun z=>h5.1 (by rw[z];exact List.mem_singleton.mpr rfl)
         exact dj (L2.YS o.ok.calm hN (by rw[o.ok.scp.hN];exact i1) (by rw[o.ok.scp.hN];exact j1) hij (by rw[o.esc];exact q1) (by rw[o.esc];exact q2) hes
          (nQ o.bk (by rw[kind];exact q1) (by rw[kind];exact q2) q3 q4 h3 q5 q6) vh) fun σ H Q q=>q
       |[],h1,_=>exact absurd h1 (by simp[z6])
       |[_],h1,_=>exact absurd h1 (by simp[z6])
       |_::_::_::_,h1,_=>exact absurd h1 (by simp[z6])
     . rename_i x px y py z pz
       simp only[Bool.and_eq_true,decide_eq_true_eq,Bool.not_eq_true']at h7
       obtain⟨⟨⟨⟨⟨⟨⟨⟨⟨q1,q2⟩,q3⟩,q4⟩,q5⟩,q6⟩,q7⟩,q8⟩,q9⟩,q10⟩:=h7
       match is,h1,h5 with
       |[i,j,l],h1,h5=>
        simp only[z6,Bool.and_eq_true,decide_eq_true_eq,Bool.or_eq_true]at h1
        obtain⟨⟨i1,i2⟩,⟨j1,j2⟩,⟨l1,l2⟩,_⟩:=h1
        match vs,h6 with
        |[a,b,c],_=>
         simp only[List.nodup_cons,List.mem_cons,List.not_mem_nil,or_false,not_or]at h5
         exact dk (L2.cx o.ok.calm hN (by rw[o.ok.scp.hN];exact i1) (by rw[o.ok.scp.hN];exact j1) (by rw[o.ok.scp.hN];exact l1) h5.1.1 h5.1.2 h5.2.1 (by rw[o.esc];exact q1) (by rw[o.esc];exact q2) (by rw[o.esc];exact q3) hes
          (qA o.bk (by rw[kind];exact q1) (by rw[kind];exact q2) (by rw[kind];exact q3) q4 q5 q6 q7 q8 h3 q9 q10) vh) fun σ H Q q=>q
       |[],h1,_=>exact absurd h1 (by simp[z6])
       |[_],h1,_=>exact absurd h1 (by simp[z6])
       |[_,_],h1,_=>exact absurd h1 (by simp[z6])
       |_::_::_::_::_,h1,_=>exact absurd h1 (by simp[z6])
     . cases h7
   . have hun:(∃x p,Expr.Name x p∈ts∧X.env.kindOf x≠some .local)∨3<ts.length:=by
      unfold aK at h7
      simp only[Bool.or_eq_true,decide_eq_true_eq,List.any_eq_true]at h7
      rcases h7 with⟨e,hm,he⟩|h7
      . cases e with
        |Name x px=>
         simp only[decide_eq_true_eq]at he
         exact .inl ⟨x,px,hm,by rw[kind];exact he⟩
        |_=>cases he
      . exact .inr h7
     obtain⟨a,b,c⟩:=x8 o.ok.scp h1
     have rule:=kH (t:=.nms is) (env:=env) (s:=s) vW (L2.mh (pos:=pos) (gM (k:=k2) (pos:=p2) hes) (L2.rQ (k:=k) (pos:=p) o.ok.calm a b c) vh (iG hun)) fun σ H Q q=>q
     have e:((yp (zL T n) T.gl env es s).bind fun vs s1=>if vs.length=is.length then (.ok:Fl→Sto→Out Fl) (.nx ((is.zip vs).foldl (fun e p=>e.set p.1 (some p.2)) env)) s1 else .stuck)=(((yp (zL T n) T.gl env es s).bind fun vs s1=>if vs.length≤zO then (.ok:Val→Sto→Out Val) (.tup vs) s1 else .stuck).bind fun v s1=>match yg (.nms is) v env with|some env'=>(.ok:Fl→Sto→Out Fl) (.nx env') s1|Option.none=>.stuck):=by
      cases yp (zL T n) T.gl env es s with
      |ok ws s1=>
       simp only[za]
       by_cases hl:ws.length=is.length
       . have hz:ws.length≤zO:=by rw[hl];exact Nat.le_trans h4 (by decide)
         simp only[if_pos hl,if_pos hz,za,yg]
       . rw[if_neg hl]
         by_cases hz:ws.length≤zO
         . simp only[if_neg hl,if_pos hz,za,yg]
         . simp only[if_neg hz,sQ]
      |exc _ _ _=>rfl
      |stuck=>rfl
     show L2.PS X _ (tSt X.K X.mg env s ((yp (zL T n) T.gl env es s).bind fun vs s1=>if vs.length=is.length then .ok (.nx ((is.zip vs).foldl (fun e p=>e.set p.1 (some p.2)) env)) s1 else .stuck))
     rw[e]
     exact rule
 . cases h
theorem gF{a i e:Ex}:JS T n (.setIx a i e):=by
 intro sc N X st o h env s
 simp only[ckS]at h
 split at h
 . simp only[Bool.and_eq_true]at h
   exact gP h.2 (jE T n e _ _ _ _ o.ok h.1.2 env s) (fun s1=>jE T n a _ _ _ _ o.ok h.1.1.1 env s1) fun s1=>jE T n i _ _ _ _ o.ok h.1.1.2 env s1
 . cases h
theorem XR{c:Cn}{a b:Sms}(ja:JSs T n a)(jb:JSs T n b):JS T n (.ifS c a b):=by
 intro sc N X st o h env s
 simp only[ckS]at h
 split at h
 . simp only[Bool.and_eq_true]at h
   exact XZ (jC T n c _ _ _ _ o.ok h.1.1 env s) (kT fun env s=>ja _ _ _ _ o h.1.2 env s) (kT fun env s=>jb _ _ _ _ o h.2 env s) (fun s1 D σ H q=>⟨env,s1,q⟩) fun s1 D σ H q=>⟨env,s1,q⟩
 . cases h
theorem ZN{t:Tgt}{it:Itb}{b:Sms}(jb:JSs T n b):JS T n (.forS t it b):=by
 intro sc N X st o h env s
 simp only[ckS]at h
 split at h
 . simp only[Bool.and_eq_true]at h
   obtain⟨g,pg,tg⟩:=WE o.ok.scp o.ok.calm h.1.1.1
   exact ZZ o.ok.xe o.ok.calm h.2 (fun env s=>jI T n it _ _ _ _ _ o.ok h.1.1.2 env s) pg tg (kT fun env s=>jb _ _ _ _ o h.1.2 env s)
 . cases h
theorem gE{e:Ex}:JS T n (.raise e):=fun sc N X st o h env s=>zM (fun _ _ e=>by cases e)
theorem da:JSs T n .nil:=by
 intro sc N X st o h env s
 simp only[pI]at h
 split at h
 . exact dm
 . cases h
theorem gG{c:Sm}{cs:Sms}(jc:JS T n c)(jcs:JSs T n cs):JSs T n (.cons c cs):=by
 intro sc N X st o h env s
 simp only[pI]at h
 split at h
 . simp only[Bool.and_eq_true]at h
   exact gQ (f:=fun e s=>zf (zL T n) T.gl e cs s) (jc _ _ _ _ o h.1 env s) (kT fun env s=>jcs _ _ _ _ o h.2 env s) fun env s D σ H q=>⟨env,s,q⟩
 . cases h
end
section
variable (T:Tbl)(n:Nat)
mutual
theorem jS:∀a:Sm,JS T n a
 |.expr _=>dZ
 |.ret _=>ZP
 |.retN=>fun sc N X e o h=>by cases h
 |.asg _ _=>ZM
 |.asgT _ _=>dY
 |.par _ _=>ZO
 |.aug _ _ _=>fun sc N X e o h=>by cases h
 |.setIx _ _ _=>gF
 |.ifS _ a b=>XR (jSs a) (jSs b)
 |.forS _ _ b=>ZN (jSs b)
 |.whileS _ _=>fun sc N X e o h=>by cases h
 |.pass=>fun sc N X e o h=>by cases h
 |.brk=>fun sc N X e o h=>by cases h
 |.cont=>fun sc N X e o h=>by cases h
 |.raise _=>gE
theorem jSs:∀a:Sms,JSs T n a
 |.nil=>da
 |.cons c cs=>gG (jS c) (jSs cs)
end
end
end M
end
section
namespace M
open PySem
mutual
noncomputable def wm(n:Nat):Val→Bool
 |.ref i=>decide (i<n)
 |.tup vs=>vE n vs
 |.lst vs=>vE n vs
 |.none|.bool _|.int _|.str _|.dct0|.ctup _|.scr _|.fn _|.ty _=>true
noncomputable def vE(n:Nat):List Val→Bool
 |[]=>true
 |v::vs=>wm n v&&vE n vs
end
mutual
theorem vS:∀{n:Nat} {v:Val},v.noRef=true→wm n v=true
 |_,.ref _,h=>by cases h
 |n,.tup vs,h=>by rw[wm];exact wo (by simpa only[Val.noRef] using h)
 |n,.lst vs,h=>by rw[wm];exact wo (by simpa only[Val.noRef] using h)
 |_,.none,_=>rfl
 |_,.bool _,_=>rfl
 |_,.int _,_=>rfl
 |_,.str _,_=>rfl
 |_,.dct0,_=>rfl
 |_,.ctup _,_=>rfl
 |_,.scr _,_=>rfl
 |_,.fn _,_=>rfl
 |_,.ty _,_=>rfl
theorem wo:∀{n:Nat} {vs:List Val},zm vs=true→vE n vs=true
 |_,[],_=>rfl
 |n,v::vs,h=>by
  rw[zm,Bool.and_eq_true]at h
  rw[vE,vS h.1,wo h.2];rfl
end
section
variable {K:KF}{mg:Str→Option Value}
mutual
theorem RD.refs{ρ:Own}{H:L2.Hp}:∀{v:Val} {x:L2.V},RD K mg ρ H v x→wm ρ.o.length v=true
 |_,_,.none=>rfl
 |_,_,.bool _=>rfl
 |_,_,.int _=>rfl
 |_,_,.str _=>rfl
 |_,_,.tup _ _ r=>by rw[wm];exact RDs.refs r
 |_,_,.lst _ _ r=>by rw[wm];exact RDs.refs r
 |_,_,.dct0 _ _=>rfl
 |_,_,.ctup _=>rfl
 |_,_,.scr _=>rfl
 |_,_,.ref e=>by rw[wm];exact decide_eq_true (List.getElem?_eq_some_iff.mp e).1
 |_,_,.fn _=>rfl
 |_,_,.ty _=>rfl
theorem RDs.refs{ρ:Own}{H:L2.Hp}:∀{v:List Val} {x:List L2.V},RDs K mg ρ H v x→vE ρ.o.length v=true
 |_,_,.nil=>rfl
 |_,_,.cons r rs=>by rw[vE,RD.refs r,RDs.refs rs];rfl
end
structure Cut(ρ ρ':Own):Prop where
 pre:∃new,ρ'.o=ρ.o++new
 hid:ρ'.h=ρ.h
theorem Cut.no{ρ ρ':Own}(c:Cut ρ ρ'){a:Addr}(n:ρ'.no a):ρ.no a:=by
 obtain⟨new,e⟩:=c.pre
 exact⟨fun h=>n.1 (by rw[e];exact List.mem_append_left _ h),by rw[←c.hid];exact n.2⟩
mutual
theorem RD.wW{ρ ρ':Own}{H:L2.Hp}(c:Cut ρ ρ'):∀{v:Val} {x:L2.V},RD K mg ρ' H v x→wm ρ.o.length v=true→RD K mg ρ H v x
 |_,_,.none,_=>.none
 |_,_,.bool b,_=>.bool b
 |_,_,.int i,_=>.int i
 |_,_,.str t,_=>.str t
 |_,_,.tup n e r,h=>.tup (c.no n) e (RDs.wW c r (by simpa only[wm] using h))
 |_,_,.lst n e r,h=>.lst (c.no n) e (RDs.wW c r (by simpa only[wm] using h))
 |_,_,.dct0 n e,_=>.dct0 (c.no n) e
 |_,_,.ctup h,_=>.ctup h
 |_,_,.scr h,_=>.scr (by
    rcases h with⟨n,h⟩|h
    . exact .inl ⟨c.no n,h⟩
    . exact .inr h)
 |_,_,.ref (i:=i) e,h=>.ref (by
    obtain⟨new,e'⟩:=c.pre
    rw[wm]at h
    rw[e',List.getElem?_append_left (of_decide_eq_true h)]at e
    exact e)
 |_,_,.fn e,_=>.fn e
 |_,_,.ty n,_=>.ty n
theorem RDs.wW{ρ ρ':Own}{H:L2.Hp}(c:Cut ρ ρ'):∀{v:List Val} {x:List L2.V},RDs K mg ρ' H v x→vE ρ.o.length v=true→RDs K mg ρ H v x
 |_,_,.nil,_=>.nil
 |_,_,.cons r rs,h=>by
  rw[vE,Bool.and_eq_true]at h
  exact .cons (RD.wW c r h.1) (RDs.wW c rs h.2)
end
theorem oq:∀{s s':Sto} {i:Nat} {o':Cel},wF s s'=true→i<s.length→s'[i]?=some o'→o'.noRef=true∨s[i]?=some o'
 |[],_,_,_,_,h,_=>by cases h
 |o::r,[],_,_,h,_,_=>by cases h
 |o::r,o'::r',0,q,h,_,e=>by
  rw[wF,Bool.and_eq_true,Bool.or_eq_true]at h
  simp only[List.getElem?_cons_zero,Option.some.injEq]at e
  subst e
  rcases h.1 with z|z
  . exact .inl z
  . right
    cases o' with
    |lst a=>cases o with
     |lst b=>simp only[Cel.beq]at z;rw[vZ z];rfl
 |o::r,o'::r',i+1,q,h,hi,e=>by
  rw[wF,Bool.and_eq_true]at h
  have:=oq (i:=i) h.2 (by simpa using hi) (by simpa using e)
  simpa using this
mutual
theorem sY{ρ ρ':Own}{H:L2.Hp}{s:Sto}(c:Cut ρ ρ')(hr:HR K mg ρ' s H):∀{k:Nat} {v v':Val} {x:L2.V},RD K mg ρ' H v x→uR ρ.o.length s k v=some v'→RD K mg ρ H v' x
 |k,.ref i,v',x,r,h=>by
  have h':(if i<ρ.o.length then some (Val.ref i) else match s[i]? with
   |some (.lst vs)=>if zm vs then some (.lst vs) else Option.none
   |Option.none=>Option.none)=some v':=by cases k<;>exact h
  cases r with
  |ref e=>
   by_cases hi:i<ρ.o.length
   . rw[if_pos hi]at h'
     cases h'
     exact RD.wW c (.ref e) (by rw[wm];exact decide_eq_true hi)
   . rw[if_neg hi]at h'
     split at h'
     . rename_i vs hs
       split at h'
       . rename_i hn
         cases h'
         obtain⟨a,xs,e1,e2,q⟩:=hr.obj i vs hs
         rw[e]at e1;cases e1
         obtain⟨new,e'⟩:=c.pre
         have hm:=List.mem_of_getElem? e
         refine .lst ⟨fun hm'=>?_,fun hh=>?_⟩ e2 (RDs.wW c q (wo hn))
         . obtain⟨j,hj,ej⟩:=List.getElem_of_mem hm'
           have ej':ρ'.o[j]?=ρ'.o[i]?:=by rw[e,e',List.getElem?_append_left hj,List.getElem?_eq_getElem hj,ej]
           have:=gj hr.nd e (ej'.trans e)
           omega
         . exact(hr.hid _ (by rw[c.hid];exact hh)).2 hm
       . cases h'
     . cases h'
 |k+1,.tup vs,v',x,r,h=>by
  rw[uR,Option.map_eq_some_iff]at h
  obtain⟨ws,h1,rfl⟩:=h
  cases r with
  |tup n e q=>exact .tup (c.no n) e (sX c hr q h1)
 |0,.tup vs,v',x,r,h=>by
  have h':(if (Val.tup vs).noRef then some (Val.tup vs) else Option.none)=some v':=h
  split at h'
  . rename_i hn;cases h';exact RD.wW c r (vS hn)
  . cases h'
 |k,.lst vs,v',x,r,h=>by
  have h':(if (Val.lst vs).noRef then some (Val.lst vs) else Option.none)=some v':=by cases k<;>exact h
  split at h'
  . rename_i hn;cases h';exact RD.wW c r (vS hn)
  . cases h'
 |k,.none,v',x,r,h=>by
  have h':some Val.none=some v':=by cases k<;>exact h
  cases h';exact RD.wW c r rfl
 |k,.bool b,v',x,r,h=>by
  have h':some (Val.bool b)=some v':=by cases k<;>exact h
  cases h';exact RD.wW c r rfl
 |k,.int b,v',x,r,h=>by
  have h':some (Val.int b)=some v':=by cases k<;>exact h
  cases h';exact RD.wW c r rfl
 |k,.str b,v',x,r,h=>by
  have h':some (Val.str b)=some v':=by cases k<;>exact h
  cases h';exact RD.wW c r rfl
 |k,.dct0,v',x,r,h=>by
  have h':some Val.dct0=some v':=by cases k<;>exact h
  cases h';exact RD.wW c r rfl
 |k,.ctup b,v',x,r,h=>by
  have h':some (Val.ctup b)=some v':=by cases k<;>exact h
  cases h';exact RD.wW c r rfl
 |k,.scr b,v',x,r,h=>by
  have h':some (Val.scr b)=some v':=by cases k<;>exact h
  cases h';exact RD.wW c r rfl
 |k,.fn b,v',x,r,h=>by
  have h':some (Val.fn b)=some v':=by cases k<;>exact h
  cases h';exact RD.wW c r rfl
 |k,.ty b,v',x,r,h=>by
  have h':some (Val.ty b)=some v':=by cases k<;>exact h
  cases h';exact RD.wW c r rfl
theorem sX{ρ ρ':Own}{H:L2.Hp}{s:Sto}(c:Cut ρ ρ')(hr:HR K mg ρ' s H):∀{k:Nat} {v v':List Val} {x:List L2.V},RDs K mg ρ' H v x→sC ρ.o.length s k v=some v'→RDs K mg ρ H v' x
 |k,[],v',x,r,h=>by
  have h':some ([]:List Val)=some v':=by cases k<;>exact h
  cases h';cases r;exact .nil
 |0,_::_,v',x,r,h=>by cases h
 |k+1,v::vs,v',x,r,h=>by
  rw[sC]at h
  cases r with
  |cons r1 r2=>
   split at h
   . rename_i a b ha hb
     cases h
     refine .cons ?_ (sX c hr r2 hb)
     by_cases hn:v.noRef=true
     . rw[if_pos hn]at ha;cases ha;exact RD.wW c r1 (vS hn)
     . rw[if_neg hn]at ha;exact sY c hr r1 ha
   . cases h
end
theorem oW{F:Fn}{ρ ρ':Own}{H H':L2.Hp}{s s1:Sto}{v:Val}{x:L2.V}{Q:L2.VK}(h0:HR K mg ρ s H)(w:yv K mg (RD K mg) ρ H (leave F s v s1) Q)(X:Ext ρ H ρ' H')(hr:HR K mg ρ' s1 H')(r:RD K mg ρ' H' v x):Q x H':=by
 unfold leave at w
 by_cases hk:F.keep=true
 . rw[if_pos hk]at w;exact w ρ' x H' X hr r
 . rw[if_neg hk]at w
   by_cases ho:wF s s1=true
   . rw[if_pos ho]at w
     have c:Cut ρ ρ':=⟨by obtain⟨new,e,_⟩:=X.pre;exact⟨new,e⟩,X.hid⟩
     cases hf:freeze s.length s1 v with
     |none=>rw[hf]at w;exact w.elim
     |some v'=>
      rw[hf]at w
      have hlen:s.length≤s1.length:=by
       obtain⟨new,e,_⟩:=X.pre
       rw[←h0.len,←hr.len,e,List.length_append];omega
      refine w ρ x H' ⟨⟨[],by simp,fun a ha=>by cases ha⟩,rfl,X.keep⟩ ⟨?_,h0.nd,fun i vs e=>?_,fun a ha=>?_⟩ ?_
      . rw[List.length_take,h0.len];omega
      . have hi:i<s.length:=by
         have:=(List.getElem?_eq_some_iff.mp e).1
         rw[List.length_take]at this;omega
        rw[List.getElem?_take_of_lt hi]at e
        obtain⟨a,xs,e1,e2,q⟩:=hr.obj i vs e
        have e3:ρ.o[i]?=some a:=by
         obtain⟨new,e',_⟩:=X.pre
         rw[e',List.getElem?_append_left (by rw[h0.len];exact hi)]at e1
         exact e1
        refine⟨a,xs,e3,e2,RDs.wW c q ?_⟩
        rcases oq ho hi e with z|z
        . exact wo z
        . obtain⟨b,ys,_,_,q'⟩:=h0.obj i vs z
          exact RDs.refs q'
      . obtain⟨z,n⟩:=hr.hid a (by rw[X.hid];exact ha)
        exact⟨z,(h0.hid a ha).2⟩
      . unfold freeze at hf
        by_cases hn:v.noRef=true
        . rw[if_pos hn]at hf;cases hf;exact RD.wW c r (vS hn)
        . rw[if_neg hn,←h0.len]at hf
          exact sY c hr r hf
   . rw[if_neg ho]at w;exact w.elim
theorem eG{ρ:Own}{H:L2.Hp}{args:List Val}{vs:List L2.V}{N:List Str}(r:RDs K mg ρ H args vs):ER K mg ρ H (zR N args) (L2.start N vs):=by
 refine⟨by unfold zR L2.start;rw[List.length_append,List.length_append,List.length_map,List.length_map,List.length_replicate,List.length_replicate,r.length],fun i v e=>?_⟩
 unfold zR at e
 unfold L2.start
 by_cases hi:i<args.length
 . rw[List.getElem?_append_left (by simpa using hi),List.getElem?_map]at e
   rw[List.getElem?_append_left (by rw[List.length_map,←r.length];exact hi),List.getElem?_map]
   cases ha:args[i]? with
   |none=>rw[ha]at e;cases e
   |some a=>
    rw[ha]at e
    have:a=v:=Option.some.inj (Option.some.inj e)
    subst this
    obtain⟨x,h1,h2⟩:=r.get ha
    exact⟨x,by rw[h1];rfl,h2⟩
 . rw[List.getElem?_append_right (by simpa using hi),List.getElem?_replicate]at e
   split at e<;>cases e
end
noncomputable def argNames(a:Arguments):Option (List Str):=
 if a.posonlyargs.isEmpty&&a.vararg.isNone&&a.kwonlyargs.isEmpty&&a.kw_defaults.isEmpty&&a.kwarg.isNone&&a.defaults.isEmpty then some (a.args.map (·.arg)) else none
noncomputable def ij(st:Stmt)(F:Fn):Bool:=
 match st with
 |.FunctionDef _ args body _ _ _ sc _ _ _=>decide (argNames args=some F.ps)&&decide (sc.kind=.function)&&!sc.isCoroutine&&!sc.isGenerator&&decide F.N.Nodup&&decide (F.N.take F.ps.length=F.ps) &&
  F.ps.all (fun x=>decide (sc.names.lookup x=some .local)||decide (sc.names.lookup x=some .cell))&&sc.names.all (fun y=>decide (y.2≠.free))&&pI sc F.N F.body body
 |_=>false
theorem mG:∀{ps:List Str} {us:List Value},ps.Nodup→us.length=ps.length→ps.filterMap (fun n=>((ps.zip us).lookup n).map (n,·))=ps.zip us:=by
 have key:∀(ps qs:List Str) (us ws:List Value),(qs++ps).Nodup→us.length=ps.length→ws.length=qs.length→ps.filterMap (fun n=>(((qs++ps).zip (ws++us)).lookup n).map (n,·))=ps.zip us:=by
  intro ps
  induction ps with
  |nil=>intro qs us ws _ _ _;rfl
  |cons p ps ih=>
   intro qs us ws nd h1 h2
   cases us with
   |nil=>cases h1
   |cons u us=>
    have hl:((qs++p::ps).zip (ws++u::us)).lookup p=some u:=by
     rw[List.zip_append h2.symm]
     have:∀(qs:List Str) (ws:List Value),p ∉ qs→((qs.zip ws)++(p::ps).zip (u::us)).lookup p=some u:=by
      intro qs
      induction qs with
      |nil=>intro ws _;simp
      |cons q qs ih2=>
       intro ws hn
       cases ws with
       |nil=>simp
       |cons w ws=>
        have hpq:(p == q)=false:=by
         have:p≠q:=fun z=>hn (by rw[z];exact List.mem_cons_self)
         simpa using this
        rw[List.zip_cons_cons,List.cons_append,List.lookup_cons,hpq]
        exact ih2 ws fun z=>hn (List.mem_cons_of_mem _ z)
     refine this qs ws fun z=>?_
     rw[List.nodup_append]at nd
     exact nd.2.2 p z p List.mem_cons_self rfl
    rw[List.filterMap_cons,hl]
    have:=ih (qs++[p]) us (ws++[u]) (by simpa using nd) (by simpa using h1) (by simp[h2])
    rw[List.append_assoc,List.append_assoc]at this
    exact congrArg ((p,u)::·) this
 intro ps us nd h
 simpa using key ps [] us [] (by simpa using nd) h rfl
theorem lookup_some:∀{ps:List Str} {us:List Value},us.length=ps.length→∀n∈ps,((ps.zip us).lookup n).isNone=false
 |[],_,_,n,h=>by cases h
 |p::ps,[],h,_,_=>by cases h
 |p::ps,u::us,h,n,hn=>by
  rw[List.zip_cons_cons,List.lookup_cons]
  cases hb:(n == p) with
  |true=>rfl
  |false=>
   have:n≠p:=by simpa using hb
   rcases List.mem_cons.mp hn with z|z
   . exact absurd z this
   . exact lookup_some (by simpa using h) n z
theorem oI{x qual:Str}{a:Arguments}{body:List Stmt}{sc:Scope}{kV doc pm cdv ct:Value}{an:Option Addr}{ps:List Str}(h:argNames a=some ps)(nd:ps.Nodup)(us:List Value)(hl:us.length=ps.length) :
 bindArgs (PySem.W.fnOf x qual a body sc .none kV doc pm an cdv ct) ⟨us,[]⟩=pure (ps.zip us):=by
 unfold argNames at h
 split at h
 . rename_i hc
   simp only[Bool.and_eq_true,List.isEmpty_iff,Option.isNone_iff_eq_none]at hc
   obtain⟨⟨⟨⟨⟨h1,h2⟩,h3⟩,h4⟩,h5⟩,h6⟩:=hc
   cases h
   obtain⟨po,ar,va,ko,kd,kw,df⟩:=a
   simp only at h1 h2 h3 h4 h5 h6 hl nd ⊢
   subst h1 h2 h3 h4 h5 h6
   have hm:((ar.map (·.arg)).take ((ar.map (·.arg)).length-0)).filter (fun n=>(((ar.map (·.arg)).zip us).lookup n).isNone)=[]:=by
    rw[List.filter_eq_nil_iff]
    intro n hn
    rw[lookup_some hl n (List.mem_of_mem_take hn)]
    decide
   unfold bindArgs
   have hd:seqItems? Value.none=pure none:=rfl
   have hg:¬(us.length > (ar.map (·.arg)).length∧True):=by rintro ⟨z,_⟩;omega
   simp only[PySem.W.fnOf,List.map_nil,List.nil_append,List.append_nil,List.forIn_nil,pure_bind,hd,Option.getD_none,List.toList_toArray,List.length_nil,List.drop_nil,Nat.sub_zero,Option.isNone_none,Bool.and_true]
   rw[if_neg (by rw[List.length_map]at hl;simp;omega)]
   have hm':(List.filter (fun n=>(List.lookup n ((List.map (fun x=>x.arg) ar).zip us)).isNone) (List.take (List.map (fun x=>x.arg) ar).length (List.map (fun x=>x.arg) ar)))=[]:=hm
   rw[hm',if_neg (by decide),List.zip_nil_right,List.forIn_nil,pure_bind,if_neg (by decide),mG nd hl]
 . cases h
noncomputable def oG(K:KF)(x:Str)(st:Stmt):Prop:=∃f fd,PySem.W.nsIn K mainGlobals x=some (some (.ref f))∧L2.Fun K x x st f fd
theorem aa{K:KF}{x:Str}{st:Stmt}{f:Addr}{oc:Value}{od an:Option Addr}{osl:Array (Option Value)}{kV doc pm cdv ct:Value}(a:PySem.W.nsIn K mainGlobals x=some (some (.ref f)))
 (l:K.lookup f=some ⟨oc,od,.func (PySem.W.fnOf x x (L2.w5 st) (L2.xY st) (L2.zq st) .none kV doc pm an cdv ct),osl⟩) (c:PySem.W.codeIn K cdv x=true) (k:PySem.W.keepIn K (.ref f)=true):oG K x st:=
 ⟨f,_,a,L2.ai l c k⟩
section
variable {P:Program}{w:World}{K:KF}{mg:Str→Option Value}{base:Heap}{T:Tbl}
structure Top(T:Tbl)(K:KF)(mg:Str→Option Value):Prop where
 defs:∀f v F,T.fn f v=some F→∃st fa fd,mg f=some (.ref fa)∧L2.Fun K f f st fa fd∧ij st F=true
 gls:∀x v,T.gl x=some v→∃u xv,mg x=some u∧L2.RelV xv u∧∀ρ H,RD K mg ρ H v xv
 blt:∀x∈wY,mg x=none
theorem vv{st:Stmt}{F:Fn}(h:ij st F=true):argNames (L2.w5 st)=some F.ps∧L2.tu F.N F.ps (L2.zq st)∧pI (L2.zq st) F.N F.body (L2.xY st)=true:=by
 unfold ij at h
 split at h
 . simp only[Bool.and_eq_true,decide_eq_true_eq,Bool.not_eq_true',List.all_eq_true,Bool.or_eq_true]at h
   obtain⟨⟨⟨⟨⟨⟨⟨⟨h1,h2⟩,h3⟩,h4⟩,h5⟩,h6⟩,h7⟩,h8⟩,h9⟩:=h
   exact⟨h1,⟨h2,h3,h4,h5,h6,h7,h8⟩,h9⟩
 . cases h
theorem bt(top:Top T K mg):∀(n:Nat) (f:Str) (v:Nat) (F:Fn) (st:Stmt) (fa:Addr) (fd:FuncData),T.fn f v=some F→L2.Fun K f f st fa fd→ij st F=true→L2.tY P w K mg base L2.CX0 n fa fd F.ps (spN T K mg n f v)
 |0,f,v,F,st,fa,fd,h,e2,e3=>by
  refine⟨fun vs H Q E q=>?_,fun A outer s H args us vs Q E _ _ _ _ q=>?_⟩
  . obtain⟨ρ,t,as,_,_,z⟩:=q;exact z.elim
  . obtain⟨ρ,t,as,_,_,z⟩:=q;exact z.elim
 |n+1,f,v,F,st,fa,fd,h,e2,e3=>by
  obtain⟨p1,p2,p3⟩:=vv e3
  have hcall:∀(vs:List Val) (s:Sto),zL T (n+1) f v vs s=run T (zL T n) F vs s:=fun vs s=>by simp only[zL,h]
  refine e2.ok p2 (fun vs H Q E q=>?_) fun cdv A outer s H vs Q E hr q=>?_
  . obtain⟨ρ,t,as,_,r,z⟩:=q
    rw[hcall]at z
    unfold run at z
    split at z
    . rename_i hl;rw[←r.length];exact hl
    . exact z.elim
  . obtain⟨ρ,t,as,h0,r,z⟩:=q
    rw[hcall]at z
    unfold run at z
    have hl:as.length=F.ps.length:=by
     by_cases hl:as.length=F.ps.length
     . exact hl
     . rw[if_neg hl]at z;exact z.elim
    rw[if_pos hl]at z
    have okf:OkF T n (L2.zq st) F.N (L2.nt L2.CX0 P w K mg base F.N f (L2.zq st) fa cdv A outer s H E).nox:=by
     refine⟨⟨rfl,hr,⟨rfl,p2.nd,fun x hx=>hx,fun x hx=>⟨hx,.inl rfl⟩,fun x hx=>hx,fun x hx=>hx⟩,fun g v' G hg=>?_,top.gls,top.blt,rfl⟩,rfl,?_⟩
     . obtain⟨st2,ga,gd,q1,q2,q3⟩:=top.defs g v' G hg
       obtain⟨r1,r2,r3⟩:=vv q3
       have nd:G.ps.Nodup:=by rw[←r2.pre];exact r2.nd.sublist (List.take_sublist _ _)
       exact⟨ga,gd,q1,q2.kp,q2.binds fun kV doc pm an cdv ct us hl=>oI r1 nd us hl,bt top n g v' G st2 ga gd hg q2 q3⟩
     . show (if (L2.zq st).kind.isAnnotationScope then ScopeKind.function else (L2.zq st).kind)=.function
       rw[p2.kind];rfl
    refine⟨_,jSs T n F.body (L2.zq st) F.N _ (L2.xY st) okf p3 (zR F.N as) t,ρ,h0,eG r,?_⟩
    show qE K mg ρ H (zf (zL T n) T.gl (zR F.N as) F.body t) _
    cases hx:zf (zL T n) T.gl (zR F.N as) F.body t with
    |ok fl s1=>
     rw[hx]at z
     cases fl with
     |nx e=>exact fun ρ1 H1 σ1 x1 hr1 er1=>oW h0 z x1 hr1 .none
     |rt v'=>exact fun ρ1 H1 x x1 hr1 r1=>oW h0 z x1 hr1 r1
     |bk e=>exact z.elim
     |ct e=>exact z.elim
    |exc _ _ _=>rw[hx]at z;exact z.elim
    |stuck=>rw[hx]at z;exact z.elim
end
end M
end
section
namespace M
open PySem Hd
noncomputable def kj(K:KF)(x:Str):Val→Prop
 |.int i=>∃t,PySem.W.nsIn K mainGlobals x=some (some (.int i t))
 |.str y=>∃t,PySem.W.nsIn K mainGlobals x=some (some (.str y t))
 |.ctup ns=>∃a,PySem.W.nsIn K mainGlobals x=some (some (.ref a))∧KT K a (ns.map L2.V.int)
 |_=>False
noncomputable def tbl(fnL:List ((Str × Nat) × Fn))(glL:List (Str × Val)):Tbl:=⟨fun f v=>fnL.lookup (f,v),fun x=>glL.lookup x⟩
noncomputable def ka(fnL:List ((Str × Nat) × Fn))(D:List (Str × Stmt)):Bool:=fnL.all fun p=>match D.lookup p.1.1 with|some st=>ij st p.2|none=>false
theorem rE{α β:Type} [BEq α] [LawfulBEq α]:∀{l:List (α × β)} {a:α} {b:β},l.lookup a=some b→(a,b)∈l
 |[],_,_,h=>by cases h
 |(c,d)::l,a,b,h=>by
  rw[List.lookup_cons]at h
  cases hb:(a == c) with
  |true=>rw[hb]at h;cases h;rw[eq_of_beq hb];exact List.mem_cons_self
  |false=>rw[hb]at h;exact List.mem_cons_of_mem _ (rE h)
theorem Yh{K:KF}{mg:Str→Option Value}{h:Heap}{fnL:List ((Str × Nat) × Fn)}{glL:List (Str × Val)}{D:List (Str × Stmt)}(X:K.In h)(G:h.Ns mainGlobals mg)(hd:∀p∈D,oG K p.1 p.2)(hg:∀p∈glL,kj K p.1 p.2)(hb:∀x∈wY,PySem.W.nsIn K mainGlobals x=some none)
 (hc:ka fnL D=true):Top (tbl fnL glL) K mg:=by
 refine⟨fun f v F e=>?_,fun x v e=>?_,fun x hx=>PySem.W.mg_none_of X G (hb x hx)⟩
 . have hm:((f,v),F)∈fnL:=rE e
   unfold ka at hc
   rw[List.all_eq_true]at hc
   have h1:=hc _ hm
   split at h1
   . rename_i st hs
     obtain⟨fa,fd,a,F'⟩:=hd _ (rE hs)
     exact⟨st,fa,fd,PySem.W.mg_of X G a,F',h1⟩
   . cases h1
 . have hm:(x,v)∈glL:=rE e
   have h1:=hg _ hm
   cases v with
   |int i=>
    obtain⟨t,a⟩:=h1
    exact⟨_,.int i,PySem.W.mg_of X G a,⟨t,rfl⟩,fun ρ H=>.int i⟩
   |str y=>
    obtain⟨t,a⟩:=h1
    exact⟨_,.str y,PySem.W.mg_of X G a,⟨t,rfl⟩,fun ρ H=>.str y⟩
   |ctup ns=>
    obtain⟨a,h2,h3⟩:=h1
    exact⟨_,.ref a,PySem.W.mg_of X G h2,rfl,fun ρ H=>.ctup h3⟩
   |_=>exact h1.elim
theorem int_mk{K:KF}{x:Str}{i:Int}{t:Tok}(a:PySem.W.nsIn K mainGlobals x=some (some (.int i t))):kj K x (.int i):=⟨t,a⟩
theorem str_mk{K:KF}{x y:Str}{t:Tok}(a:PySem.W.nsIn K mainGlobals x=some (some (.str y t))):kj K x (.str y):=⟨t,a⟩
theorem sd:∀{us:List Value} {ns:List Int},oU us=some ns→L2.Vals (ns.map L2.V.int) us
 |[],_,h=>by cases h;exact .nil
 |u::us,ns,h=>by
  cases u with
  |int i t=>
   simp only[oU,Option.map_eq_some_iff]at h
   obtain⟨ms,h1,rfl⟩:=h
   exact .cons ⟨t,rfl⟩ (sd h1)
  |_=>cases h
theorem dA{K:KF}{x:Str}{a:Addr}{od:Option Addr}{us:List Value}{n:Nat}{sl:Array (Option Value)}{ns:List Int}(h:PySem.W.nsIn K mainGlobals x=some (some (.ref a)))
 (l:K.lookup a=some ⟨.type "tuple",od,.seq us.toArray n,sl⟩) (hz:us.length≤1000) (hi:oU us=some ns):kj K x (.ctup ns):=
 ⟨a,h,_,us.toArray,n,l,rfl,rfl,by rw[List.size_toArray,sizeLine_eq];omega,by simpa using sd hi⟩
noncomputable def WZ(K:KF):L2.Sp:=fun vs H Q _=>∃(a:Addr) (ns:List Int),vs=[.ref a]∧L2.SqL K H a (ns.map L2.V.int)∧ns.length≤63∧∀H',Q (.bl true) H'
theorem walk{l:PySem.W.OpenLaw}{q:Program}{loose:List Str}{XP:(Str→Option Value)→Heap→Prop}{YP:World→Heap→Prop}{d:DefRec}{K:Params→KF}{T:Tbl}{F:Fn}{n:Nat}{x:Str}(hn:l.most=some 63)(hdf:d.params.defaults=[])(hr:L2.y9 n callerA)
 (hY:∀(w:World) (h:Heap),YP w h→(K w.params).In h) (hF:T.fn d.name 0=some F) (hx:F.ps=[x])
 (TOP:∀(w:World) (mg:Str→Option Value) (h:Heap),(K w.params).In h→h.Ns mainGlobals mg→Top T (K w.params) mg)
 (HL:∀ns:List Int,ns.length≤63→∃s',zL T n d.name 0 [.scr ns] []=.ok (.bool true) s') :
 PySem.W.WalkO q loose XP YP l.row.toRowW d [] (fun f vs=>PySem.call f vs):=by
 refine L2.bY (n:=63) (k:=n) (x:=x) (CX:=fun _=>L2.CX0) (sp:=fun w=>WZ (K w.params)) hn (by decide) hdf hr hY (fun w mg fa h KX G hmg=>?_) (fun _ _ a ns hl _ hS=>⟨a,ns,rfl,hS,hl,fun _=>rfl⟩) fun _ _ _ _ _ z=>z
 have top:=TOP w mg h KX G
 obtain⟨st,fa',fd',e1,e2,e3⟩:=top.defs _ _ _ hF
 obtain⟨p1,p2,p3⟩:=vv e3
 have nd:F.ps.Nodup:=by rw[←p2.pre];exact p2.nd.sublist (List.take_sublist _ _)
 rw[e1]at hmg
 cases hmg
 refine⟨fd',fun s u=>?_,fun base kb nb=>?_⟩
 . obtain⟨oc,od,kV,doc,pm,an,cdv,ct,osl,e,_⟩:=e2.ex
   subst e
   refine .of_eq ?_
   have:=oI (x:=d.name) (qual:=d.name) (body:=L2.xY st) (sc:=L2.zq st) (kV:=kV) (doc:=doc) (pm:=pm) (cdv:=cdv) (ct:=ct) (an:=an) p1 nd [u] (by rw[hx];rfl)
   rw[hx]at this
   exact this
 . have f4:=bt (P:=l.prog) (w:=w) (base:=base) top n d.name 0 F st _ fd' hF e2 e3
   rw[hx]at f4
   refine f4.imp fun vs H Q E ⟨a,ns,e,hS,hl,hq⟩=>?_
   subst e
   obtain⟨s',hs⟩:=HL ns hl
   refine⟨⟨[],[]⟩,[],[.scr ns],⟨rfl,List.nodup_nil,fun i vs z=>by simp at z,fun a z=>by cases z⟩,.cons (.scr ?_) .nil,?_⟩
   . rcases hS with hS|hS
     . exact .inl ⟨⟨by simp,by simp⟩,hS⟩
     . exact .inr hS
   . rw[hs]
     intro ρ' x' H' _ _ r
     cases r
     exact hq H'
end M
end
section
namespace F
open PySem M
noncomputable def z0:Fn:=⟨["_law_script","_law_k"],["_law_script","_law_k"],false,(.cons (.ifS (.val (.cmp .lt (.var 1) (.blt .len false (.cons (.var 0) .nil)))) (.cons (.ret (.ix (.var 0) (.var 1))) .nil) .nil) (.cons (.ret (.lit (.int 0))) .nil))⟩
noncomputable def yz:Fn:=⟨["_law_pen_here","_law_many","_law_left","_law_found","_law_mixed"],["_law_pen_here","_law_many"],false,(.cons (.ifS (.val (.cmp .gt (.ix (.var 0) (.lit (.int 0))) (.lit (.int 0)))) (.cons (.asgT [2,3] (.blt .divmod false (.cons (.ix (.var 0) (.lit (.int 0))) (.cons (.var 1) .nil)))) (.cons (.setIx (.var 0) (.lit (.int 0)) (.var 2)) (.cons (.ret (.var 3)) .nil))) .nil) (.cons (.setIx (.var 0) (.lit (.int 1)) (.bin false .mod (.bin false .add (.bin false .mul (.ix (.var 0) (.lit (.int 1))) (.lit (.int 48271))) (.lit (.int 30269))) (.lit (.int 2147483629)))) (.cons (.asg 4 (.bin false .mod (.bin false .add (.bin false .add (.bin false .mul (.ix (.var 0) (.lit (.int 1))) (.ix (.var 0) (.lit (.int 1)))) (.bin false .mul (.lit (.int 40692)) (.ix (.var 0) (.lit (.int 1))))) (.lit (.int 7))) (.lit (.int 2147483587)))) (.cons (.ret (.bin false .mod (.bin false .fdiv (.var 4) (.lit (.int 64))) (.var 1))) .nil))))⟩
noncomputable def yQ:Fn:=⟨["_law_sizes_here","_law_found","_law_hue","_law_here","_law_size","_law_step"],["_law_sizes_here","_law_found","_law_hue"],false,(.cons (.par [3,4] (.cons (.blt .len false (.cons (.var 1) .nil)) (.cons (.ix (.var 0) (.var 2)) .nil))) (.cons (.forS (.nm 5) (.range2 (.lit (.int 1)) (.bin false .add (.bin false .fdiv (.var 3) (.bin false .sub (.var 4) (.lit (.int 1)))) (.lit (.int 1)))) (.cons (.ifS (.val (.cmp .eq (.comp false ["_law_k","_law_hue","_law_found","_law_here","_law_step"] [none,some 2,some 1,some 3,some 5] (.var 0) (.nm 0) (.range2 (.lit (.int 1)) (.var 4)) (.cons (.val (.cmp .ne (.ix (.var 2) (.bin false .sub (.var 3) (.bin false .mul (.var 0) (.var 4)))) (.var 1))) .nil)) (.lst false .nil))) (.cons (.ret (.lit (.bool true))) .nil) .nil) .nil)) (.cons (.ret (.lit (.bool false))) .nil)))⟩
noncomputable def yR:Fn:=⟨["_law_cell","_law_left"],["_law_cell"],true,(.cons (.asg 1 (.blt .max false (.cons (.var 0) (.cons (.bin false .sub (.lit (.int 0)) (.var 0)) .nil)))) (.cons (.ret (.lst true (.cons (.bin false .mul (.var 1) (.blt .int false (.cons (.cmp .ge (.var 1) (.bin false .pow (.lit (.int 10)) (.lit (.int 18)))) .nil))) (.cons (.bin false .mod (.var 1) (.lit (.int 2147483629))) .nil)))) .nil))⟩
noncomputable def yX:Fn:=⟨["_law_row","_law_size"],["_law_row","_law_size"],false,(.cons (.ret (.comp false ["_law_k","_law_row"] [none,some 0] (.bin false .add (.ix (.var 1) (.lit (.int 0))) (.bin false .mul (.var 0) (.ix (.var 1) (.lit (.int 1))))) (.nm 0) (.range1 (.var 1)) .nil)) .nil)⟩
noncomputable def y2:Fn:=⟨["_law_length","_law_size","_law_found","_law_first","_law_step"],["_law_length","_law_size"],false,(.cons (.asg 2 (.lst true .nil)) (.cons (.forS (.nm 3) (.range1 (.var 0)) (.cons (.forS (.nm 4) (.range2 (.lit (.int 1)) (.var 0)) (.cons (.ifS (.val (.cmp .lt (.bin false .add (.var 3) (.bin false .mul (.bin false .sub (.var 1) (.lit (.int 1))) (.var 4))) (.var 0))) (.cons (.expr (.yY .append false (.var 2) (.cons (.tup (.cons (.var 3) (.cons (.var 4) .nil))) .nil))) .nil) .nil) .nil)) .nil)) (.cons (.ret (.var 2)) .nil)))⟩
noncomputable def y4:Fn:=⟨["thing"],["thing"],false,(.cons (.ret (.andE (.blt .isi false (.cons (.var 0) (.cons (.ty "tuple" "tuple") .nil))) (.cons (.chain .le .le (.lit (.int 1)) (.blt .len false (.cons (.var 0) .nil)) (.blt .len false (.cons (.gl "HUES") .nil))) (.cons (.call "are_wholes" 0 (.cons (.var 0) (.cons (.gl "LEAST_SIZE") (.cons (.gl "MOST_SIZE") .nil)))) .nil)))) .nil)⟩
noncomputable def yl:Fn:=⟨["things","least","most"],["things","least","most"],false,(.cons (.ret (.blt .all false (.cons (.comp false ["thing","least","most"] [none,some 1,some 2] (.call "is_whole" 0 (.cons (.var 0) (.cons (.var 1) (.cons (.var 2) .nil)))) (.nm 0) (.val (.var 0)) .nil) .nil))) .nil)⟩
noncomputable def xN:Fn:=⟨["draft","thing"],["draft","thing"],false,(.cons (.ret (.andE (.call "is_whole" 0 (.cons (.var 1) (.cons (.lit (.int 0)) (.cons (.bin false .sub (.blt .len false (.cons (.var 0) .nil)) (.lit (.int 1))) .nil)))) (.cons (.cmp .eq (.ix (.var 0) (.var 1)) (.gl "BLANK")) .nil))) .nil)⟩
noncomputable def yf:Fn:=⟨["sizes","thing"],["sizes","thing"],false,(.cons (.expr (.call "need_sizes" 0 (.cons (.var 0) .nil))) (.cons (.ret (.andE (.blt .isi false (.cons (.var 1) (.cons (.ty "tuple" "tuple") .nil))) (.cons (.cmp .le (.blt .len false (.cons (.var 1) .nil)) (.gl "MOST_PLACES")) (.cons (.call "are_wholes" 0 (.cons (.var 1) (.cons (.gl "BLANK") (.cons (.bin false .sub (.blt .len false (.cons (.var 0) .nil)) (.lit (.int 1))) .nil)))) .nil)))) .nil))⟩
noncomputable def ym:Fn:=⟨["hues","first","step","size"],["hues","first","step","size"],false,(.cons (.ret (.cmp .eq (.yY .count false (.sl false (.var 0) (.yes (.var 1)) (.yes (.bin false .add (.var 1) (.bin false .mul (.var 2) (.var 3)))) (.yes (.var 2))) (.cons (.ix (.var 0) (.var 1)) .nil)) (.var 3))) .nil)⟩
noncomputable def xP:Fn:=⟨["thing","least","most"],["thing","least","most"],false,(.cons (.ret (.andE (.blt .isi false (.cons (.var 0) (.cons (.ty "int" "int") .nil))) (.cons (.not (.blt .isi false (.cons (.var 0) (.cons (.ty "bool" "bool") .nil)))) (.cons (.chain .le .le (.var 1) (.var 0) (.var 2)) .nil)))) .nil)⟩
noncomputable def y6:Fn:=⟨["length","first","size"],["length","first","size"],false,(.cons (.ret (.bin false .fdiv (.bin false .sub (.bin false .sub (.var 0) (.lit (.int 1))) (.var 1)) (.bin false .sub (.var 2) (.lit (.int 1))))) .nil)⟩
noncomputable def yn:Fn:=⟨["sizes","thing"],["sizes","thing"],false,(.cons (.ifS (.not (.val (.call "is_draft" 0 (.cons (.var 0) (.cons (.var 1) .nil))))) (.cons (.raise (.lit .none)) .nil) .nil) .nil)⟩
noncomputable def yo:Fn:=⟨["thing"],["thing"],false,(.cons (.ifS (.not (.val (.call "are_sizes" 0 (.cons (.var 0) .nil)))) (.cons (.raise (.lit .none)) .nil) .nil) .nil)⟩
noncomputable def xQ:Fn:=⟨["draft","place","hue"],["draft","place","hue"],false,(.cons (.ret (.bin false .add (.bin false .add (.sl false (.var 0) .no (.yes (.var 1)) .no) (.tup (.cons (.var 2) .nil))) (.sl false (.var 0) (.yes (.bin false .add (.var 1) (.lit (.int 1)))) .no .no))) .nil)⟩
end F
end
section
namespace M
open PySem L2
noncomputable def wL(n s f:Nat):List (Nat × Nat):=(List.range ((n-1-f)/(s-1))).map fun j=>(f,j+1)
noncomputable def xj(n s:Nat):List (Nat × Nat):=(List.range n).flatMap (wL n s)
theorem nK(n s f:Nat):(wL n s f).length=(n-1-f)/(s-1):=by unfold wL;rw[List.length_map,List.length_range]
theorem c9(n s f:Nat):(wL n s f).length≤n:=by
 rw[nK];have:=Nat.div_le_self (n-1-f) (s-1);omega
theorem l5(n s:Nat):∀i,((List.range i).flatMap (wL n s)).length≤i*n
 |0=>by simp
 |i+1=>by
  rw[List.range_succ,List.flatMap_append,List.length_append]
  have h1:=l5 n s i
  have h2:=c9 n s i
  have e:List.flatMap (wL n s) [i]=wL n s i:=by simp
  rw[e,Nat.succ_mul];omega
theorem u9{n s:Nat}{r:Nat × Nat}(hs:2≤s)(h:r∈xj n s):0<r.2∧r.1+r.2*(s-1)<n:=by
 unfold xj wL at h
 obtain⟨f,hf,h⟩:=List.mem_flatMap.mp h
 obtain⟨j,hj,rfl⟩:=List.mem_map.mp h
 rw[List.mem_range]at hf hj
 have:(j+1)*(s-1)≤n-1-f:=(Nat.le_div_iff_mul_le (by omega)).mp hj
 refine⟨Nat.succ_pos _,?_⟩
 show f+(j+1)*(s-1)<n
 omega
noncomputable def yx(ns:List Int)(f d s:Nat):Bool:=(List.range s).all fun k=>decide (ns[f+k*d]?=ns[f]?)
theorem dC{n f d s:Nat}(hd:0<d)(hs:1≤s)(h:f+d*(s-1)<n):yP n (some (f:Int)) (some ((f:Int)+(d:Int)*(s:Int))) (d:Int)=((f:Int),s):=by
 have hmul:d*s=d*(s-1)+d:=by rw[←Nat.mul_succ];congr 1;omega
 have e0:(d:Int)*(s:Int)=((d*s:Nat):Int):=(Int.natCast_mul d s).symm
 have e1:Builtin.Slice.sliceAdjust (some (f:Int)) (some ((f:Int)+(d:Int)*(s:Int))) (d:Int) (n:Int)=((f:Int),((min (f+d*s) n:Nat):Int)):=by
  rw[e0]
  unfold Builtin.Slice.sliceAdjust
  simp only[if_neg (show ¬(d:Int)<0 by omega),if_neg (show ¬(f:Int)<0 by omega),if_neg (show ¬((f:Int)+((d*s:Nat):Int))<0 by omega)]
  refine Prod.ext ?_ ?_
  . show min (f:Int) (n:Int)=f;omega
  . show min ((f:Int)+((d*s:Nat):Int)) (n:Int)=_;omega
 unfold yP
 rw[e1]
 refine Prod.ext rfl ?_
 show Builtin.Slice.slicePlaces (f:Int) ((min (f+d*s) n:Nat):Int) (d:Int)=s
 unfold Builtin.Slice.slicePlaces
 rw[if_pos (by omega),if_pos (by omega)]
 have e2:(((min (f+d*s) n:Nat):Int)-(f:Int)-1)=((min (f+d*s) n-f-1:Nat):Int):=by omega
 rw[e2,←Int.natCast_ediv]
 have e3:(min (f+d*s) n-f-1)/d=s-1:=by
  refine Nat.div_eq_of_lt_le ?_ ?_
  . rw[Nat.mul_comm];omega
  . have:(s-1+1)*d=d*s:=by rw[show s-1+1=s by omega,Nat.mul_comm]
    omega
 rw[e3];omega
theorem i9{α β:Type}{f:α→Option β}{g:α→β}:∀{l:List α},(∀x∈l,f x=some (g x))→l.filterMap f=l.map g
 |[],_=>rfl
 |x::l,h=>by rw[List.filterMap_cons,h x (List.mem_cons_self ..),List.map_cons,i9 fun y hy=>h y (List.mem_cons_of_mem _ hy)]
theorem fO{ns:List Int}{f d s:Nat}(h:f+d*(s-1)<ns.length):yc ns (f:Int) (d:Int) s=(List.range s).map fun k=>ns.getD (f+k*d) 0:=by
 unfold yc
 refine i9 fun k hk=>?_
 rw[List.mem_range]at hk
 have h1:k*d≤d*(s-1):=by rw[Nat.mul_comm];exact Nat.mul_le_mul_left d (by omega)
 have e:((f:Int)+(k:Int)*(d:Int)).toNat=f+k*d:=by
  rw[show (k:Int)*(d:Int)=((k*d:Nat):Int) from (Int.natCast_mul k d).symm];omega
 have hlt:f+k*d<ns.length:=by omega
 rw[e,List.getElem?_eq_getElem hlt]
 rw[List.getD_eq_getElem?_getD,List.getElem?_eq_getElem hlt];rfl
theorem d9{ns:List Int}{f d s:Nat}(h:f+d*(s-1)<ns.length):yx ns f d s=true↔∀x∈(List.range s).map (fun k=>ns.getD (f+k*d) 0),x=ns.getD f 0:=by
 unfold yx
 rw[List.all_eq_true]
 constructor
 . intro h1 x hx
   obtain⟨k,hk,rfl⟩:=List.mem_map.mp hx
   have:=of_decide_eq_true (h1 k hk)
   rw[List.getD_eq_getElem?_getD,this,←List.getD_eq_getElem?_getD]
 . intro h1 k hk
   have:=h1 _ (List.mem_map.mpr ⟨k,hk,rfl⟩)
   rw[List.mem_range]at hk
   have h2:k*d≤d*(s-1):=by rw[Nat.mul_comm];exact Nat.mul_le_mul_left d (by omega)
   have hlt:f+k*d<ns.length:=by omega
   have hf:f<ns.length:=by omega
   rw[List.getD_eq_getElem?_getD,List.getD_eq_getElem?_getD,List.getElem?_eq_getElem hlt,List.getElem?_eq_getElem hf]at this
   refine decide_eq_true ?_
   rw[List.getElem?_eq_getElem hlt,List.getElem?_eq_getElem hf]
   exact congrArg some this
theorem l6(n s:Nat):∀i,i≤n→2*((List.range i).flatMap (wL n s)).length+i*i+i≤2*(i*n)
 |0,_=>by simp
 |i+1,hi=>by
  have h1:=l6 n s i (by omega)
  rw[List.range_succ,List.flatMap_append,List.length_append]
  have e:List.flatMap (wL n s) [i]=wL n s i:=by simp
  have h2:(wL n s i).length≤n-1-i:=by rw[nK];exact Nat.div_le_self _ _
  rw[e]
  have e2:(i+1)*(i+1)=i*i+2*i+1:=by rw[Nat.add_mul,Nat.mul_add];omega
  have e3:(i+1)*n=i*n+n:=Nat.succ_mul i n
  rw[e2,e3];omega
theorem fj{n z:Nat}(h:n≤40):(xj n z).length≤800:=by
 have h1:=l6 n z n (Nat.le_refl n)
 have h2:n*n≤40*n:=Nat.mul_le_mul_right n h
 unfold xj;omega
theorem au{n z i j:Nat}(hi:i<n)(hz:2≤z):((0+(i:Int))+((z:Int)-1)*(1+(j:Int))<(n:Int))↔j<(n-1-i)/(z-1):=by
 have e:((z:Int)-1)*(1+(j:Int))=(((j+1)*(z-1):Nat):Int):=by
  rw[Int.natCast_mul,Int.mul_comm];congr 1<;>omega
 rw[e]
 have:(j+1)≤(n-1-i)/(z-1)↔(j+1)*(z-1)≤n-1-i:=Nat.le_div_iff_mul_le (by omega)
 omega
noncomputable def Wx(z p:Nat)(r:Nat × Nat):Bool:=(List.range z).any fun k=>decide (r.1+k*r.2=p)
noncomputable def atP(n z p:Nat):List (Nat × Nat):=(xj n z).filter (Wx z p)
noncomputable def toI(r:Nat × Nat):Int × Int:=(r.1,r.2)
theorem oa{n z:Nat}(hz:2≤z){f d:Nat}:(f,d)∈xj n z↔0<d∧f+d*(z-1)<n:=by
 constructor
 . exact fun h=>u9 hz h
 . rintro ⟨h1,h2⟩
   unfold xj wL
   refine List.mem_flatMap.mpr ⟨f,List.mem_range.mpr (by omega),List.mem_map.mpr ⟨d-1,List.mem_range.mpr ?_,?_⟩⟩
   . have:d≤(n-1-f)/(z-1):=(Nat.le_div_iff_mul_le (by omega)).mpr (by omega)
     omega
   . show (f,d-1+1)=(f,d)
     rw[show d-1+1=d by omega]
theorem mm{n z:Nat}(hn:n≤40):((xj n z).map toI).Pairwise (fun a b=>yU a<yU b):=by
 rw[List.pairwise_map]
 unfold xj
 rw[List.pairwise_flatMap]
 have lt40:∀{f j:Nat},j∈List.range ((n-1-f)/(z-1))→j<40:=fun{f j} hj=>by
  rw[List.mem_range]at hj
  have:=Nat.div_le_self (n-1-f) (z-1)
  omega
 refine⟨fun f _=>?_,?_⟩
 . unfold wL
   rw[List.pairwise_map]
   refine List.Pairwise.imp ?_ List.pairwise_lt_range
   intro i j hij
   show (f:Int)*1000+((i+1:Nat):Int)<(f:Int)*1000+((j+1:Nat):Int)
   omega
 . refine List.Pairwise.imp ?_ List.pairwise_lt_range
   intro f g hfg x hx y hy
   unfold wL at hx hy
   obtain⟨i,hi,rfl⟩:=List.mem_map.mp hx
   obtain⟨j,hj,rfl⟩:=List.mem_map.mp hy
   have:=lt40 hi
   have:=lt40 hj
   show (f:Int)*1000+((i+1:Nat):Int)<(g:Int)*1000+((j+1:Nat):Int)
   omega
noncomputable def Sz(zs:List Int):Prop:=1≤zs.length∧zs.length≤4∧∀x∈zs,2≤x∧x≤8
noncomputable def Dr(zs ns:List Int):Prop:=ns.length≤32∧∀x∈ns,-1≤x∧x<zs.length
noncomputable def putL(ns:List Int)(p:Nat)(h:Int):List Int:=ns.take p++h::ns.drop (p+1)
noncomputable def Wt(ns:List Int)(z p:Nat)(h:Int):List (Nat × Nat):=(atP ns.length z p).filter fun r=>yx (putL ns p h) r.1 r.2 z
noncomputable def zQ(zs:List Int)(h:Nat):Nat:=(zs.getD h 0).toNat
noncomputable def Xo(zs ns:List Int)(p:Nat):List Nat:=(List.range zs.length).filter fun h=>(Wt ns (zQ zs h) p h).isEmpty
theorem yi{zs:List Int}(hz:Sz zs){h:Nat}(hh:h<zs.length):zs[h]?=some ((zQ zs h:Nat):Int)∧2≤zQ zs h∧zQ zs h≤8:=by
 have e:zs.getD h 0=zs[h]:=by rw[List.getD_eq_getElem?_getD,List.getElem?_eq_getElem hh];rfl
 have:=hz.2.2 zs[h] (List.getElem_mem hh)
 unfold zQ
 rw[e,List.getElem?_eq_getElem hh]
 refine⟨?_,by omega,by omega⟩
 congr 1;omega
noncomputable def yu(f d z:Nat):List Int:=(List.range z).map fun k=>((f+k*d:Nat):Int)
end M
end
section
namespace M
open PySem
noncomputable def Out.post{α:Type}(o:Out α)(P:α→Sto→Prop):Prop:=∃a s,o=.ok a s∧P a s
theorem zE{α:Type}{a:α}{s:Sto}{P:α→Sto→Prop}:(Out.ok a s).post P↔P a s:=
 ⟨fun⟨_,_,e,h⟩=>(by cases e;exact h),fun h=>⟨a,s,rfl,h⟩⟩
theorem zG{α β:Type}{o:Out α}{f:α→Sto→Out β}{P:β→Sto→Prop}:(o.bind f).post P↔o.post fun a s=>(f a s).post P:=by
 cases o with
 |ok a s=>exact(zE (P:=fun a s=>(f a s).post P)).symm
 |exc c as s=>exact⟨fun⟨_,_,e,_⟩=>(by cases e),fun⟨_,_,e,_⟩=>(by cases e)⟩
 |stuck=>exact⟨fun⟨_,_,e,_⟩=>(by cases e),fun⟨_,_,e,_⟩=>(by cases e)⟩
theorem zI{α:Type}{o:Out α}{P Q:α→Sto→Prop}(h:o.post P)(i:∀a s,P a s→Q a s):o.post Q:=by
 obtain⟨a,s,e,h⟩:=h
 exact⟨a,s,e,i a s h⟩
theorem zo{α:Type}{o:Out α}{P Q:α→Sto→Prop}(h:∀a s,P a s↔Q a s):o.post P↔o.post Q:=⟨fun k=>zI k fun a s=>(h a s).mp,fun k=>zI k fun a s=>(h a s).mpr⟩
theorem zZ{α:Type}{P:α→Sto→Prop}:(Out.stuck:Out α).post P↔False:=⟨fun⟨_,_,e,_⟩=>(by cases e),False.elim⟩
theorem xF{α:Type}{c:Prop} [Decidable c] {a b:Out α}{P:α→Sto→Prop}:(if c then a else b).post P↔if c then a.post P else b.post P:=by split<;>exact Iff.rfl
theorem post_eq{α:Type}{o:Out α}{a:α}{s:Sto}:o=.ok a s↔o.post fun x t=>x=a∧t=s:=⟨fun h=>⟨a,s,h,rfl,rfl⟩,fun⟨_,_,h,e1,e2⟩=>(by rw[h,e1,e2])⟩
section
variable {Φ:Calls}{G:Str→Option Val}{env:Env}{s:Sto}
theorem Xx{v:Val}{P:Val→Sto→Prop}:(evE Φ G env (.lit v) s).post P↔P v s:=zE
theorem fB{i:Nat}{P:Val→Sto→Prop}:(evE Φ G env (.var i) s).post P↔∃v,env[i]?=some (some v)∧P v s:=by
 show (match env[i]? with|some (some v)=>Out.ok v s|_=>.stuck).post P↔_
 split
 . rename_i v e
   refine zE.trans ⟨fun h=>⟨_,e,h⟩,fun⟨u,h1,h2⟩=>?_⟩
   rw[e]at h1;cases h1;exact h2
 . rename_i hn
   exact⟨fun⟨_,_,e,_⟩=>(by cases e),fun⟨u,h1,h2⟩=>absurd h1 (hn u)⟩
theorem Xu{x:Str}{P:Val→Sto→Prop}:(evE Φ G env (.gl x) s).post P↔∃v,G x=some v∧P v s:=by
 show (match G x with|some v=>Out.ok v s|Option.none=>.stuck).post P↔_
 split
 . rename_i v e
   refine zE.trans ⟨fun h=>⟨_,e,h⟩,fun⟨u,h1,h2⟩=>?_⟩
   rw[e]at h1;cases h1;exact h2
 . rename_i e
   exact⟨fun⟨_,_,e,_⟩=>(by cases e),fun⟨u,h1,h2⟩=>(by rw[e]at h1;cases h1)⟩
theorem W6{x:Str}{n:String}{P:Val→Sto→Prop}:(evE Φ G env (.ty x n) s).post P↔P (.ty n) s:=zE
theorem gr{m:Bool}{op:Bop}{a b:Ex}{P:Val→Sto→Prop}:(evE Φ G env (.bin m op a b) s).post P↔(evE Φ G env a s).post fun x s1=>(evE Φ G env b s1).post fun y s2=>(binOp m op x y s2).post P:=by
 show (Out.bind _ _).post P↔_
 simp only[zG]
theorem Xz{a:Ex}{P:Val→Sto→Prop}:(evE Φ G env (.neg a) s).post P↔(evE Φ G env a s).post fun x s1=>∃i,x=.int i∧P (.int (-i)) s1:=by
 show (Out.bind _ _).post P↔_
 simp only[zG]
 exact zo fun x s1=>by cases x<;>simp[zE,zZ]
theorem X0{a:Ex}{P:Val→Sto→Prop}:(evE Φ G env (.not a) s).post P↔(evE Φ G env a s).post fun x s1=>∃b,x=.bool b∧P (.bool !b) s1:=by
 show (Out.bind _ _).post P↔_
 simp only[zG]
 exact zo fun x s1=>by cases x<;>simp[zE,zZ]
theorem b8{op:Cop}{a b:Ex}{P:Val→Sto→Prop}:(evE Φ G env (.cmp op a b) s).post P↔(evE Φ G env a s).post fun x s1=>(evE Φ G env b s1).post fun y s2=>(zV op x y s2).post P:=by
 show (Out.bind _ _).post P↔_
 simp only[zG]
theorem cK{op op':Cop}{a b c:Ex}{P:Val→Sto→Prop}:(evE Φ G env (.chain op op' a b c) s).post P↔(evE Φ G env a s).post fun x s1=>(evE Φ G env b s1).post fun y s2=>(zV op x y s2).post fun r s3=>∃t,r=.bool t∧if t=true then (evE Φ G env c s3).post fun z s4=>(zV op' y z s4).post P else P (.bool false) s3:=by
 show (Out.bind _ _).post P↔_
 simp only[zG]
 refine zo fun x s1=>zo fun y s2=>zo fun r s3=>?_
 cases r with
 |bool t=>cases t<;>simp[zE,zZ,zG]
 |_=>simp[zZ]
theorem Xp{a b:Ex}{es:Exs}{P:Val→Sto→Prop}:(evE Φ G env (.andE a (.cons b es)) s).post P↔(evE Φ G env a s).post fun x s1=>∃t,x=.bool t∧if t=true then (tQ Φ G env (.cons b es) s1).post P else P (.bool false) s1:=by
 show (Out.bind _ _).post P↔_
 simp only[zG]
 refine zo fun x s1=>?_
 cases x with
 |bool t=>cases t<;>simp[zE,zZ]
 |_=>simp[zZ]
theorem Z2{a:Ex}{P:Val→Sto→Prop}:(tQ Φ G env (.cons a .nil) s).post P↔(evE Φ G env a s).post P:=Iff.rfl
theorem Z3{a b:Ex}{es:Exs}{P:Val→Sto→Prop}:(tQ Φ G env (.cons a (.cons b es)) s).post P↔(evE Φ G env a s).post fun x s1=>∃t,x=.bool t∧if t=true then (tQ Φ G env (.cons b es) s1).post P else P (.bool false) s1:=by
 show ((evE Φ G env a s).bind fun x s1=>match x with
  |.bool true=>tQ Φ G env (.cons b es) s1
  |.bool false=>.ok (.bool false) s1
  |_=>.stuck).post P↔_
 simp only[zG]
 refine zo fun x s1=>?_
 cases x with
 |bool t=>cases t<;>simp[zE,zZ]
 |_=>simp[zZ]
theorem W4{a b:Ex}{es:Exs}{P:Val→Sto→Prop}:(evE Φ G env (.orE a (.cons b es)) s).post P↔(evE Φ G env a s).post fun x s1=>∃t,x=.bool t∧if t=true then P (.bool true) s1 else (oR Φ G env (.cons b es) s1).post P:=by
 show (Out.bind _ _).post P↔_
 simp only[zG]
 refine zo fun x s1=>?_
 cases x with
 |bool t=>cases t<;>simp[zE,zZ]
 |_=>simp[zZ]
theorem X1{a:Ex}{P:Val→Sto→Prop}:(oR Φ G env (.cons a .nil) s).post P↔(evE Φ G env a s).post P:=Iff.rfl
theorem X2{a b:Ex}{es:Exs}{P:Val→Sto→Prop}:(oR Φ G env (.cons a (.cons b es)) s).post P↔(evE Φ G env a s).post fun x s1=>∃t,x=.bool t∧if t=true then P (.bool true) s1 else (oR Φ G env (.cons b es) s1).post P:=by
 show ((evE Φ G env a s).bind fun x s1=>match x with
  |.bool false=>oR Φ G env (.cons b es) s1
  |.bool true=>.ok (.bool true) s1
  |_=>.stuck).post P↔_
 simp only[zG]
 refine zo fun x s1=>?_
 cases x with
 |bool t=>cases t<;>simp[zE,zZ]
 |_=>simp[zZ]
theorem Xv{c:Cn}{a b:Ex}{P:Val→Sto→Prop}:(evE Φ G env (.ife c a b) s).post P↔(evT Φ G env c s).post fun t s1=>if t=true then (evE Φ G env a s1).post P else (evE Φ G env b s1).post P:=by
 show (Out.bind _ _).post P↔_
 simp only[zG,xF]
theorem X4{es:Exs}{P:Val→Sto→Prop}:(evE Φ G env (.tup es) s).post P↔(yp Φ G env es s).post fun vs s1=>(if vs.length≤zO then Out.ok (Val.tup vs) s1 else .stuck).post P:=by
 show (Out.bind _ _).post P↔_
 simp only[zG]
theorem Xy{m:Bool}{es:Exs}{P:Val→Sto→Prop}:(evE Φ G env (.lst m es) s).post P↔(yp Φ G env es s).post fun vs s1=>(if vs.length≤zO then newList m vs s1 else .stuck).post P:=by
 show (Out.bind _ _).post P↔_
 simp only[zG]
theorem Z4{f:Str}{v:Nat}{es:Exs}{P:Val→Sto→Prop}:(evE Φ G env (.call f v es) s).post P↔(yp Φ G env es s).post fun vs s1=>(Φ f v vs s1).post P:=by
 show (Out.bind _ _).post P↔_
 simp only[zG]
theorem Xq{f:Bf}{m:Bool}{es:Exs}{P:Val→Sto→Prop}:(evE Φ G env (.blt f m es) s).post P↔(yp Φ G env es s).post fun vs s1=>(blt f m vs s1).post P:=by
 show (Out.bind _ _).post P↔_
 simp only[zG]
theorem Z8{f:Mf}{m:Bool}{o:Ex}{es:Exs}{P:Val→Sto→Prop}:(evE Φ G env (.yY f m o es) s).post P↔(evE Φ G env o s).post fun x s1=>(yp Φ G env es s1).post fun vs s2=>(yY f x vs s2).post P:=by
 show (Out.bind _ _).post P↔_
 simp only[zG]
theorem g7{m:Bool}{a b c:Ex}{P:Val→Sto→Prop}:(evE Φ G env (.listRange m a b c) s).post P↔(evE Φ G env a s).post fun x s1=>(evE Φ G env b s1).post fun y s2=>(evE Φ G env c s2).post fun z s3=>(Xc m x y z s3).post P:=by
 show (Out.bind _ _).post P↔_
 simp only[zG]
theorem Xw{a b:Ex}{P:Val→Sto→Prop}:(evE Φ G env (.ix a b) s).post P↔(evE Φ G env a s).post fun x s1=>(evE Φ G env b s1).post fun y s2=>(xT x y s2).post P:=by
 show (Out.bind _ _).post P↔_
 simp only[zG]
theorem W5{m:Bool}{a:Ex}{lo hi st:OEx}{P:Val→Sto→Prop}:(evE Φ G env (.sl m a lo hi st) s).post P↔(evE Φ G env a s).post fun x s1=>(evO Φ G env lo s1).post fun l s2=>(evO Φ G env hi s2).post fun h s3=>(evO Φ G env st s3).post fun c s4=>(vU m x l h c s4).post P:=by
 show (Out.bind _ _).post P↔_
 simp only[zG]
theorem Z9{P:Option Int→Sto→Prop}:(evO Φ G env .no s).post P↔P none s:=zE
theorem YA{e:Ex}{P:Option Int→Sto→Prop}:(evO Φ G env (.yes e) s).post P↔(evE Φ G env e s).post fun v s1=>∃i,v=.int i∧P (some i) s1:=by
 show (Out.bind _ _).post P↔_
 simp only[zG]
 exact zo fun x s1=>by cases x<;>simp[zE,zZ]
theorem ow{P:List Val→Sto→Prop}:(yp Φ G env .nil s).post P↔P [] s:=zE
theorem vQ{e:Ex}{es:Exs}{P:List Val→Sto→Prop}:(yp Φ G env (.cons e es) s).post P↔(evE Φ G env e s).post fun v s1=>(yp Φ G env es s1).post fun vs s2=>P (v::vs) s2:=by
 show (Out.bind _ _).post P↔_
 simp only[zG,zE]
theorem b9{e:Ex}{P:Bool→Sto→Prop}:(evT Φ G env (.val e) s).post P↔(evE Φ G env e s).post fun v s1=>∃b,truth s1 v=some b∧P b s1:=by
 show (Out.bind (evE Φ G env e s) _).post P↔_
 simp only[zG]
 refine⟨fun h=>zI h fun v s1 h=>?_,fun h=>zI h fun v s1 h=>?_⟩
 . split at h
   . rename_i b e;exact⟨b,e,zE.mp h⟩
   . obtain⟨_,_,e,_⟩:=h;cases e
 . obtain⟨b,e,h⟩:=h
   rw[e];exact zE.mpr h
theorem YE{c:Cn}{P:Bool→Sto→Prop}:(evT Φ G env (.not c) s).post P↔(evT Φ G env c s).post fun b s1=>P (!b) s1:=by
 show (Out.bind _ _).post P↔_
 simp only[zG,zE]
theorem YD{c:Cn}{cs:Cns}{P:Bool→Sto→Prop}:(evT Φ G env (.and c cs) s).post P↔(evT Φ G env c s).post fun b s1=>if b=true then (xy Φ G env cs s1).post P else P false s1:=by
 show (Out.bind _ _).post P↔_
 simp only[zG,xF,zE]
theorem X3{c:Cn}{cs:Cns}{P:Bool→Sto→Prop}:(evT Φ G env (.or c cs) s).post P↔(evT Φ G env c s).post fun b s1=>if b=true then P true s1 else (uO Φ G env cs s1).post P:=by
 show (Out.bind _ _).post P↔_
 simp only[zG,xF,zE]
theorem sG{P:Bool→Sto→Prop}:(xy Φ G env .nil s).post P↔P true s:=zE
theorem cQ{P:Bool→Sto→Prop}:(uO Φ G env .nil s).post P↔P false s:=zE
theorem fA{c:Cn}{cs:Cns}{P:Bool→Sto→Prop}:(xy Φ G env (.cons c cs) s).post P↔(evT Φ G env c s).post fun b s1=>if b=true then (xy Φ G env cs s1).post P else P false s1:=by
 show (Out.bind _ _).post P↔_
 simp only[zG,xF,zE]
theorem g9{c:Cn}{cs:Cns}{P:Bool→Sto→Prop}:(uO Φ G env (.cons c cs) s).post P↔(evT Φ G env c s).post fun b s1=>if b=true then P true s1 else (uO Φ G env cs s1).post P:=by
 show (Out.bind _ _).post P↔_
 simp only[zG,xF,zE]
theorem gw{e:Ex}{P:Src→Sto→Prop}:(yq Φ G env (.val e) s).post P↔(evE Φ G env e s).post fun v s1=>∃r,srcOf s1 v=some r∧P r s1:=by
 show (Out.bind _ _).post P↔_
 simp only[zG]
 refine⟨fun h=>zI h fun v s1 h=>?_,fun h=>zI h fun v s1 h=>?_⟩
 . split at h
   . rename_i b e;exact⟨b,e,zE.mp h⟩
   . obtain⟨_,_,e,_⟩:=h;cases e
 . obtain⟨b,e,h⟩:=h
   rw[e];exact zE.mpr h
theorem oy{a:Ex}{P:Src→Sto→Prop}:(yq Φ G env (.range1 a) s).post P↔(evE Φ G env a s).post fun x s1=>∃j,x=.int j∧(-(2 ^ 62)≤j∧j≤zO)∧P ⟨zy 0 j.toNat,Option.none⟩ s1:=by
 show (Out.bind _ _).post P↔_
 simp only[zG]
 refine⟨fun h=>zI h fun v s1 h=>?_,fun h=>zI h fun v s1 h=>?_⟩
 . split at h
   . rw[xF]at h
     split at h
     . rename_i j z;exact⟨_,rfl,z,zE.mp h⟩
     . obtain⟨_,_,e,_⟩:=h;cases e
   . obtain⟨_,_,e,_⟩:=h;cases e
 . obtain⟨j,rfl,z,h⟩:=h
   simp only[if_pos z]
   exact zE.mpr h
theorem oz{a b:Ex}{P:Src→Sto→Prop}:(yq Φ G env (.range2 a b) s).post P↔(evE Φ G env a s).post fun x s1=>(evE Φ G env b s1).post fun y s2=>∃i j,x=.int i∧y=.int j∧(-(2 ^ 62)≤i∧i<2 ^ 62∧-(2 ^ 62)≤j∧j<2 ^ 62∧j-i≤zO)∧P ⟨zy i (j-i).toNat,Option.none⟩ s2:=by
 show (Out.bind _ _).post P↔_
 simp only[zG]
 refine⟨fun h=>zI h fun v s1 h=>zI h fun w s2 h=>?_,fun h=>zI h fun v s1 h=>zI h fun w s2 h=>?_⟩
 . split at h
   . rw[xF]at h
     split at h
     . rename_i z;exact⟨_,_,rfl,rfl,z,zE.mp h⟩
     . obtain⟨_,_,e,_⟩:=h;cases e
   . obtain⟨_,_,e,_⟩:=h;cases e
 . obtain⟨i,j,rfl,rfl,z,h⟩:=h
   simp only[if_pos z]
   exact zE.mpr h
theorem Z6{a:Ex}{P:Src→Sto→Prop}:(yq Φ G env (.enum a) s).post P↔(evE Φ G env a s).post fun x s1=>∃vs,(x=.tup vs∨x=.lst vs)∧P ⟨yI 0 vs,Option.none⟩ s1:=by
 show (Out.bind _ _).post P↔_
 simp only[zG]
 refine⟨fun h=>zI h fun v s1 h=>?_,fun h=>zI h fun v s1 h=>?_⟩
 . split at h
   . exact⟨_,.inl rfl,zE.mp h⟩
   . exact⟨_,.inr rfl,zE.mp h⟩
   . obtain⟨_,_,e,_⟩:=h;cases e
 . obtain⟨j,rfl|rfl,h⟩:=h<;>exact zE.mpr h
theorem gu{e:Ex}{P:Fl→Sto→Prop}:(exS Φ G env (.expr e) s).post P↔(evE Φ G env e s).post fun _ s1=>P (.nx env) s1:=by
 show (Out.bind _ _).post P↔_
 simp only[zG,zE]
theorem g8{e:Ex}{P:Fl→Sto→Prop}:(exS Φ G env (.ret e) s).post P↔(evE Φ G env e s).post fun v s1=>P (.rt v) s1:=by
 show (Out.bind _ _).post P↔_
 simp only[zG,zE]
theorem YC{P:Fl→Sto→Prop}:(exS Φ G env .retN s).post P↔P (.rt .none) s:=zE
theorem gp{i:Nat}{e:Ex}{P:Fl→Sto→Prop}:(exS Φ G env (.asg i e) s).post P↔(evE Φ G env e s).post fun v s1=>P (.nx (env.set i (some v))) s1:=by
 show (Out.bind _ _).post P↔_
 simp only[zG,zE]
theorem gq{is:List Nat}{e:Ex}{P:Fl→Sto→Prop}:(exS Φ G env (.asgT is e) s).post P↔(evE Φ G env e s).post fun v s1=>∃env',yg (.nms is) v env=some env'∧P (.nx env') s1:=by
 show (Out.bind _ _).post P↔_
 simp only[zG]
 refine⟨fun h=>zI h fun v s1 h=>?_,fun h=>zI h fun v s1 h=>?_⟩
 . split at h
   . rename_i b e;exact⟨b,e,zE.mp h⟩
   . obtain⟨_,_,e,_⟩:=h;cases e
 . obtain⟨b,e,h⟩:=h
   rw[e];exact zE.mpr h
theorem ox{is:List Nat}{es:Exs}{P:Fl→Sto→Prop}:(exS Φ G env (.par is es) s).post P↔(yp Φ G env es s).post fun vs s1=>(if vs.length=is.length then Out.ok (Fl.nx ((is.zip vs).foldl (fun e p=>e.set p.1 (some p.2)) env)) s1 else .stuck).post P:=by
 show (Out.bind _ _).post P↔_
 simp only[zG]
theorem cL{o i e:Ex}{P:Fl→Sto→Prop}:(exS Φ G env (.setIx o i e) s).post P↔(evE Φ G env e s).post fun v s1=>(evE Φ G env o s1).post fun x s2=>(evE Φ G env i s2).post fun y s3=>∃r k vs j,x=.ref r∧y=.int k∧s3[r]?=some (.lst vs)∧L2.ixN vs.length k=some j∧P (.nx env) (upd s3 r (vs.set j v)):=by
 show (Out.bind _ _).post P↔_
 simp only[zG]
 refine zo fun v s1=>zo fun x s2=>zo fun y s3=>⟨fun h=>?_,fun⟨r,k,vs,j,h1,h2,h3,h4,h5⟩=>?_⟩
 . split at h
   . split at h
     . rename_i e3
       split at h
       . rename_i e4;exact⟨_,_,_,_,rfl,rfl,e3,e4,zE.mp h⟩
       . exact(zZ.mp h).elim
     . exact(zZ.mp h).elim
   . exact(zZ.mp h).elim
 . subst h1;subst h2
   simp only[h3,h4]
   exact zE.mpr h5
theorem Z7{c:Cn}{a b:Sms}{P:Fl→Sto→Prop}:(exS Φ G env (.ifS c a b) s).post P↔(evT Φ G env c s).post fun t s1=>if t=true then (zf Φ G env a s1).post P else (zf Φ G env b s1).post P:=by
 show (Out.bind _ _).post P↔_
 simp only[zG,xF]
theorem YB{P:Fl→Sto→Prop}:(exS Φ G env .pass s).post P↔P (.nx env) s:=zE
theorem Xr{P:Fl→Sto→Prop}:(exS Φ G env .brk s).post P↔P (.bk env) s:=zE
theorem Z5{P:Fl→Sto→Prop}:(exS Φ G env .cont s).post P↔P (.ct env) s:=zE
theorem mX{P:Fl→Sto→Prop}:(zf Φ G env .nil s).post P↔P (.nx env) s:=zE
noncomputable def rd(Φ:Calls)(G:Str→Option Val)(cs:Sms)(P:Fl→Sto→Prop):Fl→Sto→Prop
 |.nx e,s1=>(zf Φ G e cs s1).post P
 |fl,s1=>P fl s1
theorem zi{c:Sm}{cs:Sms}{P:Fl→Sto→Prop}:(zf Φ G env (.cons c cs) s).post P↔(exS Φ G env c s).post (rd Φ G cs P):=by
 show (Out.bind _ _).post P↔_
 simp only[zG]
 have:∀fl s1,(match fl with|.nx e=>zf Φ G e cs s1|fl=>Out.ok fl s1:Out Fl).post P↔rd Φ G cs P fl s1:=fun fl s1=>by
  cases fl with
  |nx e=>exact Iff.rfl
  |_=>exact zE
 exact⟨fun h=>zI h fun fl s1 h=>(this fl s1).mp h,fun h=>zI h fun fl s1 h=>(this fl s1).mpr h⟩
theorem bU{cs:Sms}{P:Fl→Sto→Prop}{e:Env}:rd Φ G cs P (.nx e) s↔(zf Φ G e cs s).post P:=Iff.rfl
theorem bV{cs:Sms}{P:Fl→Sto→Prop}{v:Val}:rd Φ G cs P (.rt v) s↔P (.rt v) s:=Iff.rfl
theorem bS{cs:Sms}{P:Fl→Sto→Prop}{v:Env}:rd Φ G cs P (.bk v) s↔P (.bk v) s:=Iff.rfl
theorem bT{cs:Sms}{P:Fl→Sto→Prop}{v:Env}:rd Φ G cs P (.ct v) s↔P (.ct v) s:=Iff.rfl
theorem rB{I:Env→Prop}{g:Val→List Val}{r:Src}{t:Tgt}{body:Env→Sto→List Val→Out (List Val × Env)}(hr:r.ok s=true):∀(xs:List Val),(∀x∈xs,∀e acc,I e→∃e1 e2,yg t x e=some e1∧body e1 s acc=.ok (acc++g x,e2) s∧I e2)→∀e acc,I e→∃e',I e'∧yh r t body xs e s acc=.ok (acc++xs.flatMap g,e') s
 |[],_,e,acc,h0=>⟨e,h0,by simp[yh,hr]⟩
 |x::xs,h,e,acc,h0=>by
  obtain⟨e1,e2,h1,h2,h3⟩:=h x (.head _) e acc h0
  obtain⟨e',h4,h5⟩:=rB hr xs (fun y hy=>h y (.tail _ hy)) e2 (acc++g x) h3
  refine⟨e',h4,?_⟩
  simp only[yh,hr,if_true,h1,h2,za,h5,List.flatMap_cons,List.append_assoc]
theorem mW{m:Bool}{N:List Str}{fr:List (Option Nat)}{elt:Ex}{t:Tgt}{it:Itb}{ifs:Cns}{P:Val→Sto→Prop}(I:Env→Prop)(g:Val→List Val)
 (h:(yq Φ G env it s).post fun r s1=>r.ok s1=true∧I (zN fr env)∧(∀x∈r.xs,∀e,I e→∃e1,yg t x e=some e1∧I e1∧(xy Φ G e1 ifs s1).post fun b s2=>s2=s1∧if b=true then (evE Φ G e1 elt s1).post (fun v s2=>s2=s1∧g x=[v]) else g x=[])∧(newList m (r.xs.flatMap g) s1).post P) :
 (evE Φ G env (.comp m N fr elt t it ifs) s).post P:=by
 obtain⟨r,s1,ei,h1,h2,h3,h4⟩:=h
 obtain⟨e',_,h5⟩:=rB (I:=I) (g:=g) (body:=fun e s' acc=>(xy Φ G e ifs s').bind fun b s2=>if b then (evE Φ G e elt s2).bind fun v s3=>.ok (acc++[v],e) s3 else .ok (acc,e) s2) h1 r.xs (fun x hx e acc he=>by
  obtain⟨e1,k1,k2,b,s2,k3,rfl,k4⟩:=h3 x hx e he
  refine⟨e1,e1,k1,?_,k2⟩
  rw[k3,za]
  cases b with
  |true=>
   rw[if_pos rfl]at k4 ⊢
   obtain⟨v,s3,kw,rfl,kv⟩:=k4
   rw[kw,za,kv]
  |false=>
   rw[if_neg Bool.false_ne_true]at k4 ⊢
   rw[k4,List.append_nil]) (zN fr env) [] h2
 show (Out.bind (yq Φ G env it s) _).post P
 rw[ei,za]
 rw[h5,za]
 exact h4
theorem qZ(Q:List Val→Env→Sto→List Val→Prop){r:Src}{t:Tgt}{body:Env→Sto→List Val→Out (List Val × Env)}:∀(xs:List Val),(∀e s acc,Q [] e s acc→r.ok s=true)→(∀x rest e s acc,Q (x::rest) e s acc→r.ok s=true∧∃e1,yg t x e=some e1∧(body e1 s acc).post fun p s2=>Q rest p.2 s2 p.1)→∀e s acc,Q xs e s acc→(yh r t body xs e s acc).post fun p s2=>Q [] p.2 s2 p.1
 |[],h0,_,e,s,acc,q=>by
  simp only[yh,h0 e s acc q,if_true]
  exact zE.mpr q
 |x::xs,h0,h,e,s,acc,q=>by
  obtain⟨h1,e1,h2,h3⟩:=h x xs e s acc q
  simp only[yh,h1,if_true,h2,zG]
  exact zI h3 fun p s2 q=>qZ Q xs h0 h p.2 s2 p.1 q
theorem kK{m:Bool}{N:List Str}{fr:List (Option Nat)}{elt:Ex}{t:Tgt}{it:Itb}{ifs:Cns}{P:Val→Sto→Prop}(Q:List Val→Env→Sto→List Val→Prop)
 (h:(yq Φ G env it s).post fun r s1=>Q r.xs (zN fr env) s1 []∧(∀rest e s acc,Q rest e s acc→r.ok s=true)∧(∀x rest e s acc,Q (x::rest) e s acc→∃e1,yg t x e=some e1∧(xy Φ G e1 ifs s).post fun b s2=>if b=true then (evE Φ G e1 elt s2).post (fun v s3=>Q rest e1 s3 (acc++[v])) else Q rest e1 s2 acc)∧∀e s acc,Q [] e s acc→(newList m acc s).post P) :
 (evE Φ G env (.comp m N fr elt t it ifs) s).post P:=by
 obtain⟨r,s1,ei,h1,h2,h3,h4⟩:=h
 show (Out.bind (yq Φ G env it s) _).post P
 rw[ei,za,zG]
 refine zI (qZ Q r.xs (fun e s acc q=>h2 _ e s acc q) (fun x rest e s acc q=>⟨h2 _ e s acc q,?_⟩) _ _ _ h1) fun p s2 q=>h4 _ _ _ q
 obtain⟨e1,k1,k2⟩:=h3 x rest e s acc q
 refine⟨e1,k1,?_⟩
 simp only[zG]
 refine zI k2 fun b s2 k=>?_
 cases b with
 |true=>
  rw[if_pos rfl]at k ⊢
  simp only[zG,zE]
  exact k
 |false=>
  rw[if_neg Bool.false_ne_true]at k ⊢
  exact zE.mpr k
theorem u7(Q:List Val→Env→Sto→Prop)(R:Fl→Sto→Prop){r:Src}{t:Tgt}{body:Env→Sto→Out Fl}(h0:∀e s,Q [] e s→R (.nx e) s):∀(xs:List Val),(∀rest e s,Q rest e s→r.ok s=true)→(∀x rest e s,Q (x::rest) e s→∃e1,yg t x e=some e1∧(body e1 s).post fun fl s2=>match fl with|.nx e=>Q rest e s2|.ct e=>Q rest e s2|.bk e=>R (.nx e) s2|.rt v=>R (.rt v) s2)→∀e s,Q xs e s→(vH r t body xs e s).post R
 |[],hk,_,e,s,q=>by
  simp only[vH,hk _ _ _ q,if_true]
  exact zE.mpr (h0 _ _ q)
 |x::xs,hk,h,e,s,q=>by
  obtain⟨e1,h2,h3⟩:=h x xs e s q
  simp only[vH,hk _ _ _ q,if_true,h2,zG]
  refine zI h3 fun fl s2 q=>?_
  cases fl with
  |nx e=>exact u7 Q R h0 xs hk h e s2 q
  |ct e=>exact u7 Q R h0 xs hk h e s2 q
  |bk e=>exact zE.mpr q
  |rt v=>exact zE.mpr q
noncomputable def rZ(Q:Env→Sto→Prop)(R:Fl→Sto→Prop):Fl→Sto→Prop
 |.nx e,s=>Q e s
 |.ct e,s=>Q e s
 |.bk e,s=>R (.nx e) s
 |.rt v,s=>R (.rt v) s
theorem bN{Q:Env→Sto→Prop}{R:Fl→Sto→Prop}{e:Env}:rZ Q R (.nx e) s↔Q e s:=Iff.rfl
theorem bM{Q:Env→Sto→Prop}{R:Fl→Sto→Prop}{e:Env}:rZ Q R (.ct e) s↔Q e s:=Iff.rfl
theorem bL{Q:Env→Sto→Prop}{R:Fl→Sto→Prop}{e:Env}:rZ Q R (.bk e) s↔R (.nx e) s:=Iff.rfl
theorem bO{Q:Env→Sto→Prop}{R:Fl→Sto→Prop}{v:Val}:rZ Q R (.rt v) s↔R (.rt v) s:=Iff.rfl
theorem Xs{t:Tgt}{it:Itb}{b:Sms}{R:Fl→Sto→Prop}(Q:List Val→Env→Sto→Prop)
 (h:(yq Φ G env it s).post fun r s1=>Q r.xs env s1∧(∀rest e s,Q rest e s→r.ok s=true)∧(∀x rest e s,Q (x::rest) e s→∃e1,yg t x e=some e1∧(zf Φ G e1 b s).post (rZ (Q rest) R))∧∀e s,Q [] e s→R (.nx e) s) :
 (exS Φ G env (.forS t it b) s).post R:=by
 obtain⟨r,s1,ei,h1,h2,h3,h4⟩:=h
 show (Out.bind (yq Φ G env it s) _).post R
 rw[ei,za]
 refine u7 Q R h4 r.xs h2 (fun x rest e s q=>?_) _ _ h1
 obtain⟨e1,k1,k2⟩:=h3 x rest e s q
 refine⟨e1,k1,zI k2 fun fl s2 k=>?_⟩
 cases fl<;>exact k
theorem xV{t:Tgt}{it:Itb}{b:Sms}{R:Fl→Sto→Prop}(Q:List Val→Env→Sto→Prop)(xs:List Val){s1:Sto}(hi:yq Φ G env it s=.ok ⟨xs,Option.none⟩ s1)(h0:Q xs env s1)
 (h1:∀x rest e s,Q (x::rest) e s→∃e1,yg t x e=some e1∧(zf Φ G e1 b s).post (rZ (Q rest) R)) (h2:∀e s,Q [] e s→R (.nx e) s) :
 (exS Φ G env (.forS t it b) s).post R:=Xs Q ⟨_,_,hi,h0,fun _ _ _ _=>rfl,h1,h2⟩
theorem ud{m:Bool}{N:List Str}{fr:List (Option Nat)}{elt:Ex}{t:Tgt}{it:Itb}{ifs:Cns}{P:Val→Sto→Prop}(I:Env→Prop)(g:Val→List Val)(xs:List Val){s1:Sto}(hi:yq Φ G env it s=.ok ⟨xs,Option.none⟩ s1)(h0:I (zN fr env))
 (h1:∀x∈xs,∀e,I e→∃e1,yg t x e=some e1∧I e1∧(xy Φ G e1 ifs s1).post fun b s2=>s2=s1∧if b=true then (evE Φ G e1 elt s1).post (fun v s2=>s2=s1∧g x=[v]) else g x=[]) (h2:(newList m (xs.flatMap g) s1).post P) :
 (evE Φ G env (.comp m N fr elt t it ifs) s).post P:=mW I g ⟨_,_,hi,rfl,h0,h1,h2⟩
end
theorem bW{s:Sto}:truth s .none=some false:=rfl
theorem zF{s:Sto}{b:Bool}:truth s (.bool b)=some b:=rfl
theorem Yi{s:Sto}{i:Int}:truth s (.int i)=some (i != 0):=rfl
theorem Yk{s:Sto}{vs:List Val}:truth s (.tup vs)=some !vs.isEmpty:=rfl
theorem Yj{s:Sto}{vs:List Val}:truth s (.lst vs)=some !vs.isEmpty:=rfl
theorem Ya{s:Sto}{vs:List Val}:srcOf s (.tup vs)=some ⟨vs,Option.none⟩:=rfl
theorem YZ{s:Sto}{vs:List Val}:srcOf s (.lst vs)=some ⟨vs,Option.none⟩:=rfl
theorem bK{s:Sto}{ns:List Int}:srcOf s (.ctup ns)=some ⟨ns.map .int,Option.none⟩:=rfl
theorem f7{s:Sto}{xs:List Val}:Src.ok ⟨xs,Option.none⟩ s=true:=rfl
theorem Y3{i:Nat}{v:Val}{env:Env}:yg (.nm i) v env=some (env.set i (some v)):=rfl
theorem aY{is:List Nat}{vs:List Val}{env:Env}:yg (.nms is) (.tup vs) env=if vs.length=is.length then some ((is.zip vs).foldl (fun e p=>e.set p.1 (some p.2)) env) else Option.none:=rfl
mutual
theorem eg:∀v:Val,v.beq v=true
 |.none=>rfl|.bool b=>by simp[Val.beq]|.int i=>by simp[Val.beq]|.str x=>by simp[Val.beq]|.dct0=>rfl
 |.tup vs=>by simp[Val.beq,vL vs]|.lst vs=>by simp[Val.beq,vL vs]
 |.ctup _=>by simp[Val.beq]|.scr _=>by simp[Val.beq]|.ref _=>by simp[Val.beq]|.fn _=>by simp[Val.beq]|.ty _=>by simp[Val.beq]
theorem vL:∀vs:List Val,pC vs vs=true
 |[]=>rfl
 |v::vs=>by simp[pC,eg v,vL vs]
end
theorem wk:∀(s t:Sto),wF s (s++t)=true
 |[],_=>rfl
 |.lst vs::r,t=>by simp[wF,Cel.beq,vL vs,wk r t]
theorem mN(s:Sto):wF s s=true:=by have:=wk s [];rwa [List.append_nil]at this
theorem qd:∀(s t:Sto) (i:Nat) (vs:List Val),zm vs=true→wF s (s.set i (.lst vs)++t)=true
 |[],_,_,_,_=>by simp[wF]
 |.lst ws::r,t,0,vs,h=>by simp[wF,Cel.noRef,h,wk r t]
 |.lst ws::r,t,i+1,vs,h=>by simp[wF,Cel.beq,vL ws,qd r t i vs h]
theorem uZ:Val.none.noRef=true:=by rw[Val.noRef]
theorem yt{b:Bool}:(Val.bool b).noRef=true:=by rw[Val.noRef]
theorem rK{b:Int}:(Val.int b).noRef=true:=by rw[Val.noRef]
theorem pX{b:Str}:(Val.str b).noRef=true:=by rw[Val.noRef]
theorem v5{vs:List Val}:(Val.tup vs).noRef=zm vs:=by rw[Val.noRef]
theorem mM{vs:List Val}:(Val.lst vs).noRef=zm vs:=by rw[Val.noRef]
theorem pY:zm []=true:=by rw[zm]
theorem rL{v:Val}{vs:List Val}:zm (v::vs)=(v.noRef&&zm vs):=by rw[zm]
theorem wO:∀ns:List Int,zm (ns.map .int)=true
 |[]=>rfl
 |_::ns=>by simp[zm,Val.noRef,wO ns]
theorem vB:∀zs:List (Int × Int),zm (zs.map prV)=true
 |[]=>rfl
 |_::zs=>by simp[zm,Val.noRef,prV,vB zs]
noncomputable def zb(k:Bool)(s0:Sto)(v:Val)(s:Sto):Out Val:=
 if k then .ok v s
 else if wF s0 s then (match freeze s0.length s v with|some v'=>.ok v' (s.take s0.length)|Option.none=>.stuck) else .stuck
theorem oV{s0 s:Sto}{v:Val}:zb true s0 v s=.ok v s:=rfl
theorem zt{k:Bool}{s:Sto}{v:Val}(h:v.noRef=true):zb k s v s=.ok v s:=by
 unfold zb
 cases k
 . simp[mN,freeze,h]
 . rfl
theorem sm{s t:Sto}{v:Val}(h:v.noRef=true):zb false s v (s++t)=.ok v s:=by
 unfold zb
 simp[wk,freeze,h]
theorem sv{s t:Sto}{v:Val}{i:Nat}{vs:List Val}(h:v.noRef=true)(hv:zm vs=true):zb false s v (s.set i (.lst vs)++t)=.ok v (s.set i (.lst vs)):=by
 unfold zb
 have e:s.length=(s.set i (.lst vs)).length:=by rw[List.length_set]
 simp only[qd s t i vs hv,freeze,h,if_true,Bool.false_eq_true,if_false,e,List.take_left']
theorem jQ{s:Sto}{v:Val}{i:Nat}{vs:List Val}(h:v.noRef=true)(hv:zm vs=true):zb false s v (s.set i (.lst vs))=.ok v (s.set i (.lst vs)):=by
 have:=sv (s:=s) (t:=[]) (i:=i) h hv
 rwa [List.append_nil]at this
theorem mF{s t:Sto}{vs:List Val}{i:Nat}(hi:i ≥ s.length)(hl:(s++t)[i]?=some (.lst vs))(h:zm vs=true):zb false s (.ref i) (s++t)=.ok (.lst vs) s:=by
 unfold zb
 have:¬i<s.length:=by omega
 simp[wk,freeze,Val.noRef,uR,this,hl,h]
noncomputable def fin(k:Bool)(s:Sto)(P:Val→Sto→Prop):Fl→Sto→Prop
 |.nx _,s1=>(zb k s .none s1).post P
 |.rt v,s1=>(zb k s v s1).post P
 |_,_=>False
theorem ag{k:Bool}{s s1:Sto}{P:Val→Sto→Prop}{e:Env}:fin k s P (.nx e) s1↔(zb k s .none s1).post P:=Iff.rfl
theorem ah{k:Bool}{s s1:Sto}{P:Val→Sto→Prop}{v:Val}:fin k s P (.rt v) s1↔(zb k s v s1).post P:=Iff.rfl
theorem xg{T:Tbl}{Φ:Calls}{N ps:List Str}{k:Bool}{b:Sms}{vs:List Val}{s:Sto}{P:Val→Sto→Prop}:(run T Φ ⟨N,ps,k,b⟩ vs s).post P↔vs.length=ps.length∧(zf Φ T.gl (zR N vs) b s).post (fin k s P):=by
 unfold run
 by_cases hl:vs.length=ps.length
 . rw[if_pos hl,zG]
   refine⟨fun h=>⟨hl,zI h fun fl s1 h=>?_⟩,fun h=>zI h.2 fun fl s1 h=>?_⟩
   . cases fl<;>first|exact h|exact(zZ.mp h).elim
   . cases fl<;>first|exact h|exact h.elim
 . rw[if_neg hl]
   exact⟨fun h=>(zZ.mp h).elim,fun h=>absurd h.1 hl⟩
theorem zT{T:Tbl}{n:Nat}{f:Str}{v:Nat}{F:Fn}(h:T.fn f v=some F)(vs:List Val)(s:Sto):zL T (n+1) f v vs s=run T (zL T n) F vs s:=by
 show (match T.fn f v with|some F=>run T (zL T n) F vs s|Option.none=>.stuck)=_
 rw[h]
noncomputable def At(T:Tbl)(k:Nat)(C:Calls→Prop):Prop:=∀n,k≤n→C (zL T n)
noncomputable def EVl:=And.intro @Xx <| And.intro @fB <| And.intro @Xu <| And.intro @W6 <| And.intro @gr <| And.intro @Xz <| And.intro @X0 <| And.intro @b8 <| And.intro @cK <| And.intro @Xp <| And.intro @Z2 <| And.intro @Z3 <| And.intro @W4 <| And.intro @X1 <| And.intro @X2 <| And.intro @Xv <| And.intro @X4 <| And.intro @Xy <| And.intro @Z4 <| And.intro @Xq <| And.intro @Z8 <| And.intro @g7 <| And.intro @Xw <| And.intro @W5 <| And.intro @Z9 <| And.intro @YA <| And.intro @ow <| And.intro @vQ <| And.intro @b9 <| And.intro @YE <| And.intro @YD <| And.intro @X3 <| And.intro @sG <| And.intro @cQ <| And.intro @fA <| And.intro @g9 <| And.intro @gw <| And.intro @oy <| And.intro @oz <| And.intro @Z6 <| And.intro @gu <| And.intro @g8 <| And.intro @YC <| And.intro @gp <| And.intro @gq <| And.intro @ox <| And.intro @cL <| And.intro @Z7 <| And.intro @YB <| And.intro @Xr <| And.intro @Z5 <| And.intro @mX <| And.intro @zi <| And.intro @bU <| And.intro @bV <| And.intro @bS <| And.intro @bT <| And.intro @bN <| And.intro @bM <| And.intro @bL <| And.intro @bO <| And.intro @zE <| And.intro @xF <| And.intro @zZ <| And.intro @bW <| And.intro @zF <| And.intro @Yi <| And.intro @Yk <| And.intro @Yj <| And.intro @Ya <| And.intro @YZ <| And.intro @bK <| And.intro @f7 <| And.intro @Y3 <| And.intro @aY <| And.intro @xg <| And.intro @ag <| And.intro @ah <| And.intro @oV <| And.intro @zt <| And.intro @uZ <| And.intro @yt <| And.intro @rK <| And.intro @pX <| And.intro @v5 <| And.intro @mM <| And.intro @pY <| And.intro @rL <| And.intro @wO <| @vB
end M
end
section
namespace M
open PySem
theorem bnd{α β:Type}{o:Out α}{a:α}{s:Sto}{f:α→Sto→Out β}{r:Out β}(h:o=.ok a s)(k:f a s=r):o.bind f=r:=by rw[h];exact k
section
variable {Φ:Calls}{G:Str→Option Val}{env:Env}{s s1 s2 s3 s4:Sto}
theorem zD{v:Val}:evE Φ G env (.lit v) s=.ok v s:=rfl
theorem zB{i:Nat}{v:Val}(h:env[i]?=some (some v)):evE Φ G env (.var i) s=.ok v s:=post_eq.mpr (fB.mpr ⟨v,h,rfl,rfl⟩)
theorem xw{x:Str}{n:String}:evE Φ G env (.ty x n) s=.ok (.ty n) s:=rfl
theorem rk{a b:Ex}{r:Out Val}(h1:evE Φ G env a s=.ok (.bool true) s1)(h2:evE Φ G env b s1=r):evE Φ G env (.andE a (.cons b .nil)) s=r:=bnd h1 h2
theorem lL{x:Str}{v:Val}(h:G x=some v):evE Φ G env (.gl x) s=.ok v s:=post_eq.mpr (Xu.mpr ⟨v,h,rfl,rfl⟩)
theorem tJ{a b:Ex}{es:Exs}(h1:evE Φ G env a s=.ok (.bool false) s1):evE Φ G env (.andE a (.cons b es)) s=.ok (.bool false) s1:=bnd h1 rfl
theorem Ys{a b c:Ex}{es:Exs}(h1:evE Φ G env a s=.ok (.bool true) s1)(h2:evE Φ G env b s1=.ok (.bool false) s2):evE Φ G env (.andE a (.cons b (.cons c es))) s=.ok (.bool false) s2:=bnd h1 (show (evE Φ G env b s1).bind _=_ from bnd h2 rfl)
theorem Yt{a b c:Ex}{r:Out Val}(h1:evE Φ G env a s=.ok (.bool true) s1)(h2:evE Φ G env b s1=.ok (.bool true) s2)(h3:evE Φ G env c s2=r):evE Φ G env (.andE a (.cons b (.cons c .nil))) s=r:=bnd h1 (show (evE Φ G env b s1).bind _=_ from bnd h2 h3)
theorem y7{a:Ex}{i:Int}(h:evE Φ G env a s=.ok (.int i) s1):evE Φ G env (.neg a) s=.ok (.int (-i)) s1:=bnd h rfl
theorem zp{m:Bool}{op:Bop}{a b:Ex}{x y:Val}{r:Out Val}(h1:evE Φ G env a s=.ok x s1)(h2:evE Φ G env b s1=.ok y s2)(h3:binOp m op x y s2=r):evE Φ G env (.bin m op a b) s=r:=bnd h1 (bnd h2 h3)
theorem zW{op:Cop}{a b:Ex}{x y:Val}{r:Out Val}(h1:evE Φ G env a s=.ok x s1)(h2:evE Φ G env b s1=.ok y s2)(h3:zV op x y s2=r):evE Φ G env (.cmp op a b) s=r:=bnd h1 (bnd h2 h3)
theorem ze{a b:Ex}{x y:Val}{r:Out Val}(h1:evE Φ G env a s=.ok x s1)(h2:evE Φ G env b s1=.ok y s2)(h3:xT x y s2=r):evE Φ G env (.ix a b) s=r:=bnd h1 (bnd h2 h3)
theorem vI:evO Φ G env .no s=.ok none s:=rfl
theorem uc{e:Ex}{i:Int}(h:evE Φ G env e s=.ok (.int i) s1):evO Φ G env (.yes e) s=.ok (some i) s1:=bnd h rfl
theorem oF{m:Bool}{a:Ex}{lo hi st:OEx}{x:Val}{l h c:Option Int}{r:Out Val}(h0:evE Φ G env a s=.ok x s1)(h1:evO Φ G env lo s1=.ok l s2)(h2:evO Φ G env hi s2=.ok h s3)(h3:evO Φ G env st s3=.ok c s4)(h4:vU m x l h c s4=r):evE Φ G env (.sl m a lo hi st) s=r:=bnd h0 (bnd h1 (bnd h2 (bnd h3 h4)))
theorem zC:yp Φ G env .nil s=.ok [] s:=rfl
theorem zA{e:Ex}{es:Exs}{v:Val}{vs:List Val}(h1:evE Φ G env e s=.ok v s1)(h2:yp Φ G env es s1=.ok vs s2):yp Φ G env (.cons e es) s=.ok (v::vs) s2:=bnd h1 (bnd h2 rfl)
theorem kL{e:Ex}{es:Exs}{v:Val}{P:List Val→Sto→Prop}(h:evE Φ G env e s=.ok v s1)(k:(yp Φ G env es s1).post fun vs s2=>P (v::vs) s2):(yp Φ G env (.cons e es) s).post P:=vQ.mpr (by rw[h];exact zE.mpr k)
theorem zj{es:Exs}{vs:List Val}(h:yp Φ G env es s=.ok vs s1)(hl:vs.length≤zO):evE Φ G env (.tup es) s=.ok (.tup vs) s1:=bnd h (if_pos hl)
theorem xq{es:Exs}{vs:List Val}(h:yp Φ G env es s=.ok vs s1)(hl:vs.length≤zO):evE Φ G env (.lst false es) s=.ok (.lst vs) s1:=bnd h (if_pos hl)
theorem zU{f:Bf}{m:Bool}{es:Exs}{vs:List Val}{r:Out Val}(h:yp Φ G env es s=.ok vs s1)(k:blt f m vs s1=r):evE Φ G env (.blt f m es) s=r:=bnd h k
theorem x_call{f:Str}{v:Nat}{es:Exs}{vs:List Val}{r:Out Val}(h:yp Φ G env es s=.ok vs s1)(k:Φ f v vs s1=r):evE Φ G env (.call f v es) s=r:=bnd h k
theorem yb{f:Str}{v:Nat}{es:Exs}{vs:List Val}{P:Val→Sto→Prop}(h:yp Φ G env es s=.ok vs s1)(k:(Φ f v vs s1).post P):(evE Φ G env (.call f v es) s).post P:=by rw[x_call h rfl];exact k
theorem xG{i:Nat}{e:Ex}{cs:Sms}{v:Val}{P:Fl→Sto→Prop}(h:evE Φ G env e s=.ok v s1)(k:(zf Φ G (env.set i (some v)) cs s1).post P):(zf Φ G env (.cons (.asg i e) cs) s).post P:=zi.mpr (gp.mpr (by rw[h];exact zE.mpr k))
theorem vT{i:Nat}{e:Ex}{cs:Sms}{P:Fl→Sto→Prop}(h:(evE Φ G env e s).post fun v s1=>(zf Φ G (env.set i (some v)) cs s1).post P):(zf Φ G env (.cons (.asg i e) cs) s).post P:=zi.mpr (gp.mpr h)
theorem sJ{e:Ex}{cs:Sms}{v:Val}{P:Fl→Sto→Prop}(h:evE Φ G env e s=.ok v s1)(k:(zf Φ G env cs s1).post P):(zf Φ G env (.cons (.expr e) cs) s).post P:=zi.mpr (gu.mpr (by rw[h];exact zE.mpr k))
theorem zX{e:Ex}{cs:Sms}{v:Val}{P:Fl→Sto→Prop}(h:evE Φ G env e s=.ok v s1)(k:P (.rt v) s1):(zf Φ G env (.cons (.ret e) cs) s).post P:=zi.mpr (g8.mpr (by rw[h];exact zE.mpr k))
theorem si{e:Ex}{v:Val}{xs:List Val}(h:evE Φ G env e s=.ok v s1)(k:srcOf s1 v=some ⟨xs,none⟩):yq Φ G env (.val e) s=.ok ⟨xs,none⟩ s1:=post_eq.mpr (gw.mpr (by rw[h];exact zE.mpr ⟨_,k,rfl,rfl⟩))
theorem zJ{e:Ex}{v:Val}{b:Bool}(h:evE Φ G env e s=.ok v s1)(k:truth s1 v=some b):evT Φ G env (.val e) s=.ok b s1:=post_eq.mpr (b9.mpr (by rw[h];exact zE.mpr ⟨_,k,rfl,rfl⟩))
theorem zl{c:Cn}{b:Bool}(h:evT Φ G env c s=.ok b s1):evT Φ G env (.not c) s=.ok (!b) s1:=bnd h rfl
theorem um{c:Cn}{cs:Cns}{b:Bool}(h:evT Φ G env c s=.ok false s1)(k:uO Φ G env cs s1=.ok b s2):evT Φ G env (.or c cs) s=.ok b s2:=bnd h k
theorem uD:uO Φ G env .nil s=.ok false s:=rfl
theorem yK{c:Cn}{cs:Cns}{b:Bool}(h:evT Φ G env c s=.ok false s1)(k:uO Φ G env cs s1=.ok b s2):uO Φ G env (.cons c cs) s=.ok b s2:=bnd h k
theorem qq{c:Cn}{cs:Cns}(h:evT Φ G env c s=.ok true s1):evT Φ G env (.or c cs) s=.ok true s1:=bnd h rfl
theorem yj{c:Cn}{cs:Cns}(h:evT Φ G env c s=.ok true s1):uO Φ G env (.cons c cs) s=.ok true s1:=bnd h rfl
theorem zu{c:Cn}{a cs:Sms}{P:Fl→Sto→Prop}(h:evT Φ G env c s=.ok false s1)(k:(zf Φ G env cs s1).post P):(zf Φ G env (.cons (.ifS c a .nil) cs) s).post P:=zi.mpr (Z7.mpr (by rw[h];refine zE.mpr ?_;rw[if_neg Bool.false_ne_true];exact mX.mpr k))
theorem zr{c:Cn}{a b cs:Sms}{P:Fl→Sto→Prop}(h:evT Φ G env c s=.ok true s1)(k:(zf Φ G env a s1).post (rd Φ G cs P)):(zf Φ G env (.cons (.ifS c a b) cs) s).post P:=zi.mpr (Z7.mpr (by rw[h];refine zE.mpr ?_;rw[if_pos rfl];exact k))
theorem WV{J:Env→Sto→Prop}{c:Cn}{a cs:Sms}{b:Bool}{P:Fl→Sto→Prop}(h:evT Φ G env c s=.ok b s1)(k1:b=true→(zf Φ G env a s1).post fun fl s2=>∃e,fl=.nx e∧J e s2)(k0:b=false→J env s1)(k:∀e s2,J e s2→(zf Φ G e cs s2).post P):(zf Φ G env (.cons (.ifS c a .nil) cs) s).post P:=by
 cases b with
 |true=>exact zr h (zI (k1 rfl) fun fl s2 ⟨e,he,j⟩=>by subst he;exact k e s2 j)
 |false=>exact zu h (k env s1 (k0 rfl))
theorem kD{e:Ex}{vs:List Val}(h:evE Φ G env e s=.ok (.tup vs) s1):yq Φ G env (.enum e) s=.ok ⟨yI 0 vs,none⟩ s1:=bnd h rfl
theorem kh{a:Ex}{b:Bool}(h:evE Φ G env a s=.ok (.bool b) s1):evE Φ G env (.not a) s=.ok (.bool !b) s1:=bnd h rfl
theorem wH{P:Fl→Sto→Prop}(k:P (.nx env) s):(zf Φ G env .nil s).post P:=mX.mpr k
theorem sH{is:List Nat}{vs:List Val}{P:Fl→Sto→Prop}(hl:vs.length=is.length)(k:P (.nx ((is.zip vs).foldl (fun e p=>e.set p.1 (some p.2)) env)) s):(if vs.length=is.length then Out.ok (Fl.nx ((is.zip vs).foldl (fun e p=>e.set p.1 (some p.2)) env)) s else .stuck).post P:=by
 rw[if_pos hl];exact zE.mpr k
theorem kE{e:Ex}{k:Nat}(h:evE Φ G env e s=.ok (.int (k:Int)) s1)(hk:k≤zO):yq Φ G env (.range1 e) s=.ok ⟨zy 0 k,none⟩ s1:=by
 rw[post_eq]
 refine oy.mpr ?_
 rw[h]
 exact zE.mpr ⟨_,rfl,⟨by omega,by omega⟩,by rw[Int.toNat_natCast],rfl⟩
theorem gA{a b:Ex}{i j:Nat}(h:evE Φ G env a s=.ok (.int (i:Int)) s1)(h':evE Φ G env b s1=.ok (.int (j:Int)) s2)(hi:i≤1000)(hj:j≤1000):yq Φ G env (.range2 a b) s=.ok ⟨zy i (j-i),none⟩ s2:=by
 rw[post_eq]
 refine oz.mpr ?_
 rw[h]
 refine zE.mpr ?_
 rw[h']
 exact zE.mpr ⟨_,_,rfl,rfl,⟨by omega,by omega,by omega,by omega,by unfold zO;omega⟩,by congr 2;omega,rfl⟩
theorem uC{c d:Cn}{a b:Bool}(h:evT Φ G env c s=.ok a s)(k:evT Φ G env d s=.ok b s):evT Φ G env (.and c (.cons d .nil)) s=.ok (a&&b) s:=bnd h (by
 cases a with
 |false=>rfl
 |true=>exact bnd k (by cases b<;>rfl))
theorem lC{c:Cn}{b:Bool}(h:evT Φ G env c s=.ok b s):xy Φ G env (.cons c .nil) s=.ok b s:=bnd h (by cases b<;>rfl)
end
end M
end
section
namespace M
open PySem
noncomputable def yG(l m:Int):Val→Bool
 |.int i=>decide (l≤i)&&decide (i≤m)
 |_=>false
theorem iJ{l m i:Int}(h1:l≤i)(h2:i≤m):yG l m (.int i)=true:=by simp[yG,h1,h2]
noncomputable def qz(Φ:Calls):Prop:=∀(v:Val) (l m:Int) (s:Sto),kindOf v≠none→Φ "is_whole" 0 [v,.int l,.int m] s=.ok (.bool (yG l m v)) s
noncomputable def pA(Φ:Calls):Prop:=∀(vs:List Val) (l m:Int) (s:Sto),(∀v∈vs,kindOf v≠none)→Φ "are_wholes" 0 [.tup vs,.int l,.int m] s=.ok (.bool (vs.all (yG l m))) s
noncomputable def bg(Φ:Calls):Prop:=∀(n i z:Nat) (s:Sto),i<n→2≤z→z≤8→Φ "most_step" 0 [.int n,.int i,.int z] s=.ok (.int ((n-1-i)/(z-1):Nat)) s
structure Gls(T:Tbl):Prop where
 mp:T.gl "MOST_PLACES"=some (.int 40)
 ls:T.gl "LEAST_SIZE"=some (.int 2)
 ms:T.gl "MOST_SIZE"=some (.int 8)
 hu:T.gl "HUES"=some (.ctup [0,1,2,3])
 bl:T.gl "BLANK"=some (.int (-1))
theorem yr{m:Bool}{vs:List Val}{s:Sto}:blt .len m [.tup vs] s=.ok (.int vs.length) s:=rfl
theorem Zk{m:Bool}{ns:List Int}{s:Sto}:blt .len m [.ctup ns] s=.ok (.int ns.length) s:=by simp[blt,wI]
theorem gV{m:Bool}{ns:List Int}{s:Sto}:blt .len m [.scr ns] s=.ok (.int ns.length) s:=by simp[blt,wI]
theorem le_int{a b:Int}{s:Sto}:zV .le (.int a) (.int b) s=.ok (.bool (decide (a≤b))) s:=rfl
theorem lt_int{a b:Int}{s:Sto}:zV .lt (.int a) (.int b) s=.ok (.bool (decide (a<b))) s:=rfl
theorem ge_int{a b:Int}{s:Sto}:zV .ge (.int a) (.int b) s=.ok (.bool (decide (b≤a))) s:=rfl
theorem gt_int{a b:Int}{s:Sto}:zV .gt (.int a) (.int b) s=.ok (.bool (decide (b<a))) s:=rfl
theorem pP{m:Bool}{vs:List Val}{s:Sto}:blt .isi m [.tup vs,.ty "tuple"] s=.ok (.bool true) s:=rfl
theorem tM{α:Type}(f:α→Bool):∀xs:List α,boolsOf (xs.map fun x=>Val.bool (f x))=some (xs.map f)
 |[]=>rfl
 |x::xs=>by simp[boolsOf,tM f xs]
theorem lz{α β:Type}(f:α→β)(xs:List α):xs.flatMap (fun x=>[f x])=xs.map f:=by
 induction xs with
 |nil=>rfl
 |cons x xs ih=>simp[ih]
theorem ux{m:Bool}{i j:Int}{s:Sto}:binOp m .add (.int i) (.int j) s=.ok (.int (i+j)) s:=by simp only[binOp]
theorem uy{m:Bool}{i j:Int}{s:Sto}:binOp m .sub (.int i) (.int j) s=.ok (.int (i-j)) s:=by simp only[binOp]
theorem lT{m:Bool}{i j:Int}{s:Sto}(h:-1000000≤i∧i≤1000000):binOp m .mul (.int i) (.int j) s=.ok (.int (i*j)) s:=by
 simp only[binOp]
 rw[if_pos (.inl (by omega))]
theorem iW{m:Bool}{i j:Int}{s:Sto}(h:-1000000≤j∧j≤1000000):binOp m .mul (.int i) (.int j) s=.ok (.int (i*j)) s:=by
 simp only[binOp]
 rw[if_pos (.inr (by omega))]
section
variable {T:Tbl}{Φ:Calls}{s:Sto}
theorem wR{v:Val}{m:Bool}{n:String}{a c:L2.Kd}{s:Sto}(h:kindOf v=some a)(h':xD n=some c):blt .isi m [v,.ty n] s=.ok (.bool (a.sub c)) s:=by
 simp only[blt];rw[h,h']
theorem gT{v:Val}{a:L2.Kd}(h:kindOf v=some a):(∃i,v=.int i)∨(∃b,v=.bool b)∨(a.sub .int=false∧∀l m,yG l m v=false):=by
 cases v with
 |int i=>exact .inl ⟨i,rfl⟩
 |bool b=>exact .inr (.inl ⟨b,rfl⟩)
 |_=>cases h<;>exact .inr (.inr ⟨rfl,fun _ _=>rfl⟩)
theorem wN{v:Val}(h:kindOf v≠none):∃a,kindOf v=some a:=Option.ne_none_iff_exists'.mp h
theorem sj{v:Val}{a:L2.Kd}(h:kindOf v=some a):(∃vs,v=.tup vs)∨a.sub .tup=false:=by
 cases v with
 |tup vs=>exact .inl ⟨vs,rfl⟩
 |_=>cases h<;>exact .inr rfl
theorem j8{v:Val}{l m:Int}(hk:kindOf v≠none):run T Φ F.xP [v,.int l,.int m] s=.ok (.bool (yG l m v)) s:=by
 obtain⟨a,ha⟩:=wN hk
 have e1:=wR (m:=false) (s:=s) ha (show xD "int"=some .int from rfl)
 have e2:=wR (m:=false) (s:=s) ha (show xD "bool"=some .bl from rfl)
 have end':∀{b:Bool},b=yG l m v→(zb false s (.bool b) s).post fun x t=>x=.bool (yG l m v)∧t=s:=fun{b} e=>by
  rw[zt yt,e];exact zE.mpr ⟨rfl,rfl⟩
 rw[post_eq,F.xP,xg]
 refine⟨rfl,?_⟩
 show (zf Φ T.gl [some v,some (.int l),some (.int m)] _ s).post _
 rcases gT ha with⟨i,rfl⟩|⟨b,rfl⟩|⟨h1,h2⟩
 . cases ha
   have hc:evE Φ T.gl [some (.int i),some (.int l),some (.int m)] (.chain .le .le (.var 1) (.var 0) (.var 2)) s=.ok (.bool (yG l m (.int i))) s:=by
    refine bnd (zB rfl) (bnd (zB rfl) (bnd le_int ?_))
    show (match Val.bool (decide (l≤i)) with
     |.bool true=>(evE Φ T.gl [some (.int i),some (.int l),some (.int m)] (.var 2) s).bind fun z s4=>zV .le (.int i) z s4
     |.bool false=>.ok (.bool false) s
     |_=>.stuck)=Out.ok (.bool (decide (l≤i)&&decide (i≤m))) s
    cases decide (l≤i) with
    |true=>exact bnd (zB rfl) le_int
    |false=>rfl
   exact zX (Yt (zU (zA (zB rfl) (zA xw zC)) e1) (kh (zU (zA (zB rfl) (zA xw zC)) e2)) hc) (end' rfl)
 . cases ha
   exact zX (Ys (zU (zA (zB rfl) (zA xw zC)) e1) (kh (zU (zA (zB rfl) (zA xw zC)) e2))) (end' rfl)
 . rw[h1]at e1
   exact zX (tJ (zU (zA (zB rfl) (zA xw zC)) e1)) (end' (h2 _ _).symm)
theorem m4(c:qz Φ){vs:List Val}{l m:Int}(hk:∀v∈vs,kindOf v≠none):run T Φ F.yl [.tup vs,.int l,.int m] s=.ok (.bool (vs.all (yG l m))) s:=by
 rw[post_eq]
 simp[F.yl,EVl,zR,zN]
 refine mW (fun e=>∃o,e=[o,some (.int l),some (.int m)]) (fun x=>[.bool (yG l m x)]) ?_
 simp[EVl,zR,zN]
 refine⟨?_,?_⟩
 . intro x hx
   simp[EVl,zR,zN,c x l m s (hk x hx)]
 . simp[newList,EVl,zR,zN,blt,lz,yV,tM]
theorem fu{n i z:Nat}(h1:i<n)(h2:2≤z)(h3:z≤8):run T Φ F.y6 [.int n,.int i,.int z] s=.ok (.int ((n-1-i)/(z-1):Nat)) s:=by
 rw[post_eq]
 have a1:(0:Int)<(z:Int)-1∧(z:Int)-1<1073741824:=by omega
 have a2:((n:Int)-1-(i:Int))/((z:Int)-1)=(((n-1-i)/(z-1):Nat):Int):=by
  rw[Int.natCast_ediv]
  congr 1<;>omega
 simp[F.y6,EVl,zR,zN,binOp]
 refine⟨by omega,?_⟩
 rw[a2];simp
end
end M
end
section
namespace M
open PySem
noncomputable def xh(r:Nat × Nat):Val:=.tup [.int r.1,.int r.2]
theorem uX{lo:Int}{n:Nat}{x:Val}(h:x∈zy lo n):∃k:Nat,k<n∧x=.int (lo+k):=by
 unfold zy at h
 obtain⟨k,h1,rfl⟩:=List.mem_map.mp h
 exact⟨k,List.mem_range.mp h1,rfl⟩
theorem qe:∀zs:List (Int × Int),pairsOf (zs.map prV)=some zs
 |[]=>rfl
 |z::zs=>by simp[pairsOf,prV,qe zs]
theorem WG(ns:List Int)(lo st:Int)(n:Nat):L2.yc (ns.map Val.int) lo st n=(L2.yc ns lo st n).map Val.int:=by
 unfold L2.yc
 rw[List.map_filterMap]
 congr 1
 funext k
 simp[List.getElem?_map]
theorem lr(a b:Int):PyData.eqv (.int a) (.int b)=decide (a=b):=by
 by_cases h:a=b<;>simp[PyData.eqv,h]
theorem eq_int{a b:Int}{s:Sto}:zV .eq (.int a) (.int b) s=.ok (.bool (decide (a=b))) s:=by
 simp[zV,zh,yO,uN,Val.isD,Val.d,PyData.depth,lr]
theorem ne_int{a b:Int}{s:Sto}:zV .ne (.int a) (.int b) s=.ok (.bool !(decide (a=b))) s:=by
 simp[zV,zh,yO,uN,Val.isD,Val.d,PyData.depth,lr]
theorem mB{vs:List Val}{k:Nat}{v:Val}{s:Sto}(h:vs[k]?=some v):xT (.tup vs) (.int k) s=.ok v s:=by
 simp[xT,wI,L2.vY h]
theorem w8{ns:List Int}{k:Nat}{i:Int}{s:Sto}(h:ns[k]?=some i):xT (.tup (ns.map .int)) (.int k) s=.ok (.int i) s:=mB (by rw[List.getElem?_map,h];rfl)
theorem ve(ns:List Int):(ns.map Val.int).all flat=true:=by
 rw[List.all_map];simp[flat]
theorem vy(ns:List Int)(y:Int):(ns.map Val.int).countP (fun z=>eqF z (.int y))=ns.count y:=by
 rw[List.countP_map];rfl
section
variable {T:Tbl}{Φ:Calls}{s:Sto}
noncomputable def Yv(Φ:Calls):Prop:=∀(ns:List Int) (f d z:Nat) (s:Sto),0<d→1≤z→f+d*(z-1)<ns.length→z≤zO→Φ "is_one_hue" 0 [.tup (ns.map .int),.int f,.int d,.int z] s=.ok (.bool (yx ns f d z)) s
theorem bA{ns:List Int}{f d z:Nat}(hd:0<d)(hz:1≤z)(h:f+d*(z-1)<ns.length)(hl:z≤zO):run T Φ F.ym [.tup (ns.map .int),.int f,.int d,.int z] s=.ok (.bool (yx ns f d z)) s:=by
 have hf:f<ns.length:=by
  have:0≤d*(z-1):=Nat.zero_le _
  omega
 have a1:=dC hd hz h
 have hdI:(d:Int)≠0:=by omega
 rw[post_eq]
 have hm:-(2 ^ 64)<(z:Int)∧(z:Int)<2 ^ 64:=by
  unfold zO at hl;omega
 have hmul:binOp false .mul (.int d) (.int z) s=.ok (.int ((d:Int)*z)) s:=by
  simp only[binOp]
  rw[if_pos (.inr hm)]
 have hix:xT (.tup (ns.map .int)) (.int f) s=.ok (.int (ns.getD f 0)) s:=w8 (by rw[List.getElem?_eq_getElem hf,List.getD_eq_getElem?_getD,List.getElem?_eq_getElem hf];rfl)
 have hadd:binOp false .add (.int f) (.int ((d:Int)*z)) s=.ok (.int ((f:Int)+(d:Int)*z)) s:=by simp only[binOp]
 have hsl:vU false (.tup (ns.map .int)) (some (f:Int)) (some ((f:Int)+(d:Int)*z)) (some (d:Int)) s=.ok (.tup (((List.range z).map fun k=>ns.getD (f+k*d) 0).map .int)) s:=by
  simp only[vU,List.length_map]
  rw[a1,if_pos ⟨hdI,hl⟩]
  simp only[WG,fO h]
 have key:decide ((((List.range z).map fun k=>ns.getD (f+k*d) 0).count (ns.getD f 0):Int)=(z:Int))=yx ns f d z:=by
  rw[Bool.eq_iff_iff,d9 h,decide_eq_true_iff]
  have hl:((List.range z).map fun k=>ns.getD (f+k*d) 0).length=z:=by rw[List.length_map,List.length_range]
  constructor
  . intro e x hx
    exact(List.count_eq_length.mp (by rw[hl];exact Int.ofNat.inj e) x hx).symm
  . intro e
    rw[List.count_eq_length.mpr fun x hx=>(e x hx).symm,hl]
 generalize hy:ns.getD f 0=y at hix key
 generalize hxs:(List.range z).map (fun k=>ns.getD (f+k*d) 0)=xs at hsl key
 simp only[F.ym,EVl,zR,zN]
 simp[EVl,zR,zN,hmul,hadd,hix,hsl,yY,ve,vy,eq_int,flat]
 exact key
end
end M
end
section
namespace M
open PySem
theorem qU{ns:List Int}:∀v∈ns.map Val.int,kindOf v≠none:=fun v hv=>by
 obtain⟨i,_,rfl⟩:=List.mem_map.mp hv
 simp[kindOf]
theorem sO{l m:Int}{ns:List Int}(h:∀x∈ns,l≤x∧x≤m):(ns.map Val.int).all (yG l m)=true:=by
 rw[List.all_eq_true]
 intro v hv
 obtain⟨i,hi,rfl⟩:=List.mem_map.mp hv
 exact iJ (h i hi).1 (h i hi).2
theorem t6{α:Type}{xs:List α}{p:Nat}(hp:p≤xs.length):xR xs none (some (p:Int))=xs.take p:=by
 unfold xR
 have h1:HT.sIx xs.length 0 none=0:=rfl
 have h2:HT.sIx xs.length xs.length (some (p:Int))=p:=by rw[HT.kY];omega
 rw[h1,h2,List.drop_zero,Nat.sub_zero]
theorem pJ{α:Type}{xs:List α}{p:Nat}(hp:p≤xs.length):xR xs (some (p:Int)) none=xs.drop p:=by
 unfold xR
 have h1:HT.sIx xs.length 0 (some (p:Int))=p:=by rw[HT.kY];omega
 have h2:HT.sIx xs.length xs.length none=xs.length:=rfl
 rw[h1,h2,List.take_of_length_le (by rw[List.length_drop];omega)]
noncomputable abbrev tpI(ns:List Int):Val:=.tup (ns.map .int)
section
variable {T:Tbl}{Φ:Calls}{s:Sto}
noncomputable def qC(Φ:Calls):Prop:=∀(zs:List Int) (s:Sto),Sz zs→Φ "are_sizes" 0 [tpI zs] s=.ok (.bool true) s
noncomputable def sL(Φ:Calls):Prop:=∀(zs:List Int) (s:Sto),Sz zs→Φ "need_sizes" 0 [tpI zs] s=.ok .none s
noncomputable def bj(Φ:Calls):Prop:=∀(ns:List Int) (p:Nat) (h:Int) (s:Sto),p<ns.length→ns.length≤1000→Φ "with_hue" 0 [tpI ns,.int p,.int h] s=.ok (tpI (putL ns p h)) s
theorem pv(g:Gls T)(c:pA Φ){zs:List Int}(h:Sz zs):run T Φ F.y4 [tpI zs] s=.ok (.bool true) s:=by
 rw[post_eq]
 have c1:=c (zs.map .int) 2 8 s qU
 rw[sO h.2.2]at c1
 have a1:(1:Int)≤(zs.length:Int):=by have:=h.1;omega
 have a2:(zs.length:Int)≤4:=by have:=h.2.1;omega
 simp[F.y4,EVl,zR,zN,pP,yr,Zk,g.hu,g.ls,g.ms,le_int,c1,a1,a2]
theorem r0(c:qC Φ){zs:List Int}(h:Sz zs):run T Φ F.yo [tpI zs] s=.ok .none s:=by
 rw[post_eq]
 simp[F.yo,EVl,zR,zN,c zs s h]
theorem xX{m:Bool}{a b:List Val}{s:Sto}(h:a.length+b.length≤zO):binOp m .add (.tup a) (.tup b) s=.ok (.tup (a++b)) s:=by
 simp only[binOp];rw[if_pos h]
theorem fv{ns:List Int}{p:Nat}{h:Int}(hp:p<ns.length)(hn:ns.length≤1000):run T Φ F.xQ [tpI ns,.int p,.int h] s=.ok (tpI (putL ns p h)) s:=by
 rw[post_eq]
 have c1:vU false (tpI ns) none (some (p:Int)) none s=.ok (tpI (ns.take p)) s:=by
  simp only[vU];rw[t6 (by rw[List.length_map];omega),←List.map_take]
 have c2:vU false (tpI ns) (some ((p:Int)+1)) none none s=.ok (tpI (ns.drop (p+1))) s:=by
  have:((p:Int)+1)=((p+1:Nat):Int):=by omega
  simp only[vU];rw[this,pJ (by rw[List.length_map];omega),←List.map_drop]
 have c3:binOp false .add (tpI (ns.take p)) (.tup [.int h]) s=.ok (tpI (ns.take p++[h])) s:=by
  rw[xX (by simp[zO];omega),←List.map_singleton,←List.map_append]
 have c4:binOp false .add (tpI (ns.take p++[h])) (tpI (ns.drop (p+1))) s=.ok (tpI (putL ns p h)) s:=by
  rw[xX (by simp[zO];omega),←List.map_append]
  simp[putL]
 have c0:(1:Nat)≤zO:=by simp[zO]
 simp only[tpI]at *
 simp only[F.xQ,EVl,zR,zN]
 simp[EVl,zR,zN,c0,ux]
 rw[c1]
 simp only[EVl,zR,zN]
 rw[c3]
 simp only[EVl,zR,zN]
 rw[c2]
 simp only[EVl,zR,zN]
 rw[c4]
 simp[EVl,zR,zN]
end
end M
end
section
namespace M
open PySem
theorem oi(rs:List (Nat × Nat)):zm (rs.map xh)=true:=by
 have:=vB (rs.map toI)
 rw[List.map_map]at this
 exact this
theorem dF{α β:Type}(f:α→Bool)(g:α→β)(xs:List α):xs.flatMap (fun x=>if f x then [g x] else [])=(xs.filter f).map g:=by
 induction xs with
 |nil=>rfl
 |cons x xs ih=>
  rw[List.flatMap_cons,ih]
  cases h:f x<;>simp[h]
section
variable {T:Tbl}{Φ:Calls}{s:Sto}
theorem oJ{ns:List Int}{p:Nat}{i:Int}(h:ns[p]?=some i):p<ns.length:=(List.getElem?_eq_some_iff.mp h).1
end
end M
end
section
namespace M
open PySem
noncomputable def vk(a b:Int):Cel:=.lst [.int a,.int b]
noncomputable def y8(s:Sto)(p:Nat):Prop:=∃a b,s[p]?=some (vk a b)∧0≤b∧b<2147483629
noncomputable def yM(s:Sto)(p:Nat)(s':Sto):Prop:=∃a b,s'=s.set p (vk a b)∧0≤b∧b<2147483629
theorem y8.lt{s:Sto}{p:Nat}(h:y8 s p):p<s.length:=by
 obtain⟨a,b,h,_⟩:=h
 exact(List.getElem?_eq_some_iff.mp h).1
theorem yM.at_{s s':Sto}{p:Nat}(h:yM s p s')(hp:p<s.length):y8 s' p:=by
 obtain⟨a,b,rfl,h1⟩:=h
 exact⟨a,b,List.getElem?_set_self hp,h1⟩
theorem yM.trans{s s1 s2:Sto}{p:Nat}(h:yM s p s1)(k:yM s1 p s2):yM s p s2:=by
 obtain⟨a,b,rfl,h1⟩:=h
 obtain⟨c,d,rfl,h2⟩:=k
 exact⟨c,d,by rw[List.set_set],h2⟩
theorem yM.len{s s':Sto}{p:Nat}(h:yM s p s'):s'.length=s.length:=by
 obtain⟨a,b,rfl,_⟩:=h
 exact List.length_set ..
theorem yM.app{s s' t:Sto}{p:Nat}(hp:p<s.length)(h:yM (s++t) p s'):∃s1,yM s p s1∧s'=s1++t:=by
 obtain⟨a,b,rfl,h1⟩:=h
 exact⟨_,⟨a,b,rfl,h1⟩,List.set_append_left _ _ hp⟩
theorem y8.up{s:Sto}{p:Nat}(h:y8 s p)(t:Sto):y8 (s++t) p:=by
 obtain⟨a,b,h1,h2⟩:=h
 exact⟨a,b,by rw[List.getElem?_append_left (List.getElem?_eq_some_iff.mp h1).1];exact h1,h2⟩
theorem qX{s s' t:Sto}{p:Nat}{v:Val}(h:yM s p s')(hv:v.noRef=true):zb false s v (s'++t)=.ok v s':=by
 obtain⟨a,b,rfl,_⟩:=h
 exact sv hv rfl
theorem su{s s':Sto}{p:Nat}{v:Val}(h:yM s p s')(hv:v.noRef=true):zb false s v s'=.ok v s':=by
 have:=qX (t:=[]) h hv
 rwa [List.append_nil]at this
theorem bmod{m:Bool}{i j:Int}{s:Sto}(h:0<j):binOp m .mod (.int i) (.int j) s=.ok (.int (i%j)) s:=by
 simp only[binOp];rw[if_pos h]
theorem bdiv{m:Bool}{i j:Int}{s:Sto}(h:0<j∧j<1073741824):binOp m .fdiv (.int i) (.int j) s=.ok (.int (i/j)) s:=by
 simp only[binOp];rw[if_pos h]
theorem vP{vs:List Val}{k:Nat}{v:Val}{s:Sto}(h:vs[k]?=some v):xT (.lst vs) (.int k) s=.ok v s:=by
 simp[xT,wI,L2.vY h]
theorem pQ{vs:List Val}{i k:Nat}{v:Val}{s:Sto}(hs:s[i]?=some (.lst vs))(h:vs[k]?=some v):xT (.ref i) (.int k) s=.ok v s:=by
 simp[xT,wI,hs,L2.vY h]
section
variable {T:Tbl}{Φ:Calls}{s:Sto}
noncomputable def ba(Φ:Calls):Prop:=∀(ns:List Int) (k:Nat) (s:Sto),∃c,Φ "_law_cell_at" 0 [.scr ns,.int k] s=.ok (.int c) s
noncomputable def Yw(Φ:Calls):Prop:=∀(c:Int) (s:Sto),∃a b,Φ "_law_pen" 1 [.int c] s=.ok (.ref s.length) (s++[vk a b])∧0≤b∧b<2147483629
noncomputable def lO(Φ:Calls):Prop:=∀(p:Nat) (m:Int) (s:Sto),y8 s p→0<m→m<1000000→(Φ "_law_draw" 0 [.ref p,.int m] s).post fun v s'=>∃r:Nat,v=.int r∧(r:Int)<m∧yM s p s'
theorem fk(ns:List Int)(k:Nat):∃c,run T Φ F.z0 [.scr ns,.int k] s=.ok (.int c) s:=by
 by_cases h:k<ns.length
 . refine⟨ns[k],?_⟩
   rw[post_eq]
   have h':(k:Int)<ns.length:=by omega
   have e:(ns.map Val.int)[k]?=some (.int ns[k]):=by rw[List.getElem?_map,List.getElem?_eq_getElem h];rfl
   have c1:xT (.scr ns) (.int k) s=.ok (.int ns[k]) s:=by simp[xT,wI,L2.vY e]
   simp[F.z0,EVl,zR,zN,gV,lt_int,h',h,c1]
 . refine⟨0,?_⟩
   rw[post_eq]
   have h':¬(k:Int)<ns.length:=by omega
   simp[F.z0,EVl,zR,zN,gV,lt_int,h',h]
theorem bB(c:Int):∃a b,run T Φ F.yR [.int c] s=.ok (.ref s.length) (s++[vk a b])∧0≤b∧b<2147483629:=by
 have key:(run T Φ F.yR [.int c] s).post fun v s'=>∃a b,v=.ref s.length∧s'=s++[vk a b]∧0≤b∧b<2147483629:=by
  have c1:∀(i:Int) (b:Bool),binOp false .mul (.int i) (.int (if b then 1 else 0)) s=.ok (.int (i*(if b then 1 else 0))) s:=fun i b=>iW (by cases b<;>simp)
  have c2:∀i:Int,binOp false .mod (.int i) (.int 2147483629) s=.ok (.int (i%2147483629)) s:=fun i=>by simp[binOp]
  have c3:binOp false .pow (.int 10) (.int 18) s=.ok (.int (10 ^ 18)) s:=by simp[binOp]
  simp[F.yR,EVl,zR,zN,uy,blt]
  simp[EVl,zR,zN,c1,c2,c3,ge_int,blt,zO,newList,vk]
  rw[iW (by split<;>omega)]
  simp only[zE]
  rw[bmod (by omega)]
  simp only[zE]
  exact⟨trivial,_,_,⟨trivial,rfl,rfl⟩,Int.emod_nonneg _ (by omega),Int.emod_lt_of_pos _ (by omega)⟩
 obtain⟨v,s',h,a,b,rfl,rfl,h1⟩:=key
 exact⟨a,b,h,h1⟩
theorem fm{p:Nat}{m:Int}(hp:y8 s p)(h0:0<m)(h1:m<1000000):(run T Φ F.yz [.ref p,.int m] s).post fun v s'=>∃r:Nat,v=.int r∧(r:Int)<m∧yM s p s':=by
 obtain⟨a,b,hs,hb,hb1⟩:=hp
 have hlt:=(List.getElem?_eq_some_iff.mp hs).1
 have i0:xT (.ref p) (.int 0) s=.ok (.int a) s:=pQ (k:=0) hs rfl
 have i1:xT (.ref p) (.int 1) s=.ok (.int b) s:=pQ (k:=1) hs rfl
 have i1':∀c d,xT (.ref p) (.int 1) (s.set p (vk c d))=.ok (.int d) (s.set p (vk c d)):=fun c d=>pQ (k:=1) (List.getElem?_set_self hlt) rfl
 have lv:∀(i:Int) (c d:Int),zb false s (.int i) (s.set p (vk c d))=.ok (.int i) (s.set p (vk c d)):=fun i c d=>jQ rfl rfl
 simp[F.yz,EVl,zR,zN,i0,gt_int]
 by_cases ha:0<a
 . refine .inr ⟨ha,?_⟩
   have c1:blt .divmod false [.int a,.int m] s=.ok (.tup [.int (a/m),.int (a%m)]) s:=by
    simp only[blt];rw[if_pos ⟨h0,by omega⟩]
   rw[c1]
   simp only[zE]
   refine⟨[some (.ref p),some (.int m),some (.int (a/m)),some (.int (a%m)),none],rfl,_,rfl,_,rfl,p,rfl,_,hs,0,rfl,_,rfl,?_⟩
   have:upd s p ([Val.int a,Val.int b].set 0 (.int (a/m)))=s.set p (vk (a/m) b):=rfl
   rw[this,lv]
   simp only[zE]
   have e1:=Int.emod_nonneg a (show m≠0 by omega)
   have e2:=Int.emod_lt_of_pos a h0
   exact⟨(a%m).toNat,by rw[Int.toNat_of_nonneg e1],by omega,_,_,rfl,hb,hb1⟩
 . refine .inl ⟨by omega,?_⟩
   rw[i1];simp only[zE]
   rw[iW (by omega)];simp only[zE,ux]
   rw[bmod (by omega)];simp only[zE]
   generalize hd:(b*48271+30269)%2147483629=d
   have d0:0≤d:=by rw[←hd];exact Int.emod_nonneg _ (by omega)
   have d1:d<2147483629:=by rw[←hd];exact Int.emod_lt_of_pos _ (by omega)
   refine⟨_,hs,1,rfl,?_⟩
   have:upd s p ([Val.int a,Val.int b].set 1 (.int d))=s.set p (vk a d):=rfl
   rw[this]
   simp only[i1',zE]
   have c2:binOp false .mul (.int d) (.int d) (s.set p (vk a d))=.ok (.int (d*d)) (s.set p (vk a d)):=by
    simp only[binOp];rw[if_pos (.inl (by omega))]
   rw[c2];simp only[i1',zE]
   rw[lT (by omega)];simp only[zE,ux]
   rw[bmod (by omega)];simp only[zE]
   rw[bdiv (by omega)];simp only[zE]
   rw[bmod h0];simp only[zE,lv]
   generalize (d*d+40692*d+7)%2147483587/64=q
   have e1:=Int.emod_nonneg q (show m≠0 by omega)
   have e2:=Int.emod_lt_of_pos q h0
   exact⟨(q%m).toNat,by rw[Int.toNat_of_nonneg e1],by omega,_,_,rfl,d0,d1⟩
end
end M
end
section
namespace M
open PySem
theorem jP{s:Sto}{vs:List Val}(h:zm vs=true):zb false s (.ref s.length) (s++[.lst vs])=.ok (.lst vs) s:=mF (Nat.le_refl _) (by simp) h
theorem tx{s:Sto}{vs:List Val}{y:Val}(h:vs.length<zO):yY .append (.ref s.length) [y] (s++[.lst vs])=.ok .none (s++[.lst (vs++[y])]):=by
 simp[yY,h,upd]
section
variable {T:Tbl}{Φ:Calls}{s:Sto}
theorem c8(lo:Int)(n:Nat):(zy lo n).length=n:=by unfold zy;rw[List.length_map,List.length_range]
noncomputable def iN(Φ:Calls):Prop:=∀(n z:Nat) (s:Sto),n≤40→2≤z→z≤8→Φ "_law_rows" 0 [.int n,.int z] s=.ok (.lst ((xj n z).map xh)) s
noncomputable def qx(Φ:Calls):Prop:=∀(r:Nat × Nat) (z:Nat) (s:Sto),z≤8→r.2≤1000→Φ "_law_places" 0 [xh r,.int z] s=.ok (.lst ((yu r.1 r.2 z).map .int)) s
theorem mz{r:Nat × Nat}{z:Nat}(hz:z≤8)(hr:r.2≤1000):run T Φ F.yX [xh r,.int z] s=.ok (.lst ((yu r.1 r.2 z).map .int)) s:=by
 rw[post_eq]
 simp[F.yX,EVl,zR,zN]
 refine mW (fun e=>∃o,e=[o,some (xh r)]) (fun x=>match x with|.int k=>[.int (r.1+k*r.2)]|_=>[]) ?_
 simp[EVl,zR,zN]
 refine⟨by unfold zO;omega,?_,?_⟩
 . intro x hx
   obtain⟨k,hk,rfl⟩:=uX hx
   have c0:xT (xh r) (.int 0) s=.ok (.int r.1) s:=mB (k:=0) rfl
   have c1:xT (xh r) (.int 1) s=.ok (.int r.2) s:=mB (k:=1) rfl
   rw[c0];simp only[zE]
   rw[c1];simp only[zE]
   rw[lT (by omega)];simp[EVl,zR,zN,ux]
 . have:(zy 0 z).flatMap (fun x=>match x with|.int k=>[Val.int (r.1+k*r.2)]|_=>[])=(yu r.1 r.2 z).map .int:=by
    unfold zy yu
    rw[List.flatMap_map,List.map_map,←lz]
    congr 1
    funext k
    simp
   rw[this]
   simp[EVl,zR,zN,newList]
theorem ff(lo:Int)(k:Nat):zy lo (k+1)=.int lo::zy (lo+1) k:=by
 unfold zy
 rw[List.range_succ_eq_map,List.map_cons,List.map_map]
 congr 1
 . simp
 . refine List.map_congr_left fun j _=>?_
   show Val.int (lo+((j+1:Nat):Int))=Val.int (lo+1+(j:Int))
   congr 1;omega
theorem tE{lo:Int}{k:Nat}{x:Val}{rest:List Val}(h:x::rest=zy lo k):∃k',k=k'+1∧x=.int lo∧rest=zy (lo+1) k':=by
 cases k with
 |zero=>simp[zy]at h
 |succ k=>
  rw[ff]at h
  injection h with h1 h2
  exact⟨k,rfl,h1,h2⟩
theorem pq{lo:Int}{k:Nat}(h:[]=zy lo k):k=0:=by
 have:=congrArg List.length h
 rw[c8]at this
 exact this.symm
theorem filter_lt{K m:Nat}(h:K≤m):(List.range m).filter (fun j=>decide (j<K))=List.range K:=by
 obtain⟨t,rfl⟩:=Nat.exists_eq_add_of_le h
 rw[List.range_add,List.filter_append,List.filter_eq_self.mpr (fun a ha=>by simpa using ha)]
 rw[List.filter_eq_nil_iff.mpr,List.append_nil]
 intro a ha
 obtain⟨j,_,rfl⟩:=List.mem_map.mp ha
 simp
theorem du{m:Bool}{s:Sto}{i:Nat}{vs:List Val}(h:s[i]?=some (.lst vs)):blt .len m [.ref i] s=.ok (.int vs.length) s:=by simp[blt,wI,h]
theorem j6{n z:Nat}(hn:n≤40)(hz:2≤z)(hz8:z≤8):run T Φ F.y2 [.int n,.int z] s=.ok (.lst ((xj n z).map xh)) s:=by
 rw[post_eq,F.y2,xg]
 refine⟨rfl,?_⟩
 show (zf Φ T.gl [some (.int n),some (.int z),none,none,none] _ s).post _
 refine xG (v:=.ref s.length) (s1:=s++[.lst []]) (bnd zC rfl) ?_
 refine zi.mpr (xV (fun rest e s'=>∃i o3 o4,i≤n∧rest=zy i (n-i)∧e=[some (.int n),some (.int z),some (.ref s.length),o3,o4]∧s'=s++[.lst (((List.range i).flatMap (wL n z)).map xh)]) (zy 0 n) (s1:=s++[.lst []]) (kE (zB rfl) (by unfold zO;omega)) ⟨0,_,_,by omega,rfl,rfl,rfl⟩ ?_ ?_)
 . rintro x rest e s' ⟨i,o3,o4,hi,hr,rfl,rfl⟩
   obtain⟨k,hk,rfl,rfl⟩:=tE hr
   refine⟨_,rfl,?_⟩
   have hK:(n-1-i)/(z-1)≤n-1:=Nat.le_trans (Nat.div_le_self _ _) (by omega)
   have hrow:wL n z i=(List.range ((n-1-i)/(z-1))).map fun j=>(i,j+1):=rfl
   generalize hKd:(n-1-i)/(z-1)=K at *
   refine zi.mpr (xV (fun rest e s'=>∃j o4,j≤n-1∧rest=zy (1+(j:Int)) (n-1-j)∧e=[some (.int n),some (.int z),some (.ref s.length),some (.int i),o4]∧s'=s++[.lst (((List.range i).flatMap (wL n z)++((List.range j).filter fun j=>decide (j<K)).map fun j=>(i,j+1)).map xh)]) (zy ((1:Nat):Int) (n-1)) (s1:=s++[.lst (((List.range i).flatMap (wL n z)).map xh)]) (gA (i:=1) zD (zB rfl) (by omega) (by omega)) ⟨0,_,by omega,rfl,rfl,by rw[List.range_zero,List.filter_nil,List.map_nil,List.append_nil]⟩ ?_ ?_)
   . rintro x rest e s' ⟨j,o4,hj,hr,rfl,rfl⟩
     obtain⟨k',hk',rfl,rfl⟩:=tE hr
     refine⟨_,rfl,?_⟩
     have hlen:((List.range i).flatMap (wL n z)).length≤i*n:=l5 n z i
     have hin:i*n≤40*40:=Nat.mul_le_mul (by omega) hn
     have hfl:((List.range j).filter fun j=>decide (j<K)).length≤j:=by
      have:=List.length_filter_le (fun j=>decide (j<K)) (List.range j)
      rwa [List.length_range]at this
     have key:((i:Int)+((z:Int)-1)*(1+(j:Int))<(n:Int))↔j<K:=by
      have:=au (n:=n) (z:=z) (i:=i) (j:=j) (by omega) hz
      rw[hKd]at this
      rwa [Int.zero_add]at this
     have er:(List.range (j+1)).filter (fun j=>decide (j<K))=(List.range j).filter (fun j=>decide (j<K))++if j<K then [j] else []:=by
      rw[List.range_succ,List.filter_append]
      congr 1
      by_cases h:j<K
      . rw[if_pos h,List.filter_cons,if_pos (decide_eq_true h),List.filter_nil]
      . rw[if_neg h,List.filter_cons,if_neg (by rw[decide_eq_false h];exact Bool.false_ne_true),List.filter_nil]
     have tt:∀S:Sto,evT Φ T.gl [some (.int (n:Int)),some (.int (z:Int)),some (.ref s.length),some (.int (i:Int)),some (.int (1+(j:Int)))] (.val (.cmp .lt (.bin false .add (.var 3) (.bin false .mul (.bin false .sub (.var 1) (.lit (.int 1))) (.var 4))) (.var 0))) S=.ok (decide ((i:Int)+((z:Int)-1)*(1+(j:Int))<(n:Int))) S:=fun S=>zJ (zW (zp (zB rfl) (zp (zp (zB rfl) zD uy) (zB rfl) (lT (by omega))) ux) (zB rfl) lt_int) zF
     by_cases h:j<K
     . have ht:=tt (s++[.lst (((List.range i).flatMap (wL n z)++((List.range j).filter fun j=>decide (j<K)).map fun j=>(i,j+1)).map xh)])
       rw[decide_eq_true (key.mpr h)]at ht
       refine zr ht (sJ (bnd (zB rfl) (bnd (zA (zj (zA (zB rfl) (zA (zB rfl) zC)) (show 2≤zO by unfold zO;omega)) zC) (tx (by rw[List.length_map,List.length_append,List.length_map];unfold zO;omega)))) (wH (wH ⟨j+1,_,by omega,by congr 1<;>omega,rfl,?_⟩)))
       have hm:∀(A:List (Nat × Nat)) (F:List Nat),(A++(F++[j]).map fun j=>(i,j+1)).map xh=(A++F.map fun j=>(i,j+1)).map xh++[Val.tup [.int (i:Int),.int ((j+1:Nat):Int)]]:=fun A F=>by
        rw[List.map_append (l₁:=F),←List.append_assoc,List.map_append];rfl
       rw[er,if_pos h,hm,show (1:Int)+(j:Int)=((j+1:Nat):Int) by omega]
     . have ht:=tt (s++[.lst (((List.range i).flatMap (wL n z)++((List.range j).filter fun j=>decide (j<K)).map fun j=>(i,j+1)).map xh)])
       rw[decide_eq_false fun q=>h (key.mp q)]at ht
       refine zu ht (wH ⟨j+1,_,by omega,by congr 1<;>omega,rfl,?_⟩)
       rw[er,if_neg h,List.append_nil]
   . rintro e s' ⟨j,o4,hj,hr,rfl,rfl⟩
     have:=pq hr
     have hj:j=n-1:=by omega
     subst hj
     rw[filter_lt hK]
     refine wH ⟨i+1,_,_,by omega,by congr 1<;>omega,rfl,?_⟩
     rw[List.range_succ,List.flatMap_append,List.flatMap_singleton,hrow]
 . rintro e s' ⟨i,o3,o4,hi,hr,rfl,rfl⟩
   have:=pq hr
   have hi:i=n:=by omega
   subst hi
   refine zX (zB rfl) ?_
   show (zb false s _ _).post _
   rw[jP (oi _)]
   exact zE.mpr ⟨rfl,rfl⟩
end
end M
end
section
namespace M
open PySem
theorem x6:∀ks:List Int,xc (ks.map .int)=true
 |[]=>by rw[List.map_nil,xc]
 |k::ks=>by rw[List.map_cons,xc,x6 ks,Val.isD];rfl
theorem eq_nil{vs:List Val}{s:Sto}(h:xc vs=true):zV .eq (.lst vs) (.lst []) s=.ok (.bool vs.isEmpty) s:=by
 have h1:(Val.lst vs).isD=true:=by rw[Val.isD];exact h
 have h2:(Val.lst []).isD=true:=by rw[Val.isD,xc]
 have h3:(Val.lst []).d=.list []:=by rw[Val.d,ds]
 have h4:(Val.lst vs).d=.list (ds vs):=by rw[Val.d]
 have h5:PyData.eqv (.list (ds vs)) (.list [])=vs.isEmpty:=by
  cases vs with
  |nil=>rw[ds];rfl
  |cons v vs=>rw[ds];rfl
 simp only[zV,zh,yO,uN,h1,h2,h3,h4,h5]
 rfl
theorem nF{ns:List Int}{p:Nat}{h:Int}(hp:p<ns.length):putL ns p h=ns.set p h:=by
 rw[List.set_eq_take_append_cons_drop,if_pos hp];rfl
noncomputable def dE(bad:Int→Bool):Val→List Val
 |.int x=>if bad x then [.int x] else []
 |_=>[]
theorem lu(bad:Int→Bool)(ks:List Int):(ks.map Val.int).flatMap (dE bad)=(ks.filter bad).map .int:=by
 rw[List.flatMap_map,←dF];rfl
section
variable {T:Tbl}{Φ:Calls}{s:Sto}
theorem aL{G:Str→Option Val}{env:Env}{N:List Str}{fr:List (Option Nat)}{it:Itb}{ifs:Cns}{ks:List Int}{bad:Int→Bool}{e0:Env}(hi:yq Φ G env it s=.ok ⟨ks.map .int,none⟩ s)(h0:zN fr env=none::e0)(h:∀k∈ks,xy Φ G (some (.int k)::e0) ifs s=.ok (bad k) s):evE Φ G env (.comp false N fr (.var 0) (.nm 0) it ifs) s=.ok (.lst ((ks.filter bad).map .int)) s:=by
 refine post_eq.mpr (ud (fun e=>∃o,e=o::e0) (dE bad) (ks.map .int) (s1:=s) hi ⟨none,h0⟩ ?_ (by rw[lu];exact zE.mpr ⟨rfl,rfl⟩))
 rintro v hv e ⟨o,rfl⟩
 obtain⟨k,hk,rfl⟩:=List.mem_map.mp hv
 refine⟨_,rfl,⟨_,rfl⟩,?_⟩
 show (xy Φ G (some (.int k)::e0) ifs s).post _
 rw[h k hk]
 refine zE.mpr ⟨rfl,?_⟩
 show if bad k=true then _ else (if bad k then [Val.int k] else [])=[]
 cases hb:bad k with
 |true=>
  rw[if_pos rfl]
  refine fB.mpr ⟨_,rfl,rfl,?_⟩
  show (if bad k then [Val.int k] else [])=_
  rw[hb,if_pos rfl]
 |false=>rw[if_neg Bool.false_ne_true,if_neg Bool.false_ne_true]
end
end M
end
section
namespace M
open PySem
section
variable {T:Tbl}{Φ:Calls}{s:Sto}
noncomputable def iM(Φ:Calls):Prop:=∀(zs fs:List Int) (q h:Nat) (s:Sto),Sz zs→s[q]?=some (.lst (fs.map .int))→h<zs.length→fs.length≤40→(Φ "_law_ended" 0 [tpI zs,.ref q,.int h] s).post fun v s'=>∃b,v=.bool b∧s'=s
theorem j5{zs fs:List Int}{q h:Nat}(hz:Sz zs)(hq:s[q]?=some (.lst (fs.map .int)))(hh:h<zs.length)(hf:fs.length≤40):(run T Φ F.yQ [tpI zs,.ref q,.int h] s).post fun v s'=>∃b,v=.bool b∧s'=s:=by
 obtain⟨z1,z2,z3⟩:=yi hz hh
 generalize hzz:zQ zs h=z at *
 have c1:blt .len false [.ref q] s=.ok (.int fs.length) s:=by rw[du hq,List.length_map]
 have end':∀b:Bool,(zb false s (.bool b) s).post fun v s'=>∃b,v=.bool b∧s'=s:=fun b=>by
  rw[zt yt];exact zE.mpr ⟨_,rfl,rfl⟩
 have hd:((fs.length:Int))/((z:Int)-1)=((fs.length/(z-1):Nat):Int):=by
  rw[Int.natCast_ediv];congr 1;omega
 have hK:fs.length/(z-1)≤40:=Nat.le_trans (Nat.div_le_self _ _) hf
 rw[F.yQ,xg]
 refine⟨rfl,?_⟩
 show (zf Φ T.gl [some (tpI zs),some (.ref q),some (.int h),none,none,none] _ s).post _
 refine zi.mpr (ox.mpr (kL (zU (zA (zB rfl) zC) c1) (kL (ze (zB rfl) (zB rfl) (w8 z1)) (ow.mpr (sH rfl ?_)))))
 show (zf Φ T.gl [some (tpI zs),some (.ref q),some (.int h),some (.int fs.length),some (.int z),none] _ s).post _
 refine zi.mpr (xV (fun rest e s'=>(∃o5,e=[some (tpI zs),some (.ref q),some (.int h),some (.int fs.length),some (.int z),o5])∧(∀x∈rest,∃d:Nat,x=.int d∧1≤d∧d≤fs.length/(z-1))∧s'=s) (zy ((1:Nat):Int) (fs.length/(z-1))) (s1:=s) (gA (i:=1) (j:=fs.length/(z-1)+1) zD (zp (zp (zB rfl) (zp (zB rfl) zD uy) ((bdiv (by omega)).trans (by rw[hd]))) zD ux) (by omega) (by omega)) ⟨⟨_,rfl⟩,?_,rfl⟩ ?_ ?_)
 . intro x hx
   obtain⟨k,hk,rfl⟩:=uX hx
   exact⟨k+1,by congr 1;omega,by omega,by omega⟩
 . rintro x rest e s' ⟨⟨o5,rfl⟩,hr,rfl⟩
   obtain⟨d,rfl,d1,d2⟩:=hr x (.head _)
   refine⟨_,rfl,?_⟩
   have hdz:∀k:Nat,k≤z-1→k*d≤fs.length:=fun k hk=>by
    have h1:k*d≤(z-1)*(fs.length/(z-1)):=Nat.mul_le_mul hk d2
    have h2:(z-1)*(fs.length/(z-1))≤fs.length:=Nat.mul_div_le _ _
    omega
   have hc:∀N,evE Φ T.gl [some (tpI zs),some (.ref q),some (.int h),some (.int fs.length),some (.int z),some (.int d)] (.comp false N [none,some 2,some 1,some 3,some 5] (.var 0) (.nm 0) (.range2 (.lit (.int 1)) (.var 4)) (.cons (.val (.cmp .ne (.ix (.var 2) (.bin false .sub (.var 3) (.bin false .mul (.var 0) (.var 4)))) (.var 1))) .nil)) s'=.ok (.lst ((((List.range (z-1)).map fun(k:Nat)=>((1:Nat):Int)+(k:Int)).filter fun k=>!decide (fs.getD ((fs.length:Int)-k*d).toNat 0=(h:Int))).map .int)) s':=fun N=>
    aL (e0:=[some (.int h),some (.ref q),some (.int fs.length),some (.int d)]) ((gA (i:=1) zD (zB rfl) (by omega) (by omega)).trans (by unfold zy;rw[List.map_map];rfl)) rfl fun i hi=>by
     obtain⟨k,hk,rfl⟩:=List.mem_map.mp hi
     have hk:=List.mem_range.mp hk
     have hk1:=hdz (k+1) (by omega)
     have hpos:1≤(k+1)*d:=Nat.mul_le_mul (show 1≤k+1 by omega) d1
     have e4:(fs.length:Int)-(((1:Nat):Int)+(k:Int))*(d:Int)=((fs.length-(k+1)*d:Nat):Int):=by
      rw[show ((1:Nat):Int)+(k:Int)=((k+1:Nat):Int) by omega,←Int.natCast_mul]
      omega
     have hlt:fs.length-(k+1)*d<fs.length:=by omega
     refine lC (zJ (zW (ze (zB rfl) (zp (zB rfl) (zp (zB rfl) (zB rfl) (lT (by omega))) (uy.trans (by rw[e4]))) (pQ (v:=.int fs[fs.length-(k+1)*d]) hq ?_)) (zB rfl) ne_int) (zF.trans ?_))
     . rw[List.getElem?_map,List.getElem?_eq_getElem hlt];rfl
     . rw[e4,Int.toNat_natCast,List.getD_eq_getElem?_getD,List.getElem?_eq_getElem hlt];rfl
   generalize (((List.range (z-1)).map fun(k:Nat)=>((1:Nat):Int)+(k:Int)).filter fun k=>!decide (fs.getD ((fs.length:Int)-k*d).toNat 0=(h:Int)))=L at hc
   have ht:=fun N=>zJ (zW (hc N) (xq (zC (Φ:=Φ) (G:=T.gl)) (Nat.zero_le _)) (eq_nil (x6 L))) zF
   generalize (L.map Val.int).isEmpty=b at ht
   cases b with
   |false=>exact zu (ht _) (wH ⟨⟨_,rfl⟩,fun x hx=>hr x (.tail _ hx),rfl⟩)
   |true=>exact zr (ht _) (zX zD (end' _))
 . rintro e s' ⟨⟨o5,rfl⟩,hr,rfl⟩
   exact zX zD (end' _)
end
end M
end
section
namespace M
open PySem
theorem jZ{k w:Nat}{d:PyData}(L:L2.vJ k w d)(hk:k≤50)(hw:w≤300000)(hd:d.hasDict=false):rN d=true:=by
 have:=L.dp
 have:=L.wt
 unfold rN
 rw[L.sh,L.lf,hd,decide_eq_true (show d.depth≤50 by omega),decide_eq_true (show d.weight≤300000 by omega)]
 rfl
theorem ne_str{a b:Str}{s:Sto}:zV .ne (.str a) (.str b) s=.ok (.bool !(decide (a=b))) s:=rfl
theorem rD:∀{n:Nat} {vs:List Val} {x:Val},x∈yI n vs→∃k v,vs[k]?=some v∧x=.tup [.int ((n+k:Nat):Int),v]
 |_,[],_,h=>by cases h
 |n,v::vs,x,h=>by
  rw[yI]at h
  rcases List.mem_cons.mp h with e|h
  . exact⟨0,v,rfl,e⟩
  . obtain⟨k,w,h1,h2⟩:=rD h
    refine⟨k+1,w,by simpa using h1,?_⟩
    rw[h2]
    congr 3;omega
noncomputable def eZ:Val→List Val
 |.tup [.int i,.int v]=>if v=-1 then [.int i] else []
 |_=>[]
noncomputable def uH(ms:List Int):List Val:=(yI 0 (ms.map .int)).flatMap eZ
theorem mJ{ms:List Int}{y:Val}(h:y∈uH ms):∃k:Nat,y=.int k∧ms[k]?=some (-1):=by
 obtain⟨x,hx,hy⟩:=List.mem_flatMap.mp h
 obtain⟨k,v,h1,rfl⟩:=rD hx
 rw[List.getElem?_map]at h1
 obtain⟨i,h2,rfl⟩:=Option.map_eq_some_iff.mp h1
 have hy:y∈(if i=-1 then [Val.int ((0+k:Nat):Int)] else []):=hy
 by_cases hi:i=-1
 . rw[if_pos hi]at hy
   rw[Nat.zero_add]at hy
   exact⟨k,List.mem_singleton.mp hy,by rw[h2,hi]⟩
 . rw[if_neg hi]at hy;cases hy
theorem k6{Φ:Calls}{G:Str→Option Val}{env:Env}{s:Sto}{N:List Str}{ms:List Int}{i:Nat}(hi:env[i]?=some (some (tpI ms))) :
 evE Φ G env (.comp false N [none,none] (.var 0) (.nms [0,1]) (.enum (.var i)) (.cons (.val (.cmp .eq (.var 1) (.neg (.lit (.int 1))))) .nil)) s=.ok (.lst (uH ms)) s:=by
 rw[post_eq]
 refine ud (fun e=>∃a b,e=[a,b]) eZ (yI 0 (ms.map .int)) (s1:=s) ?_ ⟨_,_,rfl⟩ ?_ ?_
 . rw[post_eq]
   simp[EVl,zR,zN,hi]
 . rintro x hx e ⟨a,b,rfl⟩
   obtain⟨k,v,h1,rfl⟩:=rD hx
   rw[List.getElem?_map]at h1
   obtain⟨j,h2,rfl⟩:=Option.map_eq_some_iff.mp h1
   refine⟨_,rfl,⟨_,_,rfl⟩,?_⟩
   simp[EVl,zR,zN,eq_int,eZ]
   by_cases h:j=-1<;>simp[h]
 . simp[newList,EVl,zR,zN,uH]
theorem max2{m:Bool}{i j:Int}{s:Sto}:blt .max m [.int i,.int j] s=.ok (.int (if j > i then j else i)) s:=rfl
theorem min2{m:Bool}{i j:Int}{s:Sto}:blt .min m [.int i,.int j] s=.ok (.int (if j<i then j else i)) s:=rfl
theorem i8{Φ:Calls}{G:Str→Option Val}{env:Env}{s:Sto}{ns:List Int}{K:Nat}(h0:env[0]?=some (some (.scr ns)))(hK:K≤100) :
 yq Φ G env (.range1 (.blt .max false (.cons (.lit (.int 1)) (.cons (.blt .min false (.cons (.blt .len false (.cons (.var 0) .nil)) (.cons (.lit (.int K)) .nil))) .nil)))) s=.ok ⟨zy 0 (max 1 (min ns.length K)),none⟩ s:=by
 rw[post_eq]
 simp only[EVl,zR,zN]
 refine⟨_,h0,?_⟩
 rw[gV];simp only[zE]
 rw[min2];simp only[zE]
 rw[max2];simp only[zE]
 have e:(if (if (K:Int)<(ns.length:Int) then (K:Int) else (ns.length:Int)) > 1 then (if (K:Int)<(ns.length:Int) then (K:Int) else (ns.length:Int)) else 1)=((max 1 (min ns.length K):Nat):Int):=by
  split<;>split<;>omega
 rw[e]
 refine⟨_,rfl,⟨by omega,by unfold zO;omega⟩,?_⟩
 simp
theorem leave_top{v:Val}{s:Sto}(h:v.noRef=true):zb false [] v s=.ok v []:=by
 unfold zb
 simp[wF,freeze,h]
end M
end
section
namespace M
open PySem
noncomputable def yT:Nat→List Int→List Nat
 |_,[]=>[]
 |n,v::vs=>if v=-1 then n::yT (n+1) vs else yT (n+1) vs
theorem qJ:∀(n:Nat) (ms:List Int),(yI n (ms.map .int)).flatMap eZ=(yT n ms).map fun(k:Nat)=>Val.int k
 |_,[]=>rfl
 |n,v::vs=>by
  rw[List.map_cons,yI,List.flatMap_cons,qJ (n+1) vs,yT]
  show (if v=-1 then [Val.int n] else [])++_=_
  by_cases h:v=-1
  . rw[if_pos h,if_pos h];rfl
  . rw[if_neg h,if_neg h];rfl
theorem sR(ms:List Int):uH ms=(yT 0 ms).map fun(k:Nat)=>Val.int k:=qJ 0 ms
theorem gh{ms:List Int}{p:Nat}(h:p∈yT 0 ms):ms[p]?=some (-1):=by
 have:Val.int p∈uH ms:=by rw[sR];exact List.mem_map.mpr ⟨p,h,rfl⟩
 obtain⟨k,h1,h2⟩:=mJ this
 injection h1 with h1
 have:p=k:=by omega
 rw[this];exact h2
end M
end
section
namespace M
open L2
noncomputable def uu(ns:List Int)(f d z:Nat)(h:Int):Bool:=(List.range z).all fun k=>decide (ns[f+k*d]?=some h)
theorem vK{ns:List Int}{f d z:Nat}{h:Int}:uu ns f d z h=true↔∀k<z,ns[f+k*d]?=some h:=by
 unfold uu
 rw[List.all_eq_true]
 exact⟨fun H k hk=>of_decide_eq_true (H k (List.mem_range.mpr hk)),fun H k hk=>decide_eq_true (H k (List.mem_range.mp hk))⟩
noncomputable def yH(zs ns:List Int):List (Nat × Nat):=(List.range zs.length).flatMap fun h=>(xj ns.length (zQ zs h)).filter fun r=>uu ns r.1 r.2 (zQ zs h) h
theorem oS{α β:Type}{f:α→List β}{b:Nat}:∀l:List α,(∀a∈l,(f a).length≤b)→(l.flatMap f).length≤l.length*b
 |[],_=>Nat.zero_le _
 |a::l,h=>by
  rw[List.flatMap_cons,List.length_append,List.length_cons,Nat.succ_mul,Nat.add_comm]
  exact Nat.add_le_add (oS l fun x hx=>h x (.tail _ hx)) (h a (.head _))
theorem iK{zs ns:List Int}(hz:Sz zs)(hn:ns.length≤40):(yH zs ns).length≤3200∧((yH zs ns).map toI).Nodup∧∀x∈(yH zs ns).map toI,0≤x.2∧x.2<1000:=by
 refine⟨?_,?_,fun x hx=>?_⟩
 . have:=oS (f:=fun h=>(xj ns.length (zQ zs h)).filter fun r=>uu ns r.1 r.2 (zQ zs h) h) (b:=800) (List.range zs.length) fun h _=>Nat.le_trans (List.length_filter_le _ _) (fj hn)
   rw[List.length_range]at this
   have h4:=hz.2.1
   unfold yH
   omega
 . rw[List.nodup_iff_pairwise_ne,List.pairwise_map]
   unfold yH
   rw[List.pairwise_flatMap]
   refine⟨fun h _=>?_,?_⟩
   . refine List.Pairwise.filter _ ?_
     have:=mm (n:=ns.length) (z:=zQ zs h) hn
     rw[List.pairwise_map]at this
     exact this.imp fun w e=>by rw[e]at w;omega
   . refine List.Pairwise.imp_of_mem (R:=fun a b=>a<b) (fun{a b} ha hb w x hx y hy e=>?_) List.pairwise_lt_range
     have hx:=(List.mem_filter.mp hx).2
     have hy:=(List.mem_filter.mp hy).2
     have exy:x=y:=by
      unfold toI at e
      injection e with e1 e2
      exact Prod.ext (Int.ofNat_inj.mp e1) (Int.ofNat_inj.mp e2)
     subst exy
     have z1:=(yi hz (List.mem_range.mp ha)).2.1
     have z2:=(yi hz (List.mem_range.mp hb)).2.1
     have q1:=vK.mp hx 0 (by omega)
     have q2:=vK.mp hy 0 (by omega)
     rw[q1]at q2
     injection q2 with q2
     omega
 . obtain⟨r,hr,rfl⟩:=List.mem_map.mp hx
   obtain⟨h,hh,hr⟩:=List.mem_flatMap.mp hr
   have hr:=(List.mem_filter.mp hr).1
   have z2:=(yi hz (List.mem_range.mp hh)).2.1
   have:=u9 z2 hr
   have:r.2*1≤r.2*(zQ zs h-1):=Nat.mul_le_mul_left _ (by omega)
   unfold toI
   dsimp only
   omega
end M
end
section
namespace F
open PySem M
noncomputable def yD:Fn:=⟨["_law_sizes_here","_law_draft","_law_found","_law_hue","_law_size","_law_row"],["_law_sizes_here","_law_draft"],false,(.cons (.asg 2 (.lst true .nil)) (.cons (.forS (.nms [3,4]) (.enum (.var 0)) (.cons (.forS (.nm 5) (.val (.call "_law_rows" 0 (.cons (.blt .len false (.cons (.var 1) .nil)) (.cons (.var 4) .nil)))) (.cons (.ifS (.val (.cmp .eq (.comp false ["_law_place","_law_hue","_law_draft"] [none,some 3,some 1] (.var 0) (.nm 0) (.val (.call "_law_places" 0 (.cons (.var 5) (.cons (.var 4) .nil)))) (.cons (.val (.cmp .ne (.ix (.var 2) (.var 0)) (.var 1))) .nil)) (.lst false .nil))) (.cons (.expr (.yY .append false (.var 2) (.cons (.var 5) .nil))) .nil) .nil) .nil)) .nil)) (.cons (.ret (.blt .sorted false (.cons (.var 2) .nil))) .nil)))⟩
end F
end
section
namespace M
open PySem
theorem ne_nil{vs:List Val}{s:Sto}(h:xc vs=true):zV .ne (.lst vs) (.lst []) s=.ok (.bool !vs.isEmpty) s:=by
 have h1:(Val.lst vs).isD=true:=by rw[Val.isD];exact h
 have h2:(Val.lst []).isD=true:=by rw[Val.isD,xc]
 have h3:(Val.lst []).d=.list []:=by rw[Val.d,ds]
 have h4:(Val.lst vs).d=.list (ds vs):=by rw[Val.d]
 have h5:PyData.eqv (.list (ds vs)) (.list [])=vs.isEmpty:=by
  cases vs with
  |nil=>rw[ds];rfl
  |cons v vs=>rw[ds];rfl
 simp only[zV,zh,yO,uN,h1,h2,h3,h4,h5]
 rfl
section
variable {T:Tbl}{Φ:Calls}{s:Sto}
noncomputable def lP(Φ:Calls):Prop:=∀(zs ns:List Int) (s:Sto),Sz zs→ns.length≤40→Φ "_law_wrong" 0 [tpI zs,tpI ns] s=.ok (.lst ((vV ((yH zs ns).map toI)).map prV)) s
noncomputable def vG(ns:List Int)(z:Nat)(h:Nat):List (Nat × Nat):=(xj ns.length z).filter fun r=>uu ns r.1 r.2 z h
theorem rS{ns:List Int}{r:Nat × Nat}{z h:Nat}:(((yu r.1 r.2 z).filter fun x=>!decide (ns[x.toNat]?=some (h:Int))).map Val.int).isEmpty=uu ns r.1 r.2 z h:=by
 rw[Bool.eq_iff_iff,List.isEmpty_iff,List.map_eq_nil_iff,List.filter_eq_nil_iff,vK]
 unfold yu
 constructor
 . intro H k hk
   have:=H _ (List.mem_map.mpr ⟨k,List.mem_range.mpr hk,rfl⟩)
   rw[Int.toNat_natCast]at this
   simpa using this
 . intro H x hx
   obtain⟨k,hk,rfl⟩:=List.mem_map.mp hx
   have:=H k (List.mem_range.mp hk)
   rw[Int.toNat_natCast]
   simpa using this
theorem mw(cR:iN Φ)(cP:qx Φ){zs ns:List Int}(hz:Sz zs)(hn:ns.length≤40):run T Φ F.yD [tpI zs,tpI ns] s=.ok (.lst ((vV ((yH zs ns).map toI)).map prV)) s:=by
 rw[post_eq]
 have hwr:yH zs ns=(List.range zs.length).flatMap fun h=>vG ns (zQ zs h) h:=rfl
 obtain⟨hlen,ok⟩:=iK hz hn
 simp[F.yD,EVl,zR,zN,M.newList,zO]
 refine xV (fun rest e s'=>∃done todo o3 o4 o5,done++todo=List.range zs.length∧rest=todo.map (fun(h:Nat)=>Val.tup [.int h,.int (zQ zs h)])∧e=[some (tpI zs),some (tpI ns),some (.ref s.length),o3,o4,o5]∧s'=s++[.lst ((done.flatMap fun h=>vG ns (zQ zs h) h).map xh)]) (yI 0 (zs.map .int)) (s1:=s++[.lst []]) ?_ ⟨[],List.range zs.length,_,_,_,rfl,?_,rfl,rfl⟩ ?_ ?_
 . rw[post_eq]
   simp[EVl,zR,zN]
 . refine List.ext_getElem? fun i=>?_
   rw[vb,List.getElem?_map,List.getElem?_map]
   by_cases hi:i<zs.length
   . rw[List.getElem?_range hi,(yi hz hi).1];simp
   . rw[List.getElem?_eq_none (by omega),List.getElem?_eq_none (by rw[List.length_range];omega)];rfl
 . rintro x rest e s' ⟨done,todo,o3,o4,o5,hd,hr,rfl,rfl⟩
   cases todo with
   |nil=>cases hr
   |cons h todo=>
    rw[List.map_cons]at hr
    injection hr with hx hr
    subst hx
    have hh:h<zs.length:=List.mem_range.mp (by rw[←hd];simp)
    obtain⟨z1,z2,z3⟩:=yi hz hh
    refine⟨[some (tpI zs),some (tpI ns),some (.ref s.length),some (.int h),some (.int (zQ zs h)),o5],rfl,?_⟩
    have hsub:∀pre post:List (Nat × Nat),pre++post=vG ns (zQ zs h) h→((done.flatMap fun h=>vG ns (zQ zs h) h)++pre).length≤3200:=fun pre post e=>by
     have:yH zs ns=(done.flatMap fun h=>vG ns (zQ zs h) h)++(pre++post++todo.flatMap fun h=>vG ns (zQ zs h) h):=by
      rw[hwr,←hd,List.flatMap_append,List.flatMap_cons,e]
     rw[this]at hlen
     simp only[List.length_append]at hlen ⊢
     omega
    generalize hb:(done.flatMap fun h=>vG ns (zQ zs h) h)=base at *
    simp[EVl,zR,zN]
    refine xV (fun rest2 e s'=>∃dn td o5,dn++td=xj ns.length (zQ zs h)∧rest2=td.map xh∧e=[some (tpI zs),some (tpI ns),some (.ref s.length),some (.int h),some (.int (zQ zs h)),o5]∧s'=s++[.lst ((base++dn.filter fun r=>uu ns r.1 r.2 (zQ zs h) h).map xh)]) ((xj ns.length (zQ zs h)).map xh) (s1:=s++[.lst (base.map xh)]) ?_ ⟨[],_,_,rfl,rfl,rfl,by simp⟩ ?_ ?_
    . have c1:=cR ns.length (zQ zs h) (s++[.lst (base.map xh)]) hn z2 z3
      rw[post_eq]
      simp[EVl,zR,zN,yr,c1]
    . rintro x rest2 e s' ⟨dn,td,o5,hd2,hr2,rfl,rfl⟩
      cases td with
      |nil=>cases hr2
      |cons r td=>
       rw[List.map_cons]at hr2
       injection hr2 with hx hr2
       subst hx
       have hmem:r∈xj ns.length (zQ zs h):=by rw[←hd2];simp
       have hr3:=u9 z2 hmem
       have hle:r.2≤1000:=by
        have:r.2*1≤r.2*(zQ zs h-1):=Nat.mul_le_mul_left _ (by omega)
        omega
       refine⟨_,rfl,?_⟩
       generalize hS:s++[Cel.lst ((base++dn.filter fun r=>uu ns r.1 r.2 (zQ zs h) h).map xh)]=S at *
       have c3:=cP r (zQ zs h) S z3 hle
       simp[EVl,zR,zN]
       refine ud (fun e=>∃o,e=[o,some (.int h),some (tpI ns)]) (dE fun x=>!decide (ns[x.toNat]?=some (h:Int))) ((yu r.1 r.2 (zQ zs h)).map .int) (s1:=S) ?_ ⟨_,rfl⟩ ?_ ?_
       . rw[post_eq]
         simp[EVl,zR,zN,c3]
       . rintro x hx e ⟨o,rfl⟩
         obtain⟨i,hi,rfl⟩:=List.mem_map.mp hx
         obtain⟨k,hk,rfl⟩:=List.mem_map.mp hi
         have hk:=List.mem_range.mp hk
         have hbd:r.1+k*r.2<ns.length:=by
          have:k*r.2≤(zQ zs h-1)*r.2:=Nat.mul_le_mul_right _ (by omega)
          have e:=Nat.mul_comm (zQ zs h-1) r.2
          omega
         have c4:=w8 (s:=S) (List.getElem?_eq_getElem hbd)
         refine⟨_,rfl,⟨_,rfl⟩,?_⟩
         simp only[EVl,zR,zN]
         refine⟨_,rfl,_,rfl,?_⟩
         rw[c4]
         simp only[zE]
         refine⟨_,rfl,?_⟩
         simp only[zE,ne_int,zF,dE,Int.toNat_natCast,List.getElem?_eq_getElem hbd]
         by_cases h5:ns[r.1+k*r.2]=(h:Int)<;>simp[h5,EVl,zR,zN]
       . rw[lu]
         simp only[M.newList,EVl,zR,zN,Bool.false_eq_true,if_false]
         rw[eq_nil (x6 _),rS]
         simp only[zE,zF]
         have hpost:∀pre,dn.filter (fun r=>uu ns r.1 r.2 (zQ zs h) h)=pre→(base++pre).length≤3200:=fun pre e=>hsub pre ((r::td).filter fun r=>uu ns r.1 r.2 (zQ zs h) h) (by rw[←e,←List.filter_append,hd2];rfl)
         have hl64:=hpost _ rfl
         cases ha:uu ns r.1 r.2 (zQ zs h) h with
         |false=>
          refine .inl ⟨rfl,dn++[r],td,by rw[←hd2];simp,hr2,?_⟩
          rw[←hS,List.filter_append];simp[ha]
         |true=>
          refine .inr ⟨rfl,?_⟩
          rw[←hS,tx (by rw[List.length_map];unfold zO;omega)]
          simp only[zE]
          refine⟨dn++[r],td,by rw[←hd2];simp,hr2,?_⟩
          rw[List.filter_append];simp[ha]
    . rintro e s' ⟨dn,td,o5,hd2,hr2,rfl,rfl⟩
      have ht:td=[]:=by cases td with|nil=>rfl|cons _ _=>cases hr2
      subst ht
      rw[List.append_nil]at hd2
      simp only[EVl,zR,zN]
      refine⟨done++[h],todo,by rw[←hd];simp,hr,?_⟩
      rw[List.flatMap_append,hb,hd2];simp[vG]
 . rintro e s' ⟨done,todo,o3,o4,o5,hd,hr,rfl,rfl⟩
   have ht:todo=[]:=by cases todo with|nil=>rfl|cons _ _=>cases hr
   subst ht
   rw[List.append_nil]at hd
   have hw:(done.flatMap fun h=>vG ns (zQ zs h) h)=yH zs ns:=by rw[hwr,hd]
   rw[hw]
   have e1:(yH zs ns).map xh=((yH zs ns).map toI).map prV:=by rw[List.map_map];rfl
   have hsrt:blt .sorted false [.ref s.length] (s++[.lst ((yH zs ns).map xh)])=.ok (.lst ((vV ((yH zs ns).map toI)).map prV)) (s++[.lst ((yH zs ns).map xh)]):=by
    have e2:yV (s++[.lst ((yH zs ns).map xh)]) (.ref s.length)=some (((yH zs ns).map toI).map prV):=by
     rw[←e1];simp[yV]
    simp only[blt,e2,qe]
    rw[if_pos ok]
    rfl
   simp only[EVl,zR,zN]
   refine⟨_,rfl,?_⟩
   rw[hsrt]
   simp only[zE]
   rw[sm (by rw[mM];exact vB _)]
   exact zE.mpr ⟨rfl,rfl⟩
theorem hX(z:Int × Int):∀l:List (Int × Int),(pO z l).length=l.length+1
 |[]=>rfl
 |y::ys=>by
  unfold pO;split
  . rfl
  . rw[List.length_cons,hX z ys];rfl
theorem se:∀zs:List (Int × Int),xc (zs.map prV)=true
 |[]=>by rw[List.map_nil,xc]
 |z::zs=>by rw[List.map_cons,xc,se zs,prV,Val.isD,xc,xc,xc,Val.isD,Val.isD];rfl
end
end M
end
section
namespace M
open L2
structure Bl(ms:List Int)(b:List Nat):Prop where
 mem:∀i:Nat,ms[i]?=some (-1)↔i∈b
 rise:b.Pairwise (·<·)
end M
end
section
namespace M
open PySem
noncomputable def endOf(ms:List Int)(st:List (Nat × Nat)):List Int:=st.foldl (fun ms q=>putL ms q.1 q.2) ms
noncomputable def SO(zs:List Int):List Int→List (Nat × Nat)→Prop
 |_,[]=>True
 |ms,(p,h)::st=>ms[p]?=some (-1)∧Xo zs ms p=[h]∧SO zs (putL ms p h) st
theorem SO.append{zs:List Int}:∀{st st':List (Nat × Nat)} {ms:List Int},SO zs ms st→SO zs (endOf ms st) st'→SO zs ms (st++st')
 |[],_,_,_,h=>h
 |(p,h)::st,st',ms,⟨a,b,c⟩,d=>⟨a,b,SO.append c d⟩
end M
end
section
namespace M
open PySem
noncomputable def Wr(zs ns:List Int)(f d:Nat):Prop:=∃h:Nat,ns[f]?=some (h:Int)∧h<zs.length∧0<d∧f+d*(zQ zs h-1)<ns.length∧yx ns f d (zQ zs h)=true
theorem jU{zs ns:List Int}(hz:Sz zs){f d:Nat}:(f,d)∈yH zs ns↔Wr zs ns f d:=by
 unfold yH Wr
 rw[List.mem_flatMap]
 constructor
 . rintro ⟨h,hh,hr⟩
   have hh:=List.mem_range.mp hh
   obtain⟨z1,z2,z3⟩:=yi hz hh
   obtain⟨h1,h2⟩:=List.mem_filter.mp hr
   obtain⟨h3,h4⟩:=(oa z2).mp h1
   have ha:=vK.mp h2
   have h0:=ha 0 (by omega)
   rw[Nat.zero_mul,Nat.add_zero]at h0
   refine⟨h,h0,hh,h3,h4,List.all_eq_true.mpr fun k hk=>decide_eq_true ?_⟩
   rw[ha k (List.mem_range.mp hk),h0]
 . rintro ⟨h,h0,hh,h3,h4,ho⟩
   obtain⟨z1,z2,z3⟩:=yi hz hh
   refine⟨h,List.mem_range.mpr hh,List.mem_filter.mpr ⟨(oa z2).mpr ⟨h3,h4⟩,vK.mpr fun k hk=>?_⟩⟩
   rw[of_decide_eq_true (List.all_eq_true.mp ho k (List.mem_range.mpr hk)),h0]
end M
end
section
namespace M
open PySem
section
variable {T:Tbl}{Φ:Calls}{s:Sto}
noncomputable def wB(zs:List Int):Val→Bool
 |.tup vs=>decide (vs.length≤40)&&vs.all (yG (-1) ((zs.length:Int)-1))
 |_=>false
noncomputable def lN(Φ:Calls):Prop:=∀(zs:List Int) (v:Val) (s:Sto),Sz zs→kindOf v≠none→(∀vs,v=.tup vs→∀w∈vs,kindOf w≠none)→Φ "is_draft" 0 [tpI zs,v] s=.ok (.bool (wB zs v)) s
theorem i6{zs:List Int}{v:Val}(h:∀vs,v≠.tup vs):wB zs v=false:=by
 cases v with
 |tup vs=>exact absurd rfl (h vs)
 |_=>rfl
theorem mq(g:Gls T)(c1:sL Φ)(c:pA Φ){zs:List Int}{v:Val}(h:Sz zs)(hk:kindOf v≠none)(hks:∀vs,v=.tup vs→∀w∈vs,kindOf w≠none):run T Φ F.yf [tpI zs,v] s=.ok (.bool (wB zs v)) s:=by
 rw[post_eq]
 obtain⟨a,ha⟩:=wN hk
 rcases sj ha with⟨vs,rfl⟩|h1
 . have c2:=c vs (-1) ((zs.length:Int)-1) s (hks vs rfl)
   by_cases h4:vs.length≤40
   . have h4':(vs.length:Int)≤40:=by omega
     simp[F.yf,EVl,zR,zN,pP,yr,c1 zs s h,g.mp,g.bl,le_int,uy,c2,wB,h4,h4']
   . have h4':¬(vs.length:Int)≤40:=by omega
     simp[F.yf,EVl,zR,zN,pP,yr,c1 zs s h,g.mp,le_int,wB,h4,h4']
 . have e1:=wR (m:=false) (s:=s) ha (show xD "tuple"=some .tup from rfl)
   rw[h1]at e1
   have e2:=i6 (zs:=zs) (v:=v) fun vs e=>by rw[e]at ha;cases ha;cases h1
   simp[F.yf,EVl,zR,zN,c1 zs s h,e1,e2]
end
end M
end
section
namespace M
open PySem
structure Th(k w:Nat)(v:Val):Prop where
 nr:v.noRef=true
 kd:kindOf v≠none
 r:v.isR=true
 lf:L2.vJ k w v.d
 nd:v.d.hasDict=false
 dr:∀s,yO s v=v
theorem Th.mono{k w k' w':Nat}{v:Val}(h:Th k w v)(h1:k≤k')(h2:w≤w'):Th k' w' v:=⟨h.nr,h.kd,h.r,h.lf.mono h1 h2,h.nd,h.dr⟩
theorem oC{i:Int}(h1:-(10 ^ 30)<i)(h2:i<10 ^ 30):Th 0 100 (.int i):=⟨rK,nofun,by rw[Val.isR],by rw[Val.d];exact L2.gY h1 h2,by rw[Val.d];rfl,fun _=>rfl⟩
theorem bQ(b:Bool):Th 0 100 (.bool b):=⟨yt,nofun,by rw[Val.isR],by rw[Val.d];exact(L2.jK b).mono (Nat.le_refl _) (Nat.zero_le _),by rw[Val.d];rfl,fun _=>rfl⟩
theorem bR:Th 0 100 .none:=⟨uZ,nofun,by rw[Val.isR],by rw[Val.d];exact L2.jN.mono (Nat.le_refl _) (Nat.zero_le _),by rw[Val.d];rfl,fun _=>rfl⟩
theorem lA{x:Str}(h1:∀c∈x.cps.toList,c<16 ^ 8)(h2:x.cps.size≤100):Th 0 100 (.str x):=⟨pX,nofun,by rw[Val.isR],by rw[Val.d];exact L2.gZ h1 h2,by rw[Val.d];rfl,fun _=>rfl⟩
theorem ths{k w:Nat}:∀{vs:List Val},(∀v∈vs,Th k w v)→zm vs=true∧tj vs=true∧(ds vs).length=vs.length∧∀d∈ds vs,L2.vJ k w d∧d.hasDict=false
 |[],_=>⟨pY,by rw[tj],by rw[ds];rfl,fun d h=>by rw[ds]at h;cases h⟩
 |v::vs,h=>by
  obtain⟨a,b,c,e⟩:=ths fun x hx=>h x (.tail _ hx)
  have t:=h v (.head _)
  refine⟨by rw[rL,t.nr,a];rfl,by rw[tj,t.r,b];rfl,by rw[ds,List.length_cons,List.length_cons,c],fun d hd=>?_⟩
  rw[ds]at hd
  rcases List.mem_cons.mp hd with rfl|hd
  . exact⟨t.lf,t.nd⟩
  . exact e d hd
theorem lB{k w n:Nat}{vs:List Val}(h:∀v∈vs,Th k w v)(hn:vs.length≤n):Th (k+1) (n*(w+1)) (.tup vs):=by
 obtain⟨a,b,c,e⟩:=ths h
 refine⟨by rw[v5];exact a,nofun,by rw[Val.isR];exact b,by rw[Val.d];exact L2.mE (fun d hd=>(e d hd).1) (by rw[c];exact hn),?_,fun _=>rfl⟩
 rw[Val.d,PyData.hasDict]
 exact L2.tB fun d hd=>(e d hd).2
theorem Yg{k w n:Nat}{vs:List Val}(h:∀v∈vs,Th k w v)(hn:vs.length≤n):Th (k+1) (n*(w+1)) (.lst vs):=by
 obtain⟨a,b,c,e⟩:=ths h
 refine⟨by rw[mM];exact a,nofun,by rw[Val.isR];exact b,by rw[Val.d];exact L2.jM (fun d hd=>(e d hd).1) (by rw[c];exact hn),?_,fun _=>rfl⟩
 rw[Val.d,PyData.hasDict]
 exact L2.tB fun d hd=>(e d hd).2
theorem t7{α:Type}{xs:List α}{lo hi:Option Int}:(xR xs lo hi).length≤xs.length:=by
 unfold xR
 rw[List.length_take,List.length_drop]
 omega
theorem lW{α:Type}{xs:List α}{lo hi:Option Int}{x:α}(h:x∈xR xs lo hi):x∈xs:=by
 unfold xR at h
 exact List.mem_of_mem_drop (List.mem_of_mem_take h)
theorem uB{m:Bool}{vs:List Val}{lo hi:Option Int}{s:Sto}:vU m (.tup vs) lo hi none s=.ok (.tup (xR vs lo hi)) s:=rfl
theorem bq{a b:List Val}{s:Sto}(h:a.length+b.length≤zO):binOp false .add (.lst a) (.lst b) s=.ok (.lst (a++b)) s:=by
 simp only[binOp,yV];rw[if_pos h];rfl
end M
end
section
namespace M
open PySem
theorem nW{l m i:Int}:yG l m (.int i)=(decide (l≤i)&&decide (i≤m)):=rfl
theorem iz{zs:List Int}{vs:List Val}:wB zs (.tup vs)=(decide (vs.length≤40)&&vs.all (yG (-1) ((zs.length:Int)-1))):=rfl
section
variable {Φ:Calls}{G:Str→Option Val}{env:Env}{s s1 s2 s3 s4:Sto}
noncomputable def YW(f:Nat→Int):Val→List Val
 |.int k=>[.int (f k.toNat)]
 |_=>[]
theorem fg{f:Nat→Int}{n:Nat}:(zy 0 n).flatMap (YW f)=((List.range n).map f).map .int:=by
 unfold zy
 rw[List.flatMap_map,List.map_map]
 have:(fun(k:Nat)=>YW f (.int (0+(k:Int))))=fun k=>[(Val.int∘f) k]:=by
  funext k
  show [Val.int (f (0+(k:Int)).toNat)]=_
  rw[Int.zero_add,Int.toNat_natCast];rfl
 rw[this,lz]
theorem Wm{N:List Str}{fr:List (Option Nat)}{elt:Ex}{it:Itb}{n:Nat}{f:Nat→Int}{e0:Env}(hi:yq Φ G env it s=.ok ⟨zy 0 n,none⟩ s)(h0:zN fr env=none::e0)(h:∀(k:Nat) (o:Option Val),k<n→evE Φ G (some (.int k)::e0) elt s=.ok (.int (f k)) s)(hl:n≤zO):evE Φ G env (.comp false N fr elt (.nm 0) it .nil) s=.ok (.lst (((List.range n).map f).map .int)) s:=by
 rw[post_eq]
 refine ud (fun e=>∃o,e=o::e0) (YW f) (zy 0 n) (s1:=s) hi ⟨none,h0⟩ ?_ ?_
 . rintro x hx e ⟨o,rfl⟩
   obtain⟨k,hk,rfl⟩:=uX hx
   refine⟨_,rfl,⟨_,rfl⟩,sG.mpr ⟨rfl,?_⟩⟩
   rw[if_pos rfl,Int.zero_add]
   show (evE Φ G (some (.int (k:Int))::e0) elt s).post _
   rw[h k none hk]
   refine zE.mpr ⟨rfl,?_⟩
   show [Val.int (f (k:Int).toNat)]=_
   rw[Int.toNat_natCast]
 . rw[fg]
   exact zE.mpr ⟨rfl,rfl⟩
end
theorem dB{α β:Type}{f:α→β}{xs:List α}{lo hi:Option Int}:xR (xs.map f) lo hi=(xR xs lo hi).map f:=by
 unfold xR
 rw[List.length_map,List.map_take,List.map_drop]
theorem f6{m:Bool}{ns:List Int}{lo hi:Option Int}{s:Sto}:vU m (tpI ns) lo hi none s=.ok (tpI (xR ns lo hi)) s:=by
 show Out.ok (Val.tup (xR (ns.map .int) lo hi)) s=_
 rw[dB]
end M
end
section
namespace F28
open PySem M
noncomputable def yD:Fn:=⟨["_law_sizes_here","_law_draft_here","_law_found","_law_hue","_law_size","_law_row"],["_law_sizes_here","_law_draft_here"],false,(.cons (.asg 2 (.lst true .nil)) (.cons (.forS (.nms [3,4]) (.enum (.var 0)) (.cons (.forS (.nm 5) (.val (.call "_law_rows" 0 (.cons (.blt .len false (.cons (.var 1) .nil)) (.cons (.var 4) .nil)))) (.cons (.ifS (.val (.cmp .eq (.comp false ["_law_place","_law_hue","_law_draft_here"] [none,some 3,some 1] (.var 0) (.nm 0) (.val (.call "_law_places" 0 (.cons (.var 5) (.cons (.var 4) .nil)))) (.cons (.val (.cmp .ne (.ix (.var 2) (.var 0)) (.var 1))) .nil)) (.lst false .nil))) (.cons (.expr (.yY .append false (.var 2) (.cons (.var 5) .nil))) .nil) .nil) .nil)) .nil)) (.cons (.ret (.blt .sorted false (.cons (.var 2) .nil))) .nil)))⟩
end F28
end
section
namespace M
open PySem
theorem pD:∀{ms:List Int} {n i:Nat},i∈yT n ms↔n≤i∧ms[i-n]?=some (-1)
 |[],n,i=>⟨nofun,fun h=>by simp at h⟩
 |v::ms,n,i=>by
  have ih:=pD (ms:=ms) (n:=n+1) (i:=i)
  unfold yT
  by_cases hv:v=-1
  . rw[if_pos hv,List.mem_cons,ih]
    constructor
    . rintro (rfl|⟨h1,h2⟩)
      . exact⟨Nat.le_refl _,by rw[Nat.sub_self,hv];rfl⟩
      . refine⟨by omega,?_⟩
        rw[show i-n=(i-(n+1))+1 by omega];exact h2
    . rintro ⟨h1,h2⟩
      by_cases e:i=n
      . exact .inl e
      . refine .inr ⟨by omega,?_⟩
        rw[show i-n=(i-(n+1))+1 by omega]at h2;exact h2
  . rw[if_neg hv,ih]
    constructor
    . rintro ⟨h1,h2⟩
      refine⟨by omega,?_⟩
      rw[show i-n=(i-(n+1))+1 by omega];exact h2
    . rintro ⟨h1,h2⟩
      by_cases e:i=n
      . rw[e,Nat.sub_self]at h2
        exact absurd (Option.some.inj h2) hv
      . refine⟨by omega,?_⟩
        rw[show i-n=(i-(n+1))+1 by omega]at h2;exact h2
theorem uJ:∀(ms:List Int) (n:Nat),(yT n ms).Pairwise (·<·)
 |[],_=>.nil
 |v::ms,n=>by
  unfold yT
  by_cases hv:v=-1
  . rw[if_pos hv]
    exact List.pairwise_cons.mpr ⟨fun i hi=>by have:=(pD.mp hi).1;omega,uJ ms (n+1)⟩
  . rw[if_neg hv];exact uJ ms (n+1)
theorem ng(ds:List Int):Bl ds (yT 0 ds):=⟨fun i=>by rw[pD];simp,uJ ds 0⟩
end M
end
section
namespace M
open PySem
theorem om:∀{l m:List Int},l.Nodup→(∀x∈l,x∈m)→l.length≤m.length
 |[],_,_,_=>Nat.zero_le _
 |a::t,m,hn,hs=>by
  rw[List.nodup_cons]at hn
  have ha:=hs a (.head _)
  have:=om (l:=t) (m:=m.erase a) hn.2 fun x hx=>(List.mem_erase_of_ne fun(e:x=a)=>hn.1 (e▸hx)).mpr (hs x (.tail _ hx))
  rw[List.length_erase_of_mem ha]at this
  have:=List.length_pos_of_mem ha
  rw[List.length_cons];omega
theorem ee{ns ks:List Int}(h:∀i:Nat,ns[i]?=some (-1)→(i:Int)∈ks):(yT 0 ns).length≤ks.length:=by
 have:=om (l:=(yT 0 ns).map fun(i:Nat)=>(i:Int)) (m:=ks) (List.pairwise_map.mpr ((uJ ns 0).imp fun hab e=>by omega)) fun x hx=>by
  obtain⟨i,hi,rfl⟩:=List.mem_map.mp hx
  exact h i (gh hi)
 rwa [List.length_map]at this
section
variable {T:Tbl}{Φ:Calls}{s:Sto}
noncomputable def aX(ds:List Int):Val:=.lst ((yT 0 ds).map fun(k:Nat)=>Val.int k)
end
end M
end
section
namespace M
open PySem
theorem tH{l m:Int}{v:Val}(h:yG l m v=true):∃i,v=.int i∧l≤i∧i≤m:=by
 cases v with
 |int i=>
  rw[nW,Bool.and_eq_true]at h
  exact⟨i,rfl,of_decide_eq_true h.1,of_decide_eq_true h.2⟩
 |_=>cases h
section
variable {T:Tbl}{Φ:Calls}{G:Str→Option Val}{env:Env}{s:Sto}
noncomputable def tK(Φ:Calls):Prop:=∀(zs ds:List Int) (s:Sto),Sz zs→wB zs (tpI ds)=true→Φ "need_draft" 0 [tpI zs,tpI ds] s=.ok .none s
theorem rW(c:lN Φ){zs ds:List Int}(h:Sz zs)(hd:wB zs (tpI ds)=true):run T Φ F.yn [tpI zs,tpI ds] s=.ok .none s:=by
 have c1:=c zs (tpI ds) s h nofun fun vs e=>by cases e;exact qU
 rw[hd]at c1
 rw[post_eq,F.yn,xg]
 refine⟨rfl,?_⟩
 show (zf Φ T.gl [some (tpI zs),some (tpI ds)] _ s).post _
 refine zu (zl (zJ (x_call (zA (zB rfl) (zA (zB rfl) zC)) c1) zF)) (wH ?_)
 show (zb false s _ s).post _
 rw[zt uZ]
 exact zE.mpr ⟨rfl,rfl⟩
end
end M
end
section
namespace F31
open PySem M
noncomputable def y3:Fn:=⟨["sizes","draft","place","papers","hue","paper"],["sizes","draft","place","papers"],false,(.cons (.ifS (.or (.not (.val (.call "is_blank" 0 (.cons (.var 1) (.cons (.var 2) .nil))))) (.cons (.not (.val (.blt .isi false (.cons (.var 3) (.cons (.ty "tuple" "tuple") .nil))))) (.cons (.val (.cmp .ne (.blt .len false (.cons (.var 3) .nil)) (.blt .len false (.cons (.var 0) .nil)))) .nil))) (.cons (.ret (.lit (.bool false))) .nil) .nil) (.cons (.forS (.nms [4,5]) (.enum (.var 3)) (.cons (.ifS (.not (.val (.call "shows" 0 (.cons (.var 0) (.cons (.call "with_hue" 0 (.cons (.var 1) (.cons (.var 2) (.cons (.var 4) .nil)))) (.cons (.var 5) .nil)))))) (.cons (.ret (.lit (.bool false))) .nil) .nil) .nil)) (.cons (.ret (.lit (.bool true))) .nil)))⟩
noncomputable def xO:Fn:=⟨["sizes","draft","thing"],["sizes","draft","thing"],false,(.cons (.expr (.call "need_draft" 0 (.cons (.var 0) (.cons (.var 1) .nil)))) (.cons (.ret (.call "shows" 0 (.cons (.var 0) (.cons (.var 1) (.cons (.var 2) .nil))))) .nil))⟩
noncomputable def yL:Fn:=⟨["sizes","draft","first","step","size"],["sizes","draft","first","step"],false,(.cons (.ifS (.or (.not (.val (.call "is_whole" 0 (.cons (.var 2) (.cons (.lit (.int 0)) (.cons (.bin false .sub (.blt .len false (.cons (.var 1) .nil)) (.lit (.int 1))) .nil)))))) (.cons (.val (.cmp .eq (.ix (.var 1) (.var 2)) (.gl "BLANK"))) .nil)) (.cons (.ret (.lit (.bool false))) .nil) .nil) (.cons (.asg 4 (.ix (.var 0) (.ix (.var 1) (.var 2)))) (.cons (.ret (.andE (.call "is_whole" 0 (.cons (.var 3) (.cons (.lit (.int 1)) (.cons (.call "most_step" 0 (.cons (.blt .len false (.cons (.var 1) .nil)) (.cons (.var 2) (.cons (.var 4) .nil)))) .nil)))) (.cons (.call "is_one_hue" 0 (.cons (.var 1) (.cons (.var 2) (.cons (.var 3) (.cons (.var 4) .nil))))) .nil))) .nil)))⟩
noncomputable def wx:Fn:=⟨["sizes","draft","thing"],["sizes","draft","thing"],false,(.cons (.ifS (.or (.not (.val (.blt .isi false (.cons (.var 2) (.cons (.ty "tuple" "tuple") .nil))))) (.cons (.val (.cmp .ne (.blt .len false (.cons (.var 2) .nil)) (.lit (.int 3)))) .nil)) (.cons (.ret (.lit (.bool false))) .nil) .nil) (.cons (.ifS (.val (.cmp .eq (.ix (.var 2) (.lit (.int 0))) (.gl "ROW"))) (.cons (.ret (.call "is_wrong_row" 0 (.cons (.var 0) (.cons (.var 1) (.cons (.ix (.var 2) (.lit (.int 1))) (.cons (.ix (.var 2) (.lit (.int 2))) .nil)))))) .nil) .nil) (.cons (.ret (.andE (.cmp .eq (.ix (.var 2) (.lit (.int 0))) (.gl "CASES")) (.cons (.call "are_cases" 0 (.cons (.var 0) (.cons (.var 1) (.cons (.ix (.var 2) (.lit (.int 1))) (.cons (.ix (.var 2) (.lit (.int 2))) .nil))))) .nil))) .nil)))⟩
noncomputable def yS:Fn:=⟨["_law_sizes","_law_draft","_law_thing","_law_hue","_law_some","_law_paper"],["_law_sizes","_law_draft","_law_thing"],false,(.cons (.ifS (.or (.not (.val (.blt .isi false (.cons (.var 2) (.cons (.ty "tuple" "tuple") .nil))))) (.cons (.val (.cmp .ne (.blt .len false (.cons (.var 2) .nil)) (.lit (.int 3)))) (.cons (.not (.val (.blt .isi false (.cons (.ix (.var 2) (.lit (.int 0))) (.cons (.ty "str" "str") .nil))))) (.cons (.not (.val (.call "_law_whole" 0 (.cons (.ix (.var 2) (.lit (.int 1))) .nil)))) .nil)))) (.cons (.ret (.lit (.bool false))) .nil) .nil) (.cons (.ifS (.not (.val (.chain .le .lt (.lit (.int 0)) (.ix (.var 2) (.lit (.int 1))) (.blt .len false (.cons (.var 1) .nil))))) (.cons (.ret (.lit (.bool false))) .nil) .nil) (.cons (.ifS (.val (.cmp .eq (.ix (.var 2) (.lit (.int 0))) (.lit (.str "row")))) (.cons (.asg 3 (.ix (.var 1) (.ix (.var 2) (.lit (.int 1))))) (.cons (.ifS (.or (.val (.cmp .eq (.var 3) (.neg (.lit (.int 1))))) (.cons (.not (.val (.call "_law_whole" 0 (.cons (.ix (.var 2) (.lit (.int 2))) .nil)))) (.cons (.not (.val (.chain .le .lt (.lit (.int 1)) (.ix (.var 2) (.lit (.int 2))) (.lit (.int 40))))) .nil))) (.cons (.ret (.lit (.bool false))) .nil) .nil) (.cons (.asg 4 (.call "_law_places" 0 (.cons (.sl false (.var 2) (.yes (.lit (.int 1))) .no .no) (.cons (.ix (.var 0) (.var 3)) .nil)))) (.cons (.ret (.andE (.cmp .lt (.ix (.var 4) (.neg (.lit (.int 1)))) (.blt .len false (.cons (.var 1) .nil))) (.cons (.cmp .eq (.comp false ["_law_place","_law_hue","_law_draft"] [none,some 3,some 1] (.var 0) (.nm 0) (.val (.var 4)) (.cons (.val (.cmp .ne (.ix (.var 2) (.var 0)) (.var 1))) .nil)) (.lst false .nil)) .nil))) .nil)))) .nil) (.cons (.ifS (.or (.val (.cmp .ne (.ix (.var 2) (.lit (.int 0))) (.lit (.str "cases")))) (.cons (.val (.cmp .ne (.ix (.var 1) (.ix (.var 2) (.lit (.int 1)))) (.neg (.lit (.int 1))))) (.cons (.not (.val (.blt .isi false (.cons (.ix (.var 2) (.lit (.int 2))) (.cons (.ty "tuple" "tuple") .nil))))) .nil))) (.cons (.ret (.lit (.bool false))) .nil) .nil) (.cons (.ifS (.val (.cmp .ne (.blt .len false (.cons (.ix (.var 2) (.lit (.int 2))) .nil)) (.blt .len false (.cons (.var 0) .nil)))) (.cons (.ret (.lit (.bool false))) .nil) .nil) (.cons (.forS (.nms [3,5]) (.enum (.ix (.var 2) (.lit (.int 2)))) (.cons (.ifS (.not (.val (.call "_law_shows" 0 (.cons (.var 0) (.cons (.bin false .add (.bin false .add (.sl false (.var 1) .no (.yes (.ix (.var 2) (.lit (.int 1)))) .no) (.tup (.cons (.var 3) .nil))) (.sl false (.var 1) (.yes (.bin false .add (.ix (.var 2) (.lit (.int 1))) (.lit (.int 1)))) .no .no)) (.cons (.var 5) .nil)))))) (.cons (.ret (.lit (.bool false))) .nil) .nil) .nil)) (.cons (.ret (.lit (.bool true))) .nil)))))))⟩
noncomputable def yk:Fn:=⟨["_law_thing"],["_law_thing"],false,(.cons (.ret (.andE (.blt .isi false (.cons (.var 0) (.cons (.ty "int" "int") .nil))) (.cons (.not (.blt .isi false (.cons (.var 0) (.cons (.ty "bool" "bool") .nil)))) .nil))) .nil)⟩
noncomputable def ye:Fn:=⟨["_law_sizes","_law_draft","_law_rows_here","_law_blank","_law_papers","_law_hue","_law_paper"],["_law_sizes","_law_draft"],false,(.cons (.asg 2 (.call "_law_wrong" 0 (.cons (.var 0) (.cons (.var 1) .nil)))) (.cons (.ifS (.val (.cmp .ne (.var 2) (.lst false .nil))) (.cons (.ret (.bin false .add (.tup (.cons (.lit (.str "row")) .nil)) (.ix (.var 2) (.neg (.lit (.int 1)))))) .nil) .nil) (.cons (.asg 3 (.comp false ["_law_place","_law_hue"] [none,none] (.var 0) (.nms [0,1]) (.enum (.var 1)) (.cons (.val (.cmp .eq (.var 1) (.neg (.lit (.int 1))))) .nil))) (.cons (.ifS (.val (.cmp .eq (.var 3) (.lst false .nil))) (.cons (.ret (.lit .none)) .nil) .nil) (.cons (.asg 4 (.lst true .nil)) (.cons (.forS (.nm 5) (.range1 (.blt .len false (.cons (.var 0) .nil))) (.cons (.asg 6 (.call "_law_made" 0 (.cons (.var 0) (.cons (.bin false .add (.bin false .add (.sl false (.var 1) .no (.yes (.ix (.var 3) (.neg (.lit (.int 1))))) .no) (.tup (.cons (.var 5) .nil))) (.sl false (.var 1) (.yes (.bin false .add (.ix (.var 3) (.neg (.lit (.int 1)))) (.lit (.int 1)))) .no .no)) .nil)))) (.cons (.ifS (.val (.cmp .is (.var 6) (.lit .none))) (.cons (.ret (.lit .none)) .nil) .nil) (.cons (.expr (.yY .append false (.var 4) (.cons (.var 6) .nil))) .nil)))) (.cons (.ret (.tup (.cons (.lit (.str "cases")) (.cons (.ix (.var 3) (.neg (.lit (.int 1)))) (.cons (.blt .tuple false (.cons (.var 4) .nil)) .nil))))) .nil)))))))⟩
noncomputable def yd:Fn:=⟨["_law_pen_here","_law_paper","_law_deep","_law_at","_law_inner","_law_way","_law_to","_law_word","_law_one","_law_other","_law_odd","_law_words"],["_law_pen_here","_law_paper","_law_deep"],false,(.cons (.ifS (.and (.val (.cmp .eq (.ix (.var 1) (.lit (.int 0))) (.lit (.str "cases")))) (.cons (.val (.cmp .gt (.var 2) (.lit (.int 0)))) .nil)) (.cons (.asg 3 (.call "_law_draw" 0 (.cons (.var 0) (.cons (.blt .len false (.cons (.ix (.var 1) (.lit (.int 2))) .nil)) .nil)))) (.cons (.asg 4 (.call "_law_bent" 0 (.cons (.var 0) (.cons (.ix (.ix (.var 1) (.lit (.int 2))) (.var 3)) (.cons (.bin false .sub (.var 2) (.lit (.int 1))) .nil))))) (.cons (.ret (.tup (.cons (.lit (.str "cases")) (.cons (.ix (.var 1) (.lit (.int 1))) (.cons (.bin false .add (.bin false .add (.sl false (.ix (.var 1) (.lit (.int 2))) .no (.yes (.var 3)) .no) (.tup (.cons (.var 4) .nil))) (.sl false (.ix (.var 1) (.lit (.int 2))) (.yes (.bin false .add (.var 3) (.lit (.int 1)))) .no .no)) .nil))))) .nil))) .nil) (.cons (.par [5,6] (.cons (.call "_law_draw" 0 (.cons (.var 0) (.cons (.lit (.int 7)) .nil))) (.cons (.call "_law_draw" 0 (.cons (.var 0) (.cons (.lit (.int 8)) .nil))) .nil))) (.cons (.asgT [7,8,9] (.var 1)) (.cons (.asg 10 (.ix (.lst false (.cons (.lit .none) (.cons (.lit (.bool true)) (.cons (.neg (.lit (.int 1))) (.cons (.lit (.str "0")) (.cons (.tup (.cons (.lit (.int 0)) .nil)) (.cons (.bin false .pow (.lit (.int 10)) (.lit (.int 29))) (.cons (.lit (.int 0)) (.cons (.bin false .add (.var 8) (.lit (.int 1))) .nil))))))))) (.var 6))) (.cons (.asg 11 (.lst false (.cons (.lit (.str "case")) (.cons (.lit (.str "rows")) (.cons (.lit (.str "")) (.cons (.lit (.str "Row")) (.cons (.lit (.str "row")) (.cons (.lit (.str "cases")) (.cons (.lit (.str "row ")) (.cons (.lit (.str "paper")) .nil)))))))))) (.cons (.ifS (.val (.cmp .eq (.var 5) (.lit (.int 0)))) (.cons (.ret (.tup (.cons (.ix (.var 11) (.var 6)) (.cons (.var 8) (.cons (.var 9) .nil))))) .nil) .nil) (.cons (.ifS (.val (.cmp .eq (.var 5) (.lit (.int 1)))) (.cons (.ret (.tup (.cons (.var 7) (.cons (.var 10) (.cons (.var 9) .nil))))) .nil) .nil) (.cons (.ifS (.and (.val (.cmp .eq (.var 5) (.lit (.int 2)))) (.cons (.val (.cmp .eq (.var 7) (.lit (.str "row")))) .nil)) (.cons (.ret (.tup (.cons (.var 7) (.cons (.var 8) (.cons (.ix (.lst false (.cons (.bin false .add (.var 9) (.lit (.int 1))) (.cons (.lit (.int 0)) (.cons (.neg (.lit (.int 1))) (.cons (.lit (.bool true)) (.cons (.lit .none) (.cons (.blt .str false (.cons (.var 9) .nil)) (.cons (.tup (.cons (.var 9) .nil)) (.cons (.bin false .sub (.var 9) (.lit (.int 1))) .nil))))))))) (.var 6)) .nil))))) .nil) .nil) (.cons (.ifS (.val (.cmp .eq (.var 5) (.lit (.int 2)))) (.cons (.ret (.tup (.cons (.var 7) (.cons (.var 8) (.cons (.ix (.lst false (.cons (.sl false (.var 9) .no .no (.yes (.neg (.lit (.int 1))))) (.cons (.sl false (.var 9) .no (.yes (.neg (.lit (.int 1)))) .no) (.cons (.bin false .add (.var 9) (.sl false (.var 9) .no (.yes (.lit (.int 1))) .no)) (.cons (.blt .list false (.cons (.var 9) .nil)) (.cons (.lit .none) (.cons (.ix (.var 9) (.lit (.int 0))) (.cons (.tup .nil) (.cons (.lit (.int 0)) .nil))))))))) (.var 6)) .nil))))) .nil) .nil) (.cons (.ret (.ix (.lst false (.cons (.blt .list false (.cons (.var 1) .nil)) (.cons (.sl false (.var 1) .no (.yes (.lit (.int 2))) .no) (.cons (.bin false .add (.var 1) (.tup (.cons (.lit (.int 0)) .nil))) (.cons (.tup (.cons (.var 1) .nil)) .nil))))) (.bin false .sub (.var 5) (.lit (.int 3))))) .nil))))))))))⟩
noncomputable def y1:Fn:=⟨["_law_pen_here","_law_sizes","_law_limit","_law_spare","_law_share","_law_length","_law_found","_law_place","_law_hue","_law_skip","_law_some","_law_good"],["_law_pen_here","_law_sizes","_law_limit","_law_spare"],false,(.cons (.par [4,5] (.cons (.bin false .add (.lit (.int 2)) (.call "_law_draw" 0 (.cons (.var 0) (.cons (.lit (.int 5)) .nil)))) (.cons (.call "_law_draw" 0 (.cons (.var 0) (.cons (.bin false .add (.var 2) (.lit (.int 1))) .nil))) .nil))) (.cons (.asg 6 (.lst true .nil)) (.cons (.forS (.nm 7) (.range1 (.var 5)) (.cons (.par [8,9] (.cons (.call "_law_draw" 0 (.cons (.var 0) (.cons (.blt .len false (.cons (.var 1) .nil)) .nil))) (.cons (.cmp .eq (.call "_law_draw" 0 (.cons (.var 0) (.cons (.var 4) .nil))) (.lit (.int 0))) .nil))) (.cons (.asg 10 (.comp false ["_law_k","_law_hue","_law_sizes"] [none,some 8,some 1] (.bin false .mod (.bin false .add (.var 1) (.var 0)) (.blt .len false (.cons (.var 2) .nil))) (.nm 0) (.range1 (.blt .len false (.cons (.var 1) .nil))) .nil)) (.cons (.asg 11 (.comp false ["_law_one","_law_skip","_law_sizes","_law_found"] [none,some 9,some 1,some 6] (.var 0) (.nm 0) (.val (.var 10)) (.cons (.and (.not (.val (.var 1))) (.cons (.not (.val (.call "_law_ended" 0 (.cons (.var 2) (.cons (.var 3) (.cons (.var 0) .nil)))))) .nil)) .nil))) (.cons (.ifS (.and (.val (.cmp .eq (.var 11) (.lst false .nil))) (.cons (.val (.cmp .eq (.yY .count false (.var 6) (.cons (.neg (.lit (.int 1))) .nil)) (.var 3))) .nil)) (.cons (.ret (.blt .tuple false (.cons (.var 6) .nil))) .nil) .nil) (.cons (.expr (.yY .append false (.var 6) (.cons (.ix (.bin false .add (.var 11) (.lst false (.cons (.neg (.lit (.int 1))) .nil))) (.lit (.int 0))) .nil))) .nil)))))) (.cons (.ret (.blt .tuple false (.cons (.var 6) .nil))) .nil))))⟩
noncomputable def xM:Fn:=⟨["_law_pen_here","_law_some"],["_law_pen_here"],false,(.cons (.asg 1 (.lst false (.cons (.tup (.cons (.lit (.int 3)) (.cons (.lit (.int 3)) .nil))) (.cons (.tup (.cons (.lit (.int 3)) (.cons (.lit (.int 3)) .nil))) (.cons (.tup (.cons (.lit (.int 2)) (.cons (.lit (.int 3)) .nil))) (.cons (.tup (.cons (.lit (.int 3)) (.cons (.lit (.int 2)) .nil))) (.cons (.tup (.cons (.lit (.int 2)) (.cons (.lit (.int 2)) (.cons (.lit (.int 3)) .nil)))) (.cons (.tup (.cons (.lit (.int 3)) (.cons (.lit (.int 4)) .nil))) (.cons (.tup (.cons (.lit (.int 4)) (.cons (.lit (.int 3)) .nil))) (.cons (.tup (.cons (.lit (.int 2)) (.cons (.lit (.int 2)) .nil))) (.cons (.tup (.cons (.lit (.int 3)) .nil)) (.cons (.tup (.cons (.lit (.int 2)) (.cons (.lit (.int 2)) (.cons (.lit (.int 2)) .nil)))) (.cons (.tup (.cons (.lit (.int 3)) (.cons (.lit (.int 3)) (.cons (.lit (.int 2)) .nil)))) (.cons (.tup (.cons (.lit (.int 2)) (.cons (.lit (.int 4)) .nil))) .nil)))))))))))))) (.cons (.ret (.ix (.var 1) (.call "_law_draw" 0 (.cons (.var 0) (.cons (.lit (.int 12)) .nil))))) .nil))⟩
noncomputable def yQ:Fn:=⟨["_law_sizes","_law_found","_law_hue","_law_here","_law_size","_law_step"],["_law_sizes","_law_found","_law_hue"],false,(.cons (.par [3,4] (.cons (.blt .len false (.cons (.var 1) .nil)) (.cons (.ix (.var 0) (.var 2)) .nil))) (.cons (.forS (.nm 5) (.range2 (.lit (.int 1)) (.bin false .add (.bin false .fdiv (.var 3) (.bin false .sub (.var 4) (.lit (.int 1)))) (.lit (.int 1)))) (.cons (.ifS (.val (.cmp .eq (.comp false ["_law_k","_law_hue","_law_found","_law_here","_law_step"] [none,some 2,some 1,some 3,some 5] (.var 0) (.nm 0) (.range2 (.lit (.int 1)) (.var 4)) (.cons (.val (.cmp .ne (.ix (.var 2) (.bin false .sub (.var 3) (.bin false .mul (.var 0) (.var 4)))) (.var 1))) .nil)) (.lst false .nil))) (.cons (.ret (.lit (.bool true))) .nil) .nil) .nil)) (.cons (.ret (.lit (.bool false))) .nil)))⟩
noncomputable def yD:Fn:=⟨["_law_sizes","_law_draft","_law_found","_law_hue","_law_size","_law_row"],["_law_sizes","_law_draft"],false,(.cons (.asg 2 (.lst true .nil)) (.cons (.forS (.nms [3,4]) (.enum (.var 0)) (.cons (.forS (.nm 5) (.val (.call "_law_rows" 0 (.cons (.blt .len false (.cons (.var 1) .nil)) (.cons (.var 4) .nil)))) (.cons (.ifS (.val (.cmp .eq (.comp false ["_law_place","_law_hue","_law_draft"] [none,some 3,some 1] (.var 0) (.nm 0) (.val (.call "_law_places" 0 (.cons (.var 5) (.cons (.var 4) .nil)))) (.cons (.val (.cmp .ne (.ix (.var 2) (.var 0)) (.var 1))) .nil)) (.lst false .nil))) (.cons (.expr (.yY .append false (.var 2) (.cons (.var 5) .nil))) .nil) .nil) .nil)) .nil)) (.cons (.ret (.blt .sorted false (.cons (.var 2) .nil))) .nil)))⟩
end F31
end
section
namespace M
open PySem
noncomputable def Dt:Nat→Val→Prop
 |0,v=>kindOf v≠none∧v.isD=true∧∀vs,v≠.tup vs
 |n+1,v=>kindOf v≠none∧v.isD=true∧∀vs,v=.tup vs→∀w∈vs,kindOf w≠none∧w.isD=true∧∀ps,w=.tup ps→∀u∈ps,Dt n u
theorem Dt.kd{n:Nat}{v:Val}(h:Dt n v):kindOf v≠none:=by cases n<;>exact h.1
theorem oQ{v:Val}(s:Sto)(h:v.isD=true):yO s v=v:=by
 cases v with
 |ref i=>rw[Val.isD]at h;cases h
 |_=>rfl
theorem lj{v:Val}(s:Sto)(h:v.isD=true):zh s v=v:=by
 cases v with
 |tup vs=>
  rw[Val.isD]at h
  show Val.tup (vs.map (yO s))=_
  rw[List.map_congr_left (f:=yO s) (g:=id) fun w hw=>oQ s (xf h hw),List.map_id]
 |_=>exact oQ s h
noncomputable def isStr(w:Str):Val→Bool
 |.str x=>decide (x=w)
 |_=>false
theorem t9{v:Val}{w:Str}{s:Sto}(h:v.isD=true)(hw:PyData.strOk w=true):zV .eq v (.str w) s=.ok (.bool (isStr w v)) s:=by
 have e:=lj s h
 have hd:((Val.str w).d.depth≤60):=by rw[Val.d];exact Nat.zero_le _
 have hs:(Val.str w).isD=true:=by rw[Val.isD];exact hw
 have key:∀{u:Val},u.isD=true→PyData.eqv u.d (Val.str w).d=false→uN u (.str w)=some false:=fun h1 h2=>by
  unfold uN
  rw[h1,hs,decide_eq_true hd,h2];rfl
 have go:PyData.eqv v.d (Val.str w).d=false→(match uN (zh s v) (zh s (.str w)) with|some b=>Out.ok (Val.bool b) s|Option.none=>.stuck)=.ok (.bool false) s:=fun h2=>by
  rw[e,show zh s (.str w)=.str w from rfl,key h h2]
 cases v with
 |str x=>rfl
 |none=>exact go (by rw[Val.d,Val.d];rfl)
 |bool b=>exact go (by rw[Val.d,Val.d];rfl)
 |int i=>exact go (by rw[Val.d,Val.d];rfl)
 |tup vs=>exact go (by rw[Val.d,Val.d];rfl)
 |lst vs=>exact go (by rw[Val.d,Val.d];rfl)
 |_=>rw[Val.isD]at h;cases h
noncomputable def uA(zs ds:List Int)(b c:Val):Bool:=match b,c with
 |.int f,.int d=>(decide (0≤f)&&decide (f≤(ds.length:Int)-1))&&(!decide (ds.getD f.toNat (-1)=-1)&&((decide (1≤d)&&decide (d≤((ds.length-1-f.toNat)/(zQ zs (ds.getD f.toNat (-1)).toNat-1):Nat)))&&yx ds f.toNat d.toNat (zQ zs (ds.getD f.toNat (-1)).toNat)))
 |_,_=>false
noncomputable def xA(f:List Int→Val→Bool)(ds:List Int)(p:Nat):Nat→List Val→Bool
 |_,[]=>true
 |h,q::ps=>f (putL ds p h) q&&xA f ds p (h+1) ps
noncomputable def xt(zs:List Int)(f:List Int→Val→Bool)(ds:List Int)(b c:Val):Bool:=match b,c with
 |.int p,.tup ps=>(decide (0≤p)&&decide (p≤(ds.length:Int)-1))&&(decide (ds.getD p.toNat 0=-1)&&(decide (ps.length=zs.length)&&xA f ds p.toNat 0 ps))
 |_,_=>false
noncomputable def zP(zs:List Int):Nat→List Int→Val→Bool
 |0,_,_=>false
 |n+1,ds,v=>match v with
  |.tup [a,b,c]=>if isStr "row" a then uA zs ds b c else isStr "cases" a&&xt zs (zP zs n) ds b c
  |_=>false
noncomputable def Df(zs ds:List Int):Prop:=ds.length≤40∧∀x∈ds,-1≤x∧x<zs.length
theorem Df.put{zs ds:List Int}{p h:Nat}(hd:Df zs ds)(hp:p<ds.length)(hh:h<zs.length):Df zs (putL ds p h):=by
 rw[nF hp]
 refine⟨by rw[List.length_set];exact hd.1,fun x hx=>?_⟩
 rcases List.mem_or_eq_of_mem_set hx with hx|rfl
 . exact hd.2 x hx
 . omega
section
variable {T:Tbl}{Φ:Calls}{s:Sto}
noncomputable def bh(Φ:Calls):Prop:=∀(zs ds:List Int) (b c:Val) (s:Sto),Sz zs→Df zs ds→kindOf b≠none→kindOf c≠none→Φ "is_wrong_row" 0 [tpI zs,tpI ds,b,c] s=.ok (.bool (uA zs ds b c)) s
theorem fh{zs ds:List Int}{b c:Val}(h:yG 0 ((ds.length:Int)-1) b=false):uA zs ds b c=false:=by
 cases b with
 |int f=>
  cases c with
  |int d=>
   show ((decide (0≤f)&&decide (f≤(ds.length:Int)-1))&&_)=false
   rw[show (decide (0≤f)&&decide (f≤(ds.length:Int)-1))=false from h];rfl
  |_=>rfl
 |_=>rfl
theorem fw(g:T.gl "BLANK"=some (.int (-1)))(cW:qz Φ)(cM:bg Φ)(cO:Yv Φ){zs ds:List Int}{b c:Val}(hz:Sz zs)(hd:Df zs ds)(hb:kindOf b≠none)(hc:kindOf c≠none):run T Φ F31.yL [tpI zs,tpI ds,b,c] s=.ok (.bool (uA zs ds b c)) s:=by
 have hl:blt .len false [tpI ds] s=.ok (.int ds.length) s:=by rw[yr,List.length_map]
 have end':∀{q:Bool},q=uA zs ds b c→(zb false s (.bool q) s).post fun x t=>x=.bool (uA zs ds b c)∧t=s:=fun{q} e=>by
  rw[zt yt,e];exact zE.mpr ⟨rfl,rfl⟩
 have c1:=cW b 0 ((ds.length:Int)-1) s hb
 rw[post_eq,F31.yL,xg]
 refine⟨rfl,?_⟩
 show (zf Φ T.gl [some (tpI zs),some (tpI ds),some b,some c,none] _ s).post _
 cases hw:yG 0 ((ds.length:Int)-1) b with
 |false=>
  rw[hw]at c1
  exact zr (qq (zl (zJ (x_call (zA (zB rfl) (zA zD (zA (zp (zU (zA (zB rfl) zC) hl) zD uy) zC))) c1) zF))) (zX zD (end' (fh hw).symm))
 |true=>
  rw[hw]at c1
  obtain⟨i,rfl,i0,i1⟩:=tH hw
  obtain⟨f,rfl⟩:∃f:Nat,i=f:=⟨i.toNat,by omega⟩
  have hf:f<ds.length:=by omega
  have hx:=w8 (s:=s) (List.getElem?_eq_getElem hf)
  have hg:ds.getD f (-1)=ds[f]:=by rw[List.getD_eq_getElem?_getD,List.getElem?_eq_getElem hf];rfl
  have hv:=hd.2 _ (List.getElem_mem hf)
  have eR:∀{d:Int},uA zs ds (.int (f:Int)) (.int d)=(!decide (ds[f]=-1)&&((decide (1≤d)&&decide (d≤((ds.length-1-f)/(zQ zs (ds[f]).toNat-1):Nat)))&&yx ds f d.toNat (zQ zs (ds[f]).toNat))):=fun{d}=>by
   show ((decide (0≤(f:Int))&&decide ((f:Int)≤(ds.length:Int)-1))&&(!decide (ds.getD (f:Int).toNat (-1)=-1)&&((decide (1≤d)&&decide (d≤((ds.length-1-(f:Int).toNat)/(zQ zs (ds.getD (f:Int).toNat (-1)).toNat-1):Nat)))&&yx ds (f:Int).toNat d.toNat (zQ zs (ds.getD (f:Int).toNat (-1)).toNat))))=_
   rw[Int.toNat_natCast,hg,decide_eq_true i0,decide_eq_true i1];rfl
  have eN:∀{c:Val},(∀d,c≠.int d)→uA zs ds (.int (f:Int)) c=false:=fun{c} h=>by
   cases c with
   |int d=>exact absurd rfl (h d)
   |_=>rfl
  by_cases hm:ds[f]=-1
  . refine zr (um (zl (zJ (x_call (zA (zB rfl) (zA zD (zA (zp (zU (zA (zB rfl) zC) hl) zD uy) zC))) c1) zF)) (yj (zJ (zW (ze (zB rfl) (zB rfl) hx) (lL g) eq_int) (by rw[zF,decide_eq_true hm])))) (zX zD (end' ?_))
    cases c with
    |int d=>rw[eR,decide_eq_true hm];rfl
    |_=>rfl
  . obtain⟨h,hh⟩:∃h:Nat,ds[f]=h:=⟨(ds[f]).toNat,by omega⟩
    rw[hh,Int.toNat_natCast]at eR
    have hhz:h<zs.length:=by omega
    obtain⟨z1,z2,z3⟩:=yi hz hhz
    have c2:=cM ds.length f (zQ zs h) s hf z2 z3
    have hx2:xT (tpI zs) (.int ds[f]) s=.ok (.int (zQ zs h)) s:=by rw[hh];exact w8 z1
    refine zu (um (zl (zJ (x_call (zA (zB rfl) (zA zD (zA (zp (zU (zA (zB rfl) zC) hl) zD uy) zC))) c1) zF)) (yK (zJ (zW (ze (zB rfl) (zB rfl) hx) (lL g) eq_int) (by rw[zF,decide_eq_false hm])) uD)) (xG (ze (zB rfl) (ze (zB rfl) (zB rfl) hx) hx2) ?_)
    have c3:=cW c 1 ((ds.length-1-f)/(zQ zs h-1):Nat) s hc
    cases hw2:yG 1 ((ds.length-1-f)/(zQ zs h-1):Nat) c with
    |false=>
     rw[hw2]at c3
     refine zX (tJ (x_call (zA (zB rfl) (zA zD (zA (x_call (zA (zU (zA (zB rfl) zC) hl) (zA (zB rfl) (zA (zB rfl) zC))) c2) zC))) c3)) (end' ?_)
     cases c with
     |int d=>rw[eR,show (decide (1≤d)&&decide (d≤((ds.length-1-f)/(zQ zs h-1):Nat)))=false from hw2,Bool.false_and,Bool.and_false]
     |_=>rfl
    |true=>
     rw[hw2]at c3
     obtain⟨j,rfl,j0,j1⟩:=tH hw2
     obtain⟨d,rfl⟩:∃d:Nat,j=d:=⟨j.toNat,by omega⟩
     have hK:d*(zQ zs h-1)≤ds.length-1-f:=(Nat.le_div_iff_mul_le (by omega)).mp (by omega)
     have c4:=cO ds f d (zQ zs h) s (by omega) (by omega) (by omega) (by unfold zO;omega)
     refine zX (rk (x_call (zA (zB rfl) (zA zD (zA (x_call (zA (zU (zA (zB rfl) zC) hl) (zA (zB rfl) (zA (zB rfl) zC))) c2) zC))) c3) (x_call (zA (zB rfl) (zA (zB rfl) (zA (zB rfl) (zA (zB rfl) zC)))) c4)) (end' ?_)
     rw[eR,decide_eq_false (by omega),decide_eq_true j0,decide_eq_true j1,Int.toNat_natCast];rfl
end
end M
end
section
namespace M
open PySem
section
variable {T:Tbl}{Φ:Calls}{s:Sto}
noncomputable def vt(ds:List Int):Val→Bool
 |.int p=>(decide (0≤p)&&decide (p≤(ds.length:Int)-1))&&decide (ds.getD p.toNat 0=-1)
 |_=>false
noncomputable def lM(Φ:Calls):Prop:=∀(ds:List Int) (b:Val) (s:Sto),kindOf b≠none→Φ "is_blank" 0 [tpI ds,b] s=.ok (.bool (vt ds b)) s
theorem mn(g:T.gl "BLANK"=some (.int (-1)))(cW:qz Φ){ds:List Int}{b:Val}(hb:kindOf b≠none):run T Φ F.xN [tpI ds,b] s=.ok (.bool (vt ds b)) s:=by
 have hl:blt .len false [tpI ds] s=.ok (.int ds.length) s:=by rw[yr,List.length_map]
 have end':∀{q:Bool},q=vt ds b→(zb false s (.bool q) s).post fun x t=>x=.bool (vt ds b)∧t=s:=fun{q} e=>by
  rw[zt yt,e];exact zE.mpr ⟨rfl,rfl⟩
 have c1:=cW b 0 ((ds.length:Int)-1) s hb
 rw[post_eq,F.xN,xg]
 refine⟨rfl,?_⟩
 show (zf Φ T.gl [some (tpI ds),some b] _ s).post _
 cases hw:yG 0 ((ds.length:Int)-1) b with
 |false=>
  rw[hw]at c1
  refine zX (tJ (x_call (zA (zB rfl) (zA zD (zA (zp (zU (zA (zB rfl) zC) hl) zD uy) zC))) c1)) (end' ?_)
  cases b with
  |int p=>
   show _=((decide (0≤p)&&decide (p≤(ds.length:Int)-1))&&_)
   rw[show (decide (0≤p)&&decide (p≤(ds.length:Int)-1))=false from hw];rfl
  |_=>rfl
 |true=>
  rw[hw]at c1
  obtain⟨i,rfl,i0,i1⟩:=tH hw
  obtain⟨f,rfl⟩:∃f:Nat,i=f:=⟨i.toNat,by omega⟩
  have hf:f<ds.length:=by omega
  refine zX (rk (x_call (zA (zB rfl) (zA zD (zA (zp (zU (zA (zB rfl) zC) hl) zD uy) zC))) c1) (zW (ze (zB rfl) (zB rfl) (w8 (List.getElem?_eq_getElem hf))) (lL g) eq_int)) (end' ?_)
  show _=((decide (0≤(f:Int))&&decide ((f:Int)≤(ds.length:Int)-1))&&decide (ds.getD (f:Int).toNat 0=-1))
  rw[decide_eq_true i0,decide_eq_true i1,Int.toNat_natCast,List.getD_eq_getElem?_getD,List.getElem?_eq_getElem hf];rfl
theorem tN{zs ds:List Int}{f:List Int→Val→Bool}{b c:Val}(h:vt ds b=false):xt zs f ds b c=false:=by
 cases b with
 |int p=>
  cases c with
  |tup ps=>
   show ((decide (0≤p)&&decide (p≤(ds.length:Int)-1))&&(decide (ds.getD p.toNat 0=-1)&&_))=false
   rw[←Bool.and_assoc,show ((decide (0≤p)&&decide (p≤(ds.length:Int)-1))&&decide (ds.getD p.toNat 0=-1))=false from h];rfl
  |_=>rfl
 |_=>rfl
noncomputable def qy(n:Nat)(Φ:Calls):Prop:=∀(zs ds:List Int) (v:Val) (s:Sto),Sz zs→Df zs ds→Dt n v→Φ "shows" 0 [tpI zs,tpI ds,v] s=.ok (.bool (zP zs n ds v)) s
noncomputable def iL(n:Nat)(Φ:Calls):Prop:=∀(zs ds:List Int) (b c:Val) (s:Sto),Sz zs→Df zs ds→kindOf b≠none→kindOf c≠none→(∀ps,c=.tup ps→∀w∈ps,Dt n w)→Φ "are_cases" 0 [tpI zs,tpI ds,b,c] s=.ok (.bool (xt zs (zP zs n) ds b c)) s
theorem j4{n:Nat}(cB:lM Φ)(cW:bj Φ)(cS:qy n Φ){zs ds:List Int}{b c:Val}(hz:Sz zs)(hd:Df zs ds)(hb:kindOf b≠none)(hc:kindOf c≠none)(hps:∀ps,c=.tup ps→∀w∈ps,Dt n w):run T Φ F31.y3 [tpI zs,tpI ds,b,c] s=.ok (.bool (xt zs (zP zs n) ds b c)) s:=by
 have hl:blt .len false [tpI zs] s=.ok (.int zs.length) s:=by rw[yr,List.length_map]
 obtain⟨a,ha⟩:=wN hc
 have i1:=wR (m:=false) (s:=s) ha (show xD "tuple"=some .tup from rfl)
 have end':∀{q:Bool},q=xt zs (zP zs n) ds b c→(zb false s (.bool q) s).post fun x t=>x=.bool (xt zs (zP zs n) ds b c)∧t=s:=fun{q} e=>by
  rw[zt yt,e];exact zE.mpr ⟨rfl,rfl⟩
 have c1:=cB ds b s hb
 rw[post_eq,F31.y3,xg]
 refine⟨rfl,?_⟩
 show (zf Φ T.gl [some (tpI zs),some (tpI ds),some b,some c,none,none] _ s).post _
 cases hw:vt ds b with
 |false=>
  rw[hw]at c1
  exact zr (qq (zl (zJ (x_call (zA (zB rfl) (zA (zB rfl) zC)) c1) zF))) (zX zD (end' (tN hw).symm))
 |true=>
  rw[hw]at c1
  obtain⟨p,rfl,p0,p1,p2⟩:∃p:Nat,b=.int p∧p<ds.length∧(p:Int)≤(ds.length:Int)-1∧ds.getD p 0=-1:=by
   cases b with
   |int i=>
    have hw:((decide (0≤i)&&decide (i≤(ds.length:Int)-1))&&decide (ds.getD i.toNat 0=-1))=true:=hw
    rw[Bool.and_eq_true,Bool.and_eq_true]at hw
    have h1:=of_decide_eq_true hw.1.1
    have h2:=of_decide_eq_true hw.1.2
    exact⟨i.toNat,by congr 1;omega,by omega,by omega,of_decide_eq_true hw.2⟩
   |_=>cases hw
  rcases sj ha with⟨ps,rfl⟩|hn
  . have e1:a=.tup:=by cases ha;rfl
    subst e1
    have eC:xt zs (zP zs n) ds (.int (p:Int)) (.tup ps)=(decide (ps.length=zs.length)&&xA (zP zs n) ds p 0 ps):=by
     show ((decide (0≤(p:Int))&&decide ((p:Int)≤(ds.length:Int)-1))&&(decide (ds.getD (p:Int).toNat 0=-1)&&(decide (ps.length=zs.length)&&xA (zP zs n) ds (p:Int).toNat 0 ps)))=_
     rw[Int.toNat_natCast,decide_eq_true p2,decide_eq_true p1,decide_eq_true (by omega)];rfl
    by_cases hlen:ps.length=zs.length
    . refine zu (um (zl (zJ (x_call (zA (zB rfl) (zA (zB rfl) zC)) c1) zF)) (yK (zl (zJ (zU (zA (zB rfl) (zA xw zC)) i1) zF)) (yK (zJ (zW (zU (zA (zB rfl) zC) yr) (zU (zA (zB rfl) zC) hl) ne_int) (by rw[zF,decide_eq_true (by omega)];rfl)) uD))) ?_
      refine zi.mpr (xV (fun rest e s'=>s'=s∧(∃o4 o5,e=[some (tpI zs),some (tpI ds),some (.int p),some (.tup ps),o4,o5])∧∃done todo,done++todo=ps∧rest=yI done.length todo∧xA (zP zs n) ds p 0 ps=xA (zP zs n) ds p done.length todo) (yI 0 ps) (s1:=s) (kD (zB rfl)) ⟨rfl,⟨_,_,rfl⟩,[],ps,rfl,rfl,rfl⟩ ?_ ?_)
      . rintro x rest e s' ⟨rfl,⟨o4,o5,rfl⟩,done,todo,hdn,hr,hv⟩
        cases todo with
        |nil=>cases hr
        |cons q todo=>
         injection hr with hx hr
         subst hx
         refine⟨_,rfl,?_⟩
         have hk:done.length<zs.length:=by rw[←hlen,←hdn,List.length_append,List.length_cons];omega
         have c3:=cS zs (putL ds p done.length) q s' hz (hd.put p0 hk) (hps ps rfl q (by rw[←hdn];exact List.mem_append_right _ (.head _)))
         have ev:xA (zP zs n) ds p 0 ps=(zP zs n (putL ds p done.length) q&&xA (zP zs n) ds p (done.length+1) todo):=hv
         have c2:=cW ds p (done.length:Int) s' p0 (by have:=hd.1;omega)
         cases hq:zP zs n (putL ds p done.length) q with
         |false=>
          rw[hq]at c3 ev
          exact zr (zl (zJ (x_call (zA (zB rfl) (zA (x_call (zA (zB rfl) (zA (zB rfl) (zA (zB rfl) zC))) c2) (zA (zB rfl) zC))) c3) zF)) (zX zD (end' (by rw[eC,ev,Bool.false_and,Bool.and_false])))
         |true=>
          rw[hq]at c3 ev
          refine zu (zl (zJ (x_call (zA (zB rfl) (zA (x_call (zA (zB rfl) (zA (zB rfl) (zA (zB rfl) zC))) c2) (zA (zB rfl) zC))) c3) zF)) (wH ⟨rfl,⟨_,_,rfl⟩,done++[q],todo,by rw[List.append_assoc];exact hdn,by rw[List.length_append,List.length_singleton];exact hr,?_⟩)
          rw[List.length_append,List.length_singleton,ev,Bool.true_and]
      . rintro e s' ⟨rfl,⟨o4,o5,rfl⟩,done,todo,hdn,hr,hv⟩
        have ht:todo=[]:=by cases todo with|nil=>rfl|cons _ _=>cases hr
        subst ht
        exact zX zD (end' (by rw[eC,hv,decide_eq_true hlen];rfl))
    . refine zr (um (zl (zJ (x_call (zA (zB rfl) (zA (zB rfl) zC)) c1) zF)) (yK (zl (zJ (zU (zA (zB rfl) (zA xw zC)) i1) zF)) (yj (zJ (zW (zU (zA (zB rfl) zC) yr) (zU (zA (zB rfl) zC) hl) ne_int) (by rw[zF,decide_eq_false (by omega)];rfl))))) (zX zD (end' ?_))
      rw[eC,decide_eq_false hlen];rfl
  . rw[hn]at i1
    refine zr (um (zl (zJ (x_call (zA (zB rfl) (zA (zB rfl) zC)) c1) zF)) (yj (zl (zJ (zU (zA (zB rfl) (zA xw zC)) i1) zF)))) (zX zD (end' ?_))
    cases c with
    |tup ps=>cases ha;cases hn
    |_=>rfl
theorem uk{zs ds:List Int}{n:Nat}{v:Val}(h:∀a b c,v≠.tup [a,b,c]):zP zs n ds v=false:=by
 cases n with
 |zero=>rfl
 |succ n=>
  cases v with
  |tup vs=>
   match vs,h with
   |[],_=>rfl
   |[_],_=>rfl
   |[_,_],_=>rfl
   |[a,b,c],h=>exact absurd rfl (h a b c)
   |_::_::_::_::_,_=>rfl
  |_=>rfl
theorem qi{n:Nat}(g1:T.gl "ROW"=some (.str "row"))(g2:T.gl "CASES"=some (.str "cases"))(cR:bh Φ)(cC:∀m,n=m+1→iL m Φ){zs ds:List Int}{v:Val}(hz:Sz zs)(hd:Df zs ds)(hv:Dt n v):run T Φ F31.wx [tpI zs,tpI ds,v] s=.ok (.bool (zP zs n ds v)) s:=by
 obtain⟨a,ha⟩:=wN hv.kd
 have i1:=wR (m:=false) (s:=s) ha (show xD "tuple"=some .tup from rfl)
 have end':∀{q:Bool},q=zP zs n ds v→(zb false s (.bool q) s).post fun x t=>x=.bool (zP zs n ds v)∧t=s:=fun{q} e=>by
  rw[zt yt,e];exact zE.mpr ⟨rfl,rfl⟩
 rw[post_eq,F31.wx,xg]
 refine⟨rfl,?_⟩
 show (zf Φ T.gl [some (tpI zs),some (tpI ds),some v] _ s).post _
 rcases sj ha with⟨vs,rfl⟩|hn
 . have e1:a=.tup:=by cases ha;rfl
   subst e1
   by_cases h3:vs.length=3
   . obtain⟨x,y,z,rfl⟩:∃x y z,vs=[x,y,z]:=by
      match vs,h3 with
      |[x,y,z],_=>exact⟨x,y,z,rfl⟩
     cases n with
     |zero=>exact absurd rfl (hv.2.2 _)
     |succ n=>
      obtain⟨kx,dx,_⟩:=hv.2.2 _ rfl x (.head _)
      obtain⟨ky,_,_⟩:=hv.2.2 _ rfl y (.tail _ (.head _))
      obtain⟨kz,_,dps⟩:=hv.2.2 _ rfl z (.tail _ (.tail _ (.head _)))
      have eV:zP zs (n+1) ds (.tup [x,y,z])=if isStr "row" x then uA zs ds y z else isStr "cases" x&&xt zs (zP zs n) ds y z:=rfl
      have q1:=t9 (w:="row") (s:=s) dx (by decide +kernel)
      have q2:=t9 (w:="cases") (s:=s) dx (by decide +kernel)
      refine zu (um (zl (zJ (zU (zA (zB rfl) (zA xw zC)) i1) zF)) (yK (zJ (zW (zU (zA (zB rfl) zC) yr) zD ne_int) zF) uD)) ?_
      cases hr:isStr "row" x with
      |true=>
       rw[hr]at q1
       refine zr (zJ (zW (ze (zB rfl) zD rfl) (lL g1) q1) zF) (zX (x_call (zA (zB rfl) (zA (zB rfl) (zA (ze (zB rfl) zD rfl) (zA (ze (zB rfl) zD rfl) zC)))) (cR zs ds y z s hz hd ky kz)) (end' ?_))
       rw[eV,hr,if_pos rfl]
      |false=>
       rw[hr]at q1
       refine zu (zJ (zW (ze (zB rfl) zD rfl) (lL g1) q1) zF) ?_
       cases hc:isStr "cases" x with
       |false=>
        rw[hc]at q2
        refine zX (tJ (zW (ze (zB rfl) zD rfl) (lL g2) q2)) (end' ?_)
        rw[eV,hr,hc];rfl
       |true=>
        rw[hc]at q2
        refine zX (rk (zW (ze (zB rfl) zD rfl) (lL g2) q2) (x_call (zA (zB rfl) (zA (zB rfl) (zA (ze (zB rfl) zD rfl) (zA (ze (zB rfl) zD rfl) zC)))) (cC n rfl zs ds y z s hz hd ky kz dps))) (end' ?_)
        rw[eV,hr,hc,if_neg Bool.false_ne_true,Bool.true_and]
   . refine zr (um (zl (zJ (zU (zA (zB rfl) (zA xw zC)) i1) zF)) (yj (zJ (zW (zU (zA (zB rfl) zC) yr) zD ne_int) (by rw[zF,decide_eq_false (by omega)];rfl)))) (zX zD (end' (uk fun x y z e=>?_).symm))
     cases e;exact h3 rfl
 . rw[hn]at i1
   exact zr (qq (zl (zJ (zU (zA (zB rfl) (zA xw zC)) i1) zF))) (zX zD (end' (uk fun x y z e=>by rw[e]at ha;cases ha;cases hn).symm))
end
end M
end
section
namespace M
open PySem
noncomputable def xH:Val→Bool
 |.int _=>true
 |_=>false
noncomputable def isS:Val→Bool
 |.str _=>true
 |_=>false
theorem Ze{v:Val}{a:L2.Kd}(h:kindOf v=some a):a.sub .str=isS v:=by
 cases v<;>cases h<;>rfl
theorem p4{zs ds:List Int}{n:Nat}{x y z:Val}:zP zs (n+1) ds (.tup [x,y,z])=if isStr "row" x then uA zs ds y z else isStr "cases" x&&xt zs (zP zs n) ds y z:=rfl
theorem WU{zs ds:List Int}{y z:Val}(h:xH y=false):uA zs ds y z=false:=by
 cases y with
 |int i=>cases h
 |_=>rfl
theorem ek{zs ds:List Int}{f:List Int→Val→Bool}{y z:Val}(h:xH y=false):xt zs f ds y z=false:=by
 cases y with
 |int i=>cases h
 |_=>rfl
theorem bG{zs ds:List Int}{n:Nat}{x y z:Val}(h:isS x=false):zP zs (n+1) ds (.tup [x,y,z])=false:=by
 cases x with
 |str w=>cases h
 |_=>rfl
theorem bH{zs ds:List Int}{n:Nat}{x y z:Val}(h:xH y=false):zP zs (n+1) ds (.tup [x,y,z])=false:=by
 rw[p4,WU h,ek h,Bool.and_false]
 cases isStr "row" x<;>rfl
theorem iA{zs ds:List Int}{n:Nat}{x z:Val}{i:Int}(h:¬(0≤i∧i<ds.length)):zP zs (n+1) ds (.tup [x,.int i,z])=false:=by
 have hw:yG 0 ((ds.length:Int)-1) (.int i)=false:=by
  rw[nW]
  by_cases h0:0≤i
  . rw[decide_eq_false (show ¬i≤(ds.length:Int)-1 by omega),Bool.and_false]
  . rw[decide_eq_false h0,Bool.false_and]
 have hb:vt ds (.int i)=false:=by
  show ((decide (0≤i)&&decide (i≤(ds.length:Int)-1))&&_)=false
  rw[show (decide (0≤i)&&decide (i≤(ds.length:Int)-1))=false from hw];rfl
 rw[p4,fh hw,tN hb,Bool.and_false]
 cases isStr "row" x<;>rfl
theorem iR{ds:List Int}{f d z:Nat}{h:Int}(hf:ds[f]?=some h):uu ds f d z h=yx ds f d z:=by
 unfold uu yx
 rw[hf]
theorem dw{v:Val}{w:Str}{s:Sto}(h:v.isD=true)(hw:PyData.strOk w=true):zV .ne v (.str w) s=.ok (.bool !(isStr w v)) s:=by
 have q:=t9 (s:=s) h hw
 have go:(match uN (zh s v) (zh s (.str w)) with|some b=>Out.ok (Val.bool b) s|Option.none=>.stuck)=.ok (.bool false) s→(match uN (zh s v) (zh s (.str w)) with|some b=>Out.ok (Val.bool !b) s|Option.none=>.stuck)=.ok (.bool true) s:=fun this=>by
  cases e:uN (zh s v) (zh s (.str w)) with
  |none=>rw[e]at this;cases this
  |some b=>
   rw[e]at this
   injection this with e1 _
   injection e1 with e1
   rw[e1];rfl
 cases v with
 |str x=>rfl
 |none=>exact go q
 |bool b=>exact go q
 |int i=>exact go q
 |tup vs=>exact go q
 |lst vs=>exact go q
 |_=>rw[Val.isD]at h;cases h
theorem kX{zs ds:List Int}{f:Nat}{d:Int}(hf:f<ds.length):uA zs ds (.int (f:Int)) (.int d)=(!decide (ds[f]=-1)&&((decide (1≤d)&&decide (d≤((ds.length-1-f)/(zQ zs (ds[f]).toNat-1):Nat)))&&yx ds f d.toNat (zQ zs (ds[f]).toNat))):=by
 have hg:ds.getD f (-1)=ds[f]:=by rw[List.getD_eq_getElem?_getD,List.getElem?_eq_getElem hf];rfl
 show ((decide (0≤(f:Int))&&decide ((f:Int)≤(ds.length:Int)-1))&&(!decide (ds.getD (f:Int).toNat (-1)=-1)&&((decide (1≤d)&&decide (d≤((ds.length-1-(f:Int).toNat)/(zQ zs (ds.getD (f:Int).toNat (-1)).toNat-1):Nat)))&&yx ds (f:Int).toNat d.toNat (zQ zs (ds.getD (f:Int).toNat (-1)).toNat))))=_
 rw[Int.toNat_natCast,hg,decide_eq_true (by omega),decide_eq_true (by omega)];rfl
theorem aD{zs ds:List Int}{b z:Val}(h:xH z=false):uA zs ds b z=false:=by
 cases z with
 |int i=>cases h
 |_=>cases b<;>rfl
theorem qL{zs ds:List Int}{g:List Int→Val→Bool}{f:Nat}{ps:List Val}(hf:f<ds.length):xt zs g ds (.int (f:Int)) (.tup ps)=(decide (ds[f]=-1)&&(decide (ps.length=zs.length)&&xA g ds f 0 ps)):=by
 show ((decide (0≤(f:Int))&&decide ((f:Int)≤(ds.length:Int)-1))&&(decide (ds.getD (f:Int).toNat 0=-1)&&(decide (ps.length=zs.length)&&xA g ds (f:Int).toNat 0 ps)))=_
 rw[Int.toNat_natCast,List.getD_eq_getElem?_getD,List.getElem?_eq_getElem hf,decide_eq_true (by omega),decide_eq_true (by omega)];rfl
theorem sk{f d z:Nat}{s:Sto}(hz:1≤z):xT (.lst ((yu f d z).map .int)) (.int (-1)) s=.ok (.int ((f+(z-1)*d:Nat):Int)) s:=by
 obtain⟨z,rfl⟩:∃k,z=k+1:=⟨z-1,by omega⟩
 show (match L2.atI ((yu f d (z+1)).map Val.int) (-1) with|some v=>Out.ok v s|Option.none=>.stuck)=_
 unfold yu
 rw[List.range_succ,List.map_append,List.map_append,List.map_singleton,List.map_singleton,L2.sP];rfl
section
variable {T:Tbl}{Φ:Calls}{s:Sto}
noncomputable def lQ(Φ:Calls):Prop:=∀(v:Val) (s:Sto),kindOf v≠none→Φ "_law_whole" 0 [v] s=.ok (.bool (xH v)) s
theorem m3{v:Val}(hk:kindOf v≠none):run T Φ F31.yk [v] s=.ok (.bool (xH v)) s:=by
 obtain⟨a,ha⟩:=wN hk
 have e1:=wR (m:=false) (s:=s) ha (show xD "int"=some .int from rfl)
 have e2:=wR (m:=false) (s:=s) ha (show xD "bool"=some .bl from rfl)
 have end':∀{b:Bool},b=xH v→(zb false s (.bool b) s).post fun x t=>x=.bool (xH v)∧t=s:=fun{b} e=>by
  rw[zt yt,e];exact zE.mpr ⟨rfl,rfl⟩
 rw[post_eq,F31.yk,xg]
 refine⟨rfl,?_⟩
 show (zf Φ T.gl [some v] _ s).post _
 rcases gT ha with⟨i,rfl⟩|⟨b,rfl⟩|⟨h1,h2⟩
 . cases ha
   exact zX (rk (zU (zA (zB rfl) (zA xw zC)) e1) (kh (zU (zA (zB rfl) (zA xw zC)) e2))) (end' rfl)
 . cases ha
   exact zX (rk (zU (zA (zB rfl) (zA xw zC)) e1) (kh (zU (zA (zB rfl) (zA xw zC)) e2))) (end' rfl)
 . rw[h1]at e1
   refine zX (tJ (zU (zA (zB rfl) (zA xw zC)) e1)) (end' ?_)
   cases v with
   |int i=>cases ha;cases h1
   |_=>rfl
theorem kg{G:Str→Option Val}{env:Env}{a b c:Ex}{i j k:Int}(h1:evE Φ G env a s=.ok (.int i) s)(h2:evE Φ G env b s=.ok (.int j) s)(h3:evE Φ G env c s=.ok (.int k) s):evE Φ G env (.chain .le .lt a b c) s=.ok (.bool (decide (i≤j)&&decide (j<k))) s:=by
 refine bnd h1 (bnd h2 (bnd le_int ?_))
 show (match Val.bool (decide (i≤j)) with
  |.bool true=>(evE Φ G env c s).bind fun z s4=>zV .lt (.int j) z s4
  |.bool false=>.ok (.bool false) s
  |_=>.stuck)=_
 cases decide (i≤j) with
 |true=>exact bnd h3 lt_int
 |false=>rfl
theorem fY{G:Str→Option Val}{env:Env}{i:Nat}{e e':Ex}{ds:List Int}{f:Nat}{h:Int}(hi:env[i]?=some (some (tpI ds)))(he:evE Φ G env e s=.ok (.int (f:Int)) s)(he':evE Φ G env e' s=.ok (.int h) s)(hf:f<ds.length)(hd:ds.length≤40):evE Φ G env (.bin false .add (.bin false .add (.sl false (.var i) .no (.yes e) .no) (.tup (.cons e' .nil))) (.sl false (.var i) (.yes (.bin false .add e (.lit (.int 1)))) .no .no)) s=.ok (tpI (putL ds f h)) s:=by
 have c1:=t7 (xs:=ds) (lo:=none) (hi:=some (f:Int))
 have c2:=t7 (xs:=ds) (lo:=some ((f:Int)+1)) (hi:=none)
 refine(zp (zp (oF (zB hi) vI (uc he) vI f6) (zj (zA he' zC) (by show 1≤zO;unfold zO;omega)) (xX (by rw[List.length_map];show _+1≤zO;unfold zO;omega))) (oF (zB hi) (uc (zp he zD ux)) vI vI f6) (xX (by rw[List.length_append,List.length_map,List.length_map];show _+1+_≤zO;unfold zO;omega))).trans ?_
 have e1:xR ds none (some (f:Int))=ds.take f:=t6 (by omega)
 have e2:xR ds (some ((f:Int)+1)) none=ds.drop (f+1):=by
  rw[show ((f:Int)+1)=((f+1:Nat):Int) by omega]
  exact pJ (by omega)
 rw[e1,e2]
 unfold putL
 show Out.ok (Val.tup (((ds.take f).map Val.int++[Val.int h])++(ds.drop (f+1)).map Val.int)) s=Out.ok (Val.tup ((ds.take f++h::ds.drop (f+1)).map Val.int)) s
 rw[List.map_append,List.append_assoc];rfl
noncomputable def qw(n:Nat)(Φ:Calls):Prop:=∀(zs ds:List Int) (v:Val) (s:Sto),Sz zs→Df zs ds→Dt n v→Φ "_law_shows" 0 [tpI zs,tpI ds,v] s=.ok (.bool (zP zs n ds v)) s
theorem rV{n:Nat}(cN:lQ Φ)(cP:qx Φ)(cS:∀m,n=m+1→qw m Φ){zs ds:List Int}{v:Val}(hz:Sz zs)(hd:Df zs ds)(hv:Dt n v):run T Φ F31.yS [tpI zs,tpI ds,v] s=.ok (.bool (zP zs n ds v)) s:=by
 have hlz:∀s,blt .len false [tpI zs] s=.ok (.int zs.length) s:=fun s=>by rw[yr,List.length_map]
 have hld:∀s,blt .len false [tpI ds] s=.ok (.int ds.length) s:=fun s=>by rw[yr,List.length_map]
 have hd40:=hd.1
 obtain⟨a,ha⟩:=wN hv.kd
 have i1:=wR (m:=false) (s:=s) ha (show xD "tuple"=some .tup from rfl)
 have end':∀{q:Bool},q=zP zs n ds v→(zb false s (.bool q) s).post fun x t=>x=.bool (zP zs n ds v)∧t=s:=fun{q} e=>by
  rw[zt yt,e];exact zE.mpr ⟨rfl,rfl⟩
 rw[post_eq,F31.yS,xg]
 refine⟨rfl,?_⟩
 show (zf Φ T.gl [some (tpI zs),some (tpI ds),some v,none,none,none] _ s).post _
 rcases sj ha with⟨vs,rfl⟩|hn
 case inr=>
  rw[hn]at i1
  exact zr (qq (zl (zJ (zU (zA (zB rfl) (zA xw zC)) i1) zF))) (zX zD (end' (uk fun x y z e=>by rw[e]at ha;cases ha;cases hn).symm))
 have e1:a=.tup:=by cases ha;rfl
 subst e1
 by_cases h3:vs.length=3
 case neg=>
  refine zr (um (zl (zJ (zU (zA (zB rfl) (zA xw zC)) i1) zF)) (yj (zJ (zW (zU (zA (zB rfl) zC) yr) zD ne_int) (by rw[zF,decide_eq_false (by omega)];rfl)))) (zX zD (end' (uk fun x y z e=>?_).symm))
  cases e;exact h3 rfl
 obtain⟨x,y,z,rfl⟩:∃x y z,vs=[x,y,z]:=by
  match vs,h3 with
  |[x,y,z],_=>exact⟨x,y,z,rfl⟩
 cases n with
 |zero=>exact absurd rfl (hv.2.2 _)
 |succ n=>
  obtain⟨kx,dx,_⟩:=hv.2.2 _ rfl x (.head _)
  obtain⟨ky,_,_⟩:=hv.2.2 _ rfl y (.tail _ (.head _))
  obtain⟨kz,_,dps⟩:=hv.2.2 _ rfl z (.tail _ (.tail _ (.head _)))
  obtain⟨ax,hax⟩:=wN kx
  have i2:=wR (m:=false) (s:=s) hax (show xD "str"=some .str from rfl)
  rw[Ze hax]at i2
  have c1:=cN y s ky
  have A1:∀{cs:Cns} {b:Bool},uO Φ T.gl [some (tpI zs),some (tpI ds),some (.tup [x,y,z]),none,none,none] cs s=.ok b s→evT Φ T.gl [some (tpI zs),some (tpI ds),some (.tup [x,y,z]),none,none,none] (.or (.not (.val (.blt .isi false (.cons (.var 2) (.cons (.ty "tuple" "tuple") .nil))))) (.cons (.val (.cmp .ne (.blt .len false (.cons (.var 2) .nil)) (.lit (.int 3)))) cs)) s=.ok b s:=fun k=>um (zl (zJ (zU (zA (zB rfl) (zA xw zC)) i1) zF)) (yK (zJ (zW (zU (zA (zB rfl) zC) yr) zD ne_int) zF) k)
  cases hS:isS x with
  |false=>
   rw[hS]at i2
   exact zr (A1 (yj (zl (zJ (zU (zA (ze (zB rfl) zD rfl) (zA xw zC)) i2) zF)))) (zX zD (end' (bG hS).symm))
  |true=>
   rw[hS]at i2
   cases hW:xH y with
   |false=>
    rw[hW]at c1
    exact zr (A1 (yK (zl (zJ (zU (zA (ze (zB rfl) zD rfl) (zA xw zC)) i2) zF)) (yj (zl (zJ (x_call (zA (ze (zB rfl) zD rfl) zC) c1) zF))))) (zX zD (end' (bH hW).symm))
   |true=>
    rw[hW]at c1
    obtain⟨i,rfl⟩:∃i,y=.int i:=by
     cases y with
     |int i=>exact⟨i,rfl⟩
     |_=>cases hW
    refine zu (A1 (yK (zl (zJ (zU (zA (ze (zB rfl) zD rfl) (zA xw zC)) i2) zF)) (yK (zl (zJ (x_call (zA (ze (zB rfl) zD rfl) zC) c1) zF)) uD))) ?_
    have hch:=kg (Φ:=Φ) (G:=T.gl) (env:=[some (tpI zs),some (tpI ds),some (.tup [x,.int i,z]),none,none,none]) (a:=.lit (.int 0)) (b:=.ix (.var 2) (.lit (.int 1))) (c:=.blt .len false (.cons (.var 1) .nil)) (s:=s) zD (ze (zB rfl) zD rfl) (zU (zA (zB rfl) zC) (hld s))
    by_cases hr:0≤i∧i<ds.length
    case neg=>
     have hb:(decide (0≤i)&&decide (i<(ds.length:Int)))=false:=by
      by_cases h0:0≤i
      . rw[decide_eq_false (show ¬i<(ds.length:Int) by omega),Bool.and_false]
      . rw[decide_eq_false h0,Bool.false_and]
     rw[hb]at hch
     exact zr (zl (zJ hch zF)) (zX zD (end' (iA hr).symm))
    rw[decide_eq_true hr.1,decide_eq_true hr.2]at hch
    refine zu (zl (zJ hch zF)) ?_
    clear hch c1 A1
    obtain⟨f,rfl⟩:∃f:Nat,i=f:=⟨i.toNat,by omega⟩
    have hf:f<ds.length:=by omega
    have hx:=w8 (s:=s) (List.getElem?_eq_getElem hf)
    have hvv:=hd.2 _ (List.getElem_mem hf)
    have q1:=t9 (w:="row") (s:=s) dx (by decide +kernel)
    have q2:=dw (w:="cases") (s:=s) dx (by decide +kernel)
    cases hrow:isStr "row" x with
    |true=>
     rw[hrow]at q1
     refine zr (zJ (zW (ze (zB rfl) zD rfl) zD q1) zF) ?_
     have eS:zP zs (n+1) ds (.tup [x,.int (f:Int),z])=uA zs ds (.int (f:Int)) z:=by rw[p4,hrow];rfl
     have cN':=cN z s kz
     by_cases hm:ds[f]=-1
     . refine xG (ze (zB rfl) (ze (zB rfl) zD rfl) hx) (zr (qq (zJ (zW (zB rfl) (y7 zD) eq_int) (by rw[zF,decide_eq_true hm]))) (zX zD (end' ?_)))
       rw[eS]
       cases hz2:xH z with
       |false=>rw[aD hz2]
       |true=>
        cases z with
        |int d=>rw[kX hf,decide_eq_true hm];rfl
        |_=>cases hz2
     . obtain⟨h,hh⟩:∃h:Nat,ds[f]=h:=⟨(ds[f]).toNat,by omega⟩
       have hhz:h<zs.length:=by omega
       obtain⟨z1,z2,z3⟩:=yi hz hhz
       have eI:∀{d:Int},uA zs ds (.int (f:Int)) (.int d)=((decide (1≤d)&&decide (d≤((ds.length-1-f)/(zQ zs h-1):Nat)))&&yx ds f d.toNat (zQ zs h)):=fun{d}=>by
        rw[kX hf,decide_eq_false hm,hh,Int.toNat_natCast];rfl
       rw[hh]at hx
       have B1:∀{cs:Cns} {b:Bool},uO Φ T.gl [some (tpI zs),some (tpI ds),some (.tup [x,.int (f:Int),z]),some (.int (h:Int)),none,none] cs s=.ok b s→evT Φ T.gl [some (tpI zs),some (tpI ds),some (.tup [x,.int (f:Int),z]),some (.int (h:Int)),none,none] (.or (.val (.cmp .eq (.var 3) (.neg (.lit (.int 1))))) cs) s=.ok b s:=fun k=>um (zJ (zW (zB rfl) (y7 zD) eq_int) (by rw[zF,decide_eq_false (by omega)])) k
       refine xG (ze (zB rfl) (ze (zB rfl) zD rfl) hx) ?_
       cases hz2:xH z with
       |false=>
        rw[hz2]at cN'
        exact zr (B1 (yj (zl (zJ (x_call (zA (ze (zB rfl) zD rfl) zC) cN') zF)))) (zX zD (end' (by rw[eS,aD hz2])))
       |true=>
        rw[hz2]at cN'
        obtain⟨e,rfl⟩:∃e,z=.int e:=by
         cases z with
         |int i=>exact⟨i,rfl⟩
         |_=>cases hz2
        have hch:=kg (Φ:=Φ) (G:=T.gl) (env:=[some (tpI zs),some (tpI ds),some (.tup [x,.int (f:Int),.int e]),some (.int (h:Int)),none,none]) (a:=.lit (.int 1)) (b:=.ix (.var 2) (.lit (.int 2))) (c:=.lit (.int 40)) (s:=s) zD (ze (zB rfl) zD rfl) zD
        have hK:(ds.length-1-f)/(zQ zs h-1)≤39:=Nat.le_trans (Nat.div_le_self _ _) (by omega)
        by_cases hr2:1≤e∧e<40
        case neg=>
         have hb:(decide (1≤e)&&decide (e<40))=false:=by
          by_cases h0:1≤e
          . rw[decide_eq_false (show ¬e<40 by omega),Bool.and_false]
          . rw[decide_eq_false h0,Bool.false_and]
         rw[hb]at hch
         refine zr (B1 (yK (zl (zJ (x_call (zA (ze (zB rfl) zD rfl) zC) cN') zF)) (yj (zl (zJ hch zF))))) (zX zD (end' ?_))
         rw[eS,eI]
         by_cases h0:1≤e
         . rw[decide_eq_false (show ¬e≤(((ds.length-1-f)/(zQ zs h-1):Nat):Int) by omega),Bool.and_false,Bool.false_and]
         . rw[decide_eq_false h0];rfl
        rw[decide_eq_true hr2.1,decide_eq_true hr2.2]at hch
        obtain⟨d,rfl⟩:∃d:Nat,e=d:=⟨e.toNat,by omega⟩
        have hx2:xT (tpI zs) (.int (h:Int)) s=.ok (.int (zQ zs h)) s:=w8 z1
        refine zu (B1 (yK (zl (zJ (x_call (zA (ze (zB rfl) zD rfl) zC) cN') zF)) (yK (zl (zJ hch zF)) uD))) (xG (x_call (zA (oF (zB rfl) (uc zD) vI vI rfl) (zA (ze (zB rfl) (zB rfl) hx2) zC)) (cP (f,d) (zQ zs h) s z3 (by show d≤1000;omega))) ?_)
        have hdiv:((d:Int)≤(((ds.length-1-f)/(zQ zs h-1):Nat):Int))↔f+(zQ zs h-1)*d<ds.length:=by
         rw[Int.ofNat_le,Nat.le_div_iff_mul_le (by omega),Nat.mul_comm]
         omega
        by_cases hlt:f+(zQ zs h-1)*d<ds.length
        . have hc:∀N,evE Φ T.gl [some (tpI zs),some (tpI ds),some (.tup [x,.int (f:Int),.int (d:Int)]),some (.int (h:Int)),some (.lst ((yu f d (zQ zs h)).map .int)),none] (.comp false N [none,some 3,some 1] (.var 0) (.nm 0) (.val (.var 4)) (.cons (.val (.cmp .ne (.ix (.var 2) (.var 0)) (.var 1))) .nil)) s=.ok (.lst (((yu f d (zQ zs h)).filter fun x=>!decide (ds[x.toNat]?=some (h:Int))).map .int)) s:=fun N=>
           aL (e0:=[some (.int h),some (tpI ds)]) (si (zB rfl) rfl) rfl fun i hi=>by
            obtain⟨k,hk,rfl⟩:=List.mem_map.mp hi
            have hk:=List.mem_range.mp hk
            have hbd:f+k*d<ds.length:=by
             have:k*d≤(zQ zs h-1)*d:=Nat.mul_le_mul_right _ (by omega)
             omega
            refine lC ((zJ (zW (ze (zB rfl) (zB rfl) (w8 (List.getElem?_eq_getElem hbd))) (zB rfl) ne_int) zF).trans ?_)
            simp only[Int.toNat_natCast,List.getElem?_eq_getElem hbd,Option.some.injEq]
          refine zX (rk (zW (ze (zB rfl) (y7 zD) (sk (by omega))) (zU (zA (zB rfl) zC) (hld s)) (by rw[lt_int,decide_eq_true (Int.ofNat_lt.mpr hlt)])) (zW (hc _) (xq zC (Nat.zero_le _)) (eq_nil (x6 _)))) (end' ?_)
          rw[rS (r:=(f,d)),eS,eI,decide_eq_true hr2.1,decide_eq_true (hdiv.mpr hlt),Int.toNat_natCast,iR (by rw[List.getElem?_eq_getElem hf,hh])];rfl
        . refine zX (tJ (zW (ze (zB rfl) (y7 zD) (sk (by omega))) (zU (zA (zB rfl) zC) (hld s)) (by rw[lt_int,decide_eq_false fun q=>hlt (Int.ofNat_lt.mp q)]))) (end' ?_)
          rw[eS,eI,decide_eq_false (fun q=>hlt (hdiv.mp q)),Bool.and_false];rfl
    |false=>
     rw[hrow]at q1
     refine zu (zJ (zW (ze (zB rfl) zD rfl) zD q1) zF) ?_
     have eS:zP zs (n+1) ds (.tup [x,.int (f:Int),z])=(isStr "cases" x&&xt zs (zP zs n) ds (.int (f:Int)) z):=by rw[p4,hrow];rfl
     obtain⟨az,haz⟩:=wN kz
     have i3:=wR (m:=false) (s:=s) haz (show xD "tuple"=some .tup from rfl)
     cases hcs:isStr "cases" x with
     |false=>
      rw[hcs]at q2
      exact zr (qq (zJ (zW (ze (zB rfl) zD rfl) zD q2) zF)) (zX zD (end' (by rw[eS,hcs];rfl)))
     |true=>
      rw[hcs]at q2 eS
      rw[Bool.true_and]at eS
      by_cases hm:ds[f]=-1
      case neg=>
       refine zr (um (zJ (zW (ze (zB rfl) zD rfl) zD q2) zF) (yj (zJ (zW (ze (zB rfl) (ze (zB rfl) zD rfl) hx) (y7 zD) ne_int) (by rw[zF,decide_eq_false hm];rfl)))) (zX zD (end' ?_))
       rw[eS]
       cases z with
       |tup ps=>rw[qL hf,decide_eq_false hm];rfl
       |_=>rfl
      rcases sj haz with⟨ps,rfl⟩|hn
      case inr=>
       rw[hn]at i3
       refine zr (um (zJ (zW (ze (zB rfl) zD rfl) zD q2) zF) (yK (zJ (zW (ze (zB rfl) (ze (zB rfl) zD rfl) hx) (y7 zD) ne_int) (by rw[zF,decide_eq_true hm];rfl)) (yj (zl (zJ (zU (zA (ze (zB rfl) zD rfl) (zA xw zC)) i3) zF))))) (zX zD (end' ?_))
       rw[eS]
       cases z with
       |tup ps=>cases haz;cases hn
       |_=>rfl
      have e1:az=.tup:=by cases haz;rfl
      subst e1
      rw[qL hf,decide_eq_true hm,Bool.true_and]at eS
      refine zu (um (zJ (zW (ze (zB rfl) zD rfl) zD q2) zF) (yK (zJ (zW (ze (zB rfl) (ze (zB rfl) zD rfl) hx) (y7 zD) ne_int) (by rw[zF,decide_eq_true hm];rfl)) (yK (zl (zJ (zU (zA (ze (zB rfl) zD rfl) (zA xw zC)) i3) zF)) uD))) ?_
      by_cases hlen:ps.length=zs.length
      case neg=>
       exact zr (zJ (zW (zU (zA (ze (zB rfl) zD rfl) zC) yr) (zU (zA (zB rfl) zC) (hlz s)) ne_int) (by rw[zF,decide_eq_false (by omega)];rfl)) (zX zD (end' (by rw[eS,decide_eq_false hlen];rfl)))
      refine zu (zJ (zW (zU (zA (ze (zB rfl) zD rfl) zC) yr) (zU (zA (zB rfl) zC) (hlz s)) ne_int) (by rw[zF,decide_eq_true (by omega)];rfl)) ?_
      refine zi.mpr (xV (fun rest e s'=>s'=s∧(∃o3 o5,e=[some (tpI zs),some (tpI ds),some (.tup [x,.int (f:Int),.tup ps]),o3,none,o5])∧∃done todo,done++todo=ps∧rest=yI done.length todo∧xA (zP zs n) ds f 0 ps=xA (zP zs n) ds f done.length todo) (yI 0 ps) (s1:=s) (kD (ze (zB rfl) zD rfl)) ⟨rfl,⟨_,_,rfl⟩,[],ps,rfl,rfl,rfl⟩ ?_ ?_)
      . rintro x' rest e s' ⟨rfl,⟨o3,o5,rfl⟩,done,todo,hdn,hr3,hv3⟩
        cases todo with
        |nil=>cases hr3
        |cons q todo=>
         injection hr3 with hx3 hr3
         subst hx3
         refine⟨_,rfl,?_⟩
         have hk:done.length<zs.length:=by rw[←hlen,←hdn,List.length_append,List.length_cons];omega
         have c3:=cS n rfl zs (putL ds f done.length) q s' hz (hd.put hf hk) (dps ps rfl q (by rw[←hdn];exact List.mem_append_right _ (.head _)))
         have ev:xA (zP zs n) ds f 0 ps=(zP zs n (putL ds f done.length) q&&xA (zP zs n) ds f (done.length+1) todo):=hv3
         have ep:=fY (Φ:=Φ) (G:=T.gl) (env:=[some (tpI zs),some (tpI ds),some (.tup [x,.int (f:Int),.tup ps]),some (.int (done.length:Int)),none,some q]) (s:=s') (i:=1) (e:=.ix (.var 2) (.lit (.int 1))) (e':=.var 3) (ds:=ds) (f:=f) (h:=(done.length:Int)) rfl (ze (zB rfl) zD rfl) (zB rfl) hf hd40
         cases hq:zP zs n (putL ds f done.length) q with
         |false=>
          rw[hq]at c3 ev
          exact zr (zl (zJ (x_call (zA (zB rfl) (zA ep (zA (zB rfl) zC))) c3) zF)) (zX zD (end' (by rw[eS,ev,Bool.false_and,Bool.and_false])))
         |true=>
          rw[hq]at c3 ev
          refine zu (zl (zJ (x_call (zA (zB rfl) (zA ep (zA (zB rfl) zC))) c3) zF)) (wH ⟨rfl,⟨_,_,rfl⟩,done++[q],todo,by rw[List.append_assoc];exact hdn,by rw[List.length_append,List.length_singleton];exact hr3,?_⟩)
          rw[List.length_append,List.length_singleton,ev,Bool.true_and]
      . rintro e s' ⟨rfl,⟨o3,o5,rfl⟩,done,todo,hdn,hr3,hv3⟩
        have ht:todo=[]:=by cases todo with|nil=>rfl|cons _ _=>cases hr3
        subst ht
        exact zX zD (end' (by rw[eS,hv3,decide_eq_true hlen];rfl))
end
end M
end
section
namespace M
open PySem
noncomputable def nZ(v:Val):Prop:=∃f d:Nat,v=.tup [.str "row",.int f,.int d]∧f<40∧d<40
noncomputable def Pap(k:Nat):Nat→Val→Prop
 |0,v=>nZ v
 |n+1,v=>nZ v∨∃(p:Nat) (ps:List Val),v=.tup [.str "cases",.int p,.tup ps]∧p<40∧ps.length=k∧∀q∈ps,Pap k n q
theorem sF:∀{vs:List Val},(∀v∈vs,v.noRef=true)→zm vs=true
 |[],_=>pY
 |v::vs,h=>by rw[rL,h v (.head _),sF fun w hw=>h w (.tail _ hw)];rfl
theorem mj{v:Val}(h:nZ v):v.noRef=true:=by
 obtain⟨f,d,rfl,_⟩:=h
 rw[v5]
 exact sF fun w hw=>by
  simp only[List.mem_cons,List.not_mem_nil,or_false]at hw
  rcases hw with rfl|rfl|rfl
  . exact pX
  . exact rK
  . exact rK
theorem fE{k:Nat}:∀{n:Nat} {v:Val},Pap k n v→v.noRef=true
 |0,v,h=>mj h
 |n+1,v,h=>by
  rcases h with h|⟨p,ps,rfl,_,_,h⟩
  . exact mj h
  . rw[v5]
    exact sF fun w hw=>by
     simp only[List.mem_cons,List.not_mem_nil,or_false]at hw
     rcases hw with rfl|rfl|rfl
     . exact pX
     . exact rK
     . rw[v5];exact sF fun q hq=>fE (h q hq)
theorem iV{ds:List Int}{p h:Nat}(hp:ds[p]?=some (-1)):(yT 0 (putL ds p h)).length<(yT 0 ds).length:=by
 have hpl:=oJ hp
 have hm:((p:Nat):Int)∈(yT 0 ds).map fun(i:Nat)=>(i:Int):=List.mem_map.mpr ⟨p,((ng ds).1 p).mp hp,rfl⟩
 have:=ee (ns:=putL ds p h) (ks:=((yT 0 ds).map fun(i:Nat)=>(i:Int)).erase (p:Int)) fun i hi=>by
  rw[nF hpl]at hi
  by_cases e:i=p
  . subst e
    rw[List.getElem?_set_self hpl]at hi
    have:=Option.some.inj hi;omega
  . rw[List.getElem?_set_ne (fun q=>e q.symm)]at hi
    exact(List.mem_erase_of_ne fun q=>e (by omega)).mpr (List.mem_map.mpr ⟨i,((ng ds).1 i).mp hi,rfl⟩)
 rw[List.length_erase_of_mem hm,List.length_map]at this
 have:=List.length_pos_of_mem hm
 rw[List.length_map]at this
 omega
section
variable {T:Tbl}{Φ:Calls}{s:Sto}
noncomputable def iO(n:Nat)(Φ:Calls):Prop:=∀(zs ds:List Int) (s:Sto),Sz zs→Df zs ds→(yT 0 ds).length≤n→(Φ "_law_made" 0 [tpI zs,tpI ds] s).post fun v s'=>s'=s∧(v=.none∨Pap zs.length n v)
theorem cU{k n:Nat}{v:Val}(h:nZ v):Pap k n v:=by
 cases n with
 |zero=>exact h
 |succ n=>exact .inl h
theorem nL{n:Nat}(cW:lP Φ)(cM:∀m,n=m+1→iO m Φ){zs ds:List Int}(hz:Sz zs)(hd:Df zs ds)(hn:(yT 0 ds).length≤n):(run T Φ F31.ye [tpI zs,tpI ds] s).post fun v s'=>s'=s∧(v=.none∨Pap zs.length n v):=by
 have L1:∀n,n<100→n≤zO:=fun n h=>by unfold zO;omega
 have hd40:=hd.1
 have hz4:=hz.2.1
 have hl:∀s,blt .len false [tpI zs] s=.ok (.int zs.length) s:=fun s=>by rw[yr,List.length_map]
 have end':∀{v:Val} {t:Sto},v.noRef=true→(v=.none∨Pap zs.length n v)→(zb false s v (s++t)).post fun v s'=>s'=s∧(v=.none∨Pap zs.length n v):=fun{v t} h1 h2=>by
  rw[sm h1];exact zE.mpr ⟨rfl,h2⟩
 have end0:∀{v:Val},v.noRef=true→(v=.none∨Pap zs.length n v)→(zb false s v s).post fun v s'=>s'=s∧(v=.none∨Pap zs.length n v):=fun{v} h1 h2=>by
  rw[zt h1];exact zE.mpr ⟨rfl,h2⟩
 rw[F31.ye,xg]
 refine⟨rfl,?_⟩
 show (zf Φ T.gl [some (tpI zs),some (tpI ds),none,none,none,none,none] _ s).post _
 refine xG (x_call (zA (zB rfl) (zA (zB rfl) zC)) (cW zs ds s hz hd40)) ?_
 have hmem:∀r∈vV ((yH zs ds).map toI),∃f d:Nat,r=((f:Int),(d:Int))∧f<40∧d<40:=fun r hr=>by
  obtain⟨⟨f,d⟩,hm,rfl⟩:=List.mem_map.mp ((xW _).mem_iff.mp hr)
  obtain⟨h,_,_,h3,h4,_⟩:=(jU hz).mp hm
  have z2:=(yi hz (by assumption)).2.1
  have:d*1≤d*(zQ zs h-1):=Nat.mul_le_mul_left _ (by omega)
  exact⟨f,d,rfl,by omega,by omega⟩
 generalize vV ((yH zs ds).map toI)=R at hmem ⊢
 cases hR:(R.map prV).isEmpty with
 |false=>
  have hne:R≠[]:=fun e=>by rw[e]at hR;cases hR
  obtain⟨init,r,rfl⟩:∃init r,R=init++[r]:=⟨R.dropLast,R.getLast hne,(List.dropLast_concat_getLast hne).symm⟩
  obtain⟨f,d,rfl,hf,hd'⟩:=hmem r (List.mem_append_right _ (.head _))
  have xl:xT (.lst ((init++[((f:Int),(d:Int))]).map prV)) (.int (-1)) s=.ok (.tup [.int f,.int d]) s:=by
   show (match L2.atI ((init++[((f:Int),(d:Int))]).map prV) (-1) with|some v=>Out.ok v s|Option.none=>.stuck)=_
   rw[List.map_append,List.map_singleton,L2.sP];rfl
  have hp:nZ (.tup [.str "row",.int f,.int d]):=⟨f,d,rfl,hf,hd'⟩
  exact zr (zJ (zW (zB rfl) (xq zC (L1 0 (by omega))) (ne_nil (se _))) (by rw[zF,hR];rfl)) (zX (zp (zj (zA zD zC) (L1 1 (by omega))) (ze (zB rfl) (y7 zD) xl) (xX (L1 3 (by omega)))) (end0 (mj hp) (.inr (cU hp))))
 |true=>
  refine zu (zJ (zW (zB rfl) (xq zC (L1 0 (by omega))) (ne_nil (se _))) (by rw[zF,hR];rfl)) (xG ((k6 (i:=1) rfl).trans (by rw[sR])) ?_)
  have isD:xc ((yT 0 ds).map fun(k:Nat)=>Val.int k)=true:=by
   have:=x6 ((yT 0 ds).map fun(k:Nat)=>(k:Int))
   rwa [List.map_map]at this
  cases hB:((yT 0 ds).map fun(k:Nat)=>Val.int k).isEmpty with
  |true=>
   exact zr (zJ (zW (zB rfl) (xq zC (L1 0 (by omega))) (eq_nil isD)) (by rw[zF,hB])) (zX zD (end0 uZ (.inl rfl)))
  |false=>
   have hne:yT 0 ds≠[]:=fun e=>by rw[e]at hB;cases hB
   obtain⟨init,p,hp⟩:∃init p,yT 0 ds=init++[p]:=⟨_,(yT 0 ds).getLast hne,(List.dropLast_concat_getLast hne).symm⟩
   have hpb:ds[p]?=some (-1):=((ng ds).1 p).mpr (by rw[hp];exact List.mem_append_right _ (.head _))
   have hpl:=oJ hpb
   have xl:∀s,xT (.lst ((yT 0 ds).map fun(k:Nat)=>Val.int k)) (.int (-1)) s=.ok (.int p) s:=fun s=>by
    show (match L2.atI ((yT 0 ds).map fun(k:Nat)=>Val.int k) (-1) with|some v=>Out.ok v s|Option.none=>.stuck)=_
    rw[hp,List.map_append,List.map_singleton,L2.sP]
   obtain⟨m,rfl⟩:∃m,n=m+1:=⟨n-1,by rw[hp,List.length_append,List.length_singleton]at hn;omega⟩
   refine zu (zJ (zW (zB rfl) (xq zC (L1 0 (by omega))) (eq_nil isD)) (by rw[zF,hB])) (xG (v:=.ref s.length) (s1:=s++[.lst []]) (bnd zC rfl) ?_)
   show (zf Φ T.gl [some (tpI zs),some (tpI ds),some (.lst (R.map prV)),some (aX ds),some (.ref s.length),none,none] _ (s++[.lst []])).post _
   refine zi.mpr (xV (fun rest e s'=>∃(h:Nat) (ps:List Val) (o5 o6:Option Val),h≤zs.length∧rest=zy h (zs.length-h)∧ps.length=h∧(∀q∈ps,Pap zs.length m q)∧e=[some (tpI zs),some (tpI ds),some (.lst (R.map prV)),some (aX ds),some (.ref s.length),o5,o6]∧s'=s++[.lst ps]) (zy 0 zs.length) (s1:=s++[.lst []]) (kE (zU (zA (zB rfl) zC) (hl _)) (by unfold zO;omega)) ⟨0,[],_,_,by omega,rfl,rfl,nofun,rfl,rfl⟩ ?_ ?_)
   . rintro x rest e s' ⟨h,ps,o5,o6,hh,hr,hpsl,hps,rfl,rfl⟩
     obtain⟨k,hk,rfl,rfl⟩:=tE hr
     refine⟨_,rfl,?_⟩
     have hhz:h<zs.length:=by omega
     have ep:=fY (Φ:=Φ) (G:=T.gl) (env:=[some (tpI zs),some (tpI ds),some (.lst (R.map prV)),some (aX ds),some (.ref s.length),some (.int (h:Int)),o6]) (s:=s++[.lst ps]) (i:=1) (e:=.ix (.var 3) (.neg (.lit (.int 1)))) (e':=.var 5) (ds:=ds) (f:=p) (h:=(h:Int)) rfl (ze (zB rfl) (y7 zD) (xl _)) (zB rfl) hpl hd40
     have hless:=iV (h:=h) hpb
     refine vT (yb (zA (zB rfl) (zA ep zC)) (zI (cM m rfl zs (putL ds p h) _ hz (hd.put hpl hhz) (by omega)) ?_))
     rintro v s2 ⟨rfl,hv⟩
     rcases hv with rfl|hv
     . exact zr (zJ (zW (zB rfl) zD rfl) zF) (zX zD (end' uZ (.inl rfl)))
     . have hN:v.isN=false:=by
        cases v with
        |none=>cases m with
         |zero=>obtain⟨_,_,e,_⟩:=hv;cases e
         |succ m=>rcases hv with⟨_,_,e,_⟩|⟨_,_,e,_⟩<;>cases e
        |_=>rfl
       refine zu (zJ (zW (zB rfl) zD (show zV .is v .none _=.ok (.bool v.isN) _ from rfl)) (by rw[zF,hN])) (sJ (bnd (zB rfl) (bnd (zA (zB rfl) zC) (tx (by unfold zO;omega)))) (wH ⟨h+1,ps++[v],_,_,by omega,by congr 1<;>omega,by rw[List.length_append,hpsl];rfl,fun q hq=>?_,rfl,rfl⟩))
       rcases List.mem_append.mp hq with hq|hq
       . exact hps q hq
       . rw[List.mem_singleton.mp hq];exact hv
   . rintro e s' ⟨h,ps,o5,o6,hh,hr,hpsl,hps,rfl,rfl⟩
     have:=pq hr
     have hP:Pap zs.length (m+1) (.tup [.str "cases",.int p,.tup ps]):=.inr ⟨p,ps,rfl,by omega,by omega,hps⟩
     have ht:blt .tuple false [.ref s.length] (s++[.lst ps])=.ok (.tup ps) (s++[.lst ps]):=by
      simp[blt,wI,yV]
     exact zX (zj (zA zD (zA (ze (zB rfl) (y7 zD) (xl _)) (zA (zU (zA (zB rfl) zC) ht) zC))) (L1 3 (by omega))) (end' (fE hP) (.inr hP))
end
end M
end
section
namespace M
open PySem
theorem oD{k wa wb wc:Nat}{a b c:Val}(ha:Th k wa a)(hb:Th k wb b)(hc:Th k wc c):Th (k+1) (wa+wb+wc+3) (.tup [a,b,c]):=by
 have h:∀v∈[a,b,c],Th k (wa+wb+wc) v:=fun v hv=>by
  simp only[List.mem_cons,List.not_mem_nil,or_false]at hv
  rcases hv with rfl|rfl|rfl
  . exact ha.mono (Nat.le_refl _) (by omega)
  . exact hb.mono (Nat.le_refl _) (by omega)
  . exact hc.mono (Nat.le_refl _) (by omega)
 have t:=lB (n:=3) h (Nat.le_refl 3)
 refine⟨t.nr,t.kd,t.r,⟨t.lf.sh,t.lf.lf,t.lf.dp,?_⟩,t.nd,t.dr⟩
 have h1:=ha.lf.wt
 have h2:=hb.lf.wt
 have h3:=hc.lf.wt
 rw[Val.d,ds,ds,ds,ds,PyData.weight,PyData.weightAll,PyData.weightAll,PyData.weightAll,PyData.weightAll]
 omega
theorem vf{vs:List Val}(h:∀v∈vs,v.isD=true):(Val.tup vs).isD=true:=by
 rw[Val.isD]
 induction vs with
 |nil=>rw[xc]
 |cons v vs ih=>rw[xc,h v (.head _),ih fun w hw=>h w (.tail _ hw)];rfl
theorem dO{vs:List Val}(h:∀v∈vs,v.isD=true):(Val.lst vs).isD=true:=by
 have:=vf h
 rw[Val.isD]at this
 rw[Val.isD];exact this
theorem mD{v:Val}(h:v.isD=true):kindOf v≠none:=by
 cases v with
 |none=>exact nofun
 |bool b=>exact nofun
 |int i=>exact nofun
 |str x=>exact nofun
 |tup vs=>exact nofun
 |lst vs=>exact nofun
 |_=>rw[Val.isD]at h;cases h
theorem qQ:∀{vs:List Val} {v:Val},v∈vs→v.d.depth≤PyData.depthAll (ds vs)
 |u::us,v,h=>by
  rw[ds,PyData.depthAll]
  rcases List.mem_cons.mp h with rfl|h
  . exact Nat.le_max_left _ _
  . exact Nat.le_trans (qQ h) (Nat.le_max_right _ _)
theorem qR{vs:List Val}{v:Val}(h:v∈vs):v.d.depth+1≤(Val.tup vs).d.depth:=by
 rw[show (Val.tup vs).d=.tuple (ds vs) by rw[Val.d],PyData.depth]
 exact Nat.succ_le_succ (qQ h)
theorem i7:∀{n:Nat} {v:Val},v.isD=true→v.d.depth≤2*n→Dt n v
 |0,v,h,hd=>⟨mD h,h,fun vs e=>by
  subst e
  rw[show (Val.tup vs).d=.tuple (ds vs) by rw[Val.d],PyData.depth]at hd
  omega⟩
 |n+1,v,h,hd=>⟨mD h,h,fun vs e w hw=>by
  subst e
  have hw':w.isD=true:=by rw[Val.isD]at h;exact xf h hw
  have d1:=qR hw
  exact⟨mD hw',hw',fun ps e u hu=>by
   subst e
   have hu':u.isD=true:=by rw[Val.isD]at hw';exact xf hw' hu
   have d2:=qR hu
   exact i7 hu' (by omega)⟩⟩
theorem bF{k w:Nat}{v:Val}{m:Bool}{s:Sto}(h:Th k w v)(hd:v.isD=true)(hk:k≤50)(hw:w≤300000):blt .repr m [v] s=.ok (.str v.d.shown) s:=by
 simp only[blt]
 rw[lj s hd,h.r,jZ h.lf hk hw h.nd]
 rfl
noncomputable def wP(k:Nat):Nat→Nat
 |0=>1000
 |n+1=>k*wP k n+k+1000
theorem oE{k:Nat}(hk:1≤k):∀n,1000≤wP k n
 |0=>Nat.le_refl _
 |n+1=>by unfold wP;omega
theorem ml{v:Val}(h:nZ v):Th 1 303 v∧v.isD=true:=by
 obtain⟨f,d,rfl,hf,hd⟩:=h
 refine⟨oD (wa:=100) (wb:=100) (wc:=100) (lA (by decide +kernel) (by decide +kernel)) (oC (by omega) (by omega)) (oC (by omega) (by omega)),vf fun w hw=>?_⟩
 simp only[List.mem_cons,List.not_mem_nil,or_false]at hw
 rcases hw with rfl|rfl|rfl
 . rw[Val.isD];decide +kernel
 . rw[Val.isD]
 . rw[Val.isD]
theorem mY{k:Nat}(hk:1≤k):∀{n:Nat} {v:Val},Pap k n v→Th (2*n+1) (wP k n) v∧v.isD=true
 |0,v,h=>⟨(ml h).1.mono (Nat.le_refl _) (by show 303≤1000;omega),(ml h).2⟩
 |n+1,v,h=>by
  rcases h with h|⟨p,ps,rfl,hp,hl,h⟩
  . have:=ml h
    exact⟨this.1.mono (by omega) (Nat.le_trans (by omega) (oE hk _)),this.2⟩
  . have ih:=fun q hq=>mY hk (h q hq)
    have t:=lB (n:=k) (fun q hq=>(ih q hq).1) (Nat.le_of_eq hl)
    refine⟨(oD (k:=2*n+2) (wa:=100) (wb:=100) ((lA (by decide +kernel) (by decide +kernel)).mono (Nat.zero_le _) (Nat.le_refl _)) ((oC (by omega) (by omega)).mono (Nat.zero_le _) (Nat.le_refl _)) (t.mono (Nat.le_refl _) (Nat.le_refl _))).mono (by omega) (by rw[wP,Nat.mul_succ];omega),vf fun w hw=>?_⟩
    simp only[List.mem_cons,List.not_mem_nil,or_false]at hw
    rcases hw with rfl|rfl|rfl
    . rw[Val.isD];decide +kernel
    . rw[Val.isD]
    . exact vf fun q hq=>(ih q hq).2
end M
end
section
namespace M
open PySem
structure Da(k w:Nat)(v:Val):Prop where
 t:Th k w v
 d:v.isD=true
theorem Da.mono{k w k' w':Nat}{v:Val}(h:Da k w v)(h1:k≤k')(h2:w≤w'):Da k' w' v:=⟨h.t.mono h1 h2,h.d⟩
theorem yN{i:Int}(h1:-(10 ^ 30)<i)(h2:i<10 ^ 30):Da 0 100 (.int i):=⟨oC h1 h2,by rw[Val.isD]⟩
theorem lX(b:Bool):Da 0 100 (.bool b):=⟨bQ b,by rw[Val.isD]⟩
theorem uL:Da 0 100 .none:=⟨bR,by rw[Val.isD]⟩
theorem nz{x:Str}(h1:∀c∈x.cps.toList,c<16 ^ 8)(h2:x.cps.size≤100)(h3:PyData.strOk x=true):Da 0 100 (.str x):=⟨lA h1 h2,by rw[Val.isD];exact h3⟩
theorem vO{k w n:Nat}{vs:List Val}(h:∀v∈vs,Da k w v)(hn:vs.length≤n):Da (k+1) (n*(w+1)) (.tup vs):=⟨lB (fun v hv=>(h v hv).t) hn,vf fun v hv=>(h v hv).d⟩
theorem nv{k w n:Nat}{vs:List Val}(h:∀v∈vs,Da k w v)(hn:vs.length≤n):Da (k+1) (n*(w+1)) (.lst vs):=⟨Yg (fun v hv=>(h v hv).t) hn,dO fun v hv=>(h v hv).d⟩
theorem w4{k wa wb wc:Nat}{a b c:Val}(ha:Da k wa a)(hb:Da k wb b)(hc:Da k wc c):Da (k+1) (wa+wb+wc+3) (.tup [a,b,c]):=⟨oD ha.t hb.t hc.t,vf fun v hv=>by
 simp only[List.mem_cons,List.not_mem_nil,or_false]at hv
 rcases hv with rfl|rfl|rfl
 . exact ha.d
 . exact hb.d
 . exact hc.d⟩
theorem rO{k n:Nat}{v:Val}(hk:1≤k)(h:Pap k n v):Da (2*n+1) (wP k n) v:=⟨(mY hk h).1,(mY hk h).2⟩
noncomputable def dz(i:Int):List Val:=[.none,.bool true,.int (-1),.str "0",.tup [.int 0],.int (10 ^ 29),.int 0,.int (i+1)]
theorem Wv:Da 0 100 (.str "0"):=nz (by decide +kernel) (by decide +kernel) (by decide +kernel)
theorem Zp{i:Int}(h1:0≤i)(h2:i<40):∀v∈dz i,Da 1 101 v:=fun v hv=>by
 simp only[dz,List.mem_cons,List.not_mem_nil,or_false]at hv
 rcases hv with rfl|rfl|rfl|rfl|rfl|rfl|rfl|rfl
 . exact uL.mono (by omega) (by omega)
 . exact(lX _).mono (by omega) (by omega)
 . exact(yN (by decide) (by decide)).mono (by omega) (by omega)
 . exact Wv.mono (by omega) (by omega)
 . exact(vO (n:=1) (k:=0) (w:=100) (vs:=[.int 0]) (fun v hv=>by rw[List.mem_singleton.mp hv];exact yN (by decide) (by decide)) (Nat.le_refl 1)).mono (by omega) (by omega)
 . exact(yN (by decide) (by decide)).mono (by omega) (by omega)
 . exact(yN (by decide) (by decide)).mono (by omega) (by omega)
 . exact(yN (by omega) (by omega)).mono (by omega) (by omega)
noncomputable def xI:List Val:=[.str "case",.str "rows",.str "",.str "Row",.str "row",.str "cases",.str "row ",.str "paper"]
theorem xp:∀v∈xI,Da 0 100 v:=fun v hv=>by
 simp only[xI,List.mem_cons,List.not_mem_nil,or_false]at hv
 rcases hv with rfl|rfl|rfl|rfl|rfl|rfl|rfl|rfl<;>exact nz (by decide +kernel) (by decide +kernel) (by decide +kernel)
theorem rj:∀{vs:List Val} {v:Val},v∈vs→v.d.weight+1≤PyData.weightAll (ds vs)
 |u::us,v,h=>by
  rw[ds,PyData.weightAll]
  rcases List.mem_cons.mp h with rfl|h
  . omega
  . have:=rj h
    omega
theorem ny{k w w':Nat}{v:Val}(h:Da k w v)(hw:v.d.weight≤w'):Da k w' v:=⟨⟨h.t.nr,h.t.kd,h.t.r,⟨h.t.lf.sh,h.t.lf.lf,h.t.lf.dp,hw⟩,h.t.nd,h.t.dr⟩,h.d⟩
theorem nu{k W:Nat}{vs:List Val}(h:∀v∈vs,∃w,Da k w v)(hW:PyData.weightAll (ds vs)≤W):Da (k+1) W (.tup vs)∧Da (k+1) W (.lst vs):=by
 have u:∀v∈vs,Da k W v:=fun v hv=>by
  obtain⟨w,hw⟩:=h v hv
  exact ny hw (by have:=rj hv;omega)
 exact⟨ny (vO u (Nat.le_refl _)) (by rw[Val.d,PyData.weight];exact hW),ny (nv u (Nat.le_refl _)) (by rw[Val.d,PyData.weight];exact hW)⟩
section
variable {T:Tbl}{Φ:Calls}{s:Sto}
noncomputable def nY(n:Nat)(Φ:Calls):Prop:=∀(p k deep:Nat) (v:Val) (s:Sto),y8 s p→1≤k→k≤3→Pap k n v→(Φ "_law_bent" 0 [.ref p,v,.int deep] s).post fun u s'=>Da (2*n+2) (2*wP k n+400) u∧yM s p s'
noncomputable def Yz(k n:Nat)(v:Val):Prop:=∃(w:Str) (f:Nat) (o:Val) (WO:Nat),v=Val.tup [Val.str w,Val.int f,o]∧Da 0 100 (Val.str w)∧f<40∧Da (2*n) WO o∧WO+203≤wP k n∧((w=Str.ofString "row"∧∃d:Nat,d<40∧o=Val.int d)∨(w=Str.ofString "cases"∧∃(m:Nat) (ps:List Val),n=m+1∧o=Val.tup ps∧ps.length=k∧∀q∈ps,Pap k m q))
theorem fD{k n:Nat}{v:Val}(hk:1≤k)(hv:Pap k n v):Yz k n v:=by
 have row:nZ v→Yz k n v:=fun⟨f,d,e,hf,hd⟩=>⟨"row",f,.int d,100,e,xp _ (by simp[xI]),hf,(yN (by omega) (by omega)).mono (Nat.zero_le _) (Nat.le_refl _),by have:=oE hk n;omega,.inl ⟨rfl,d,hd,rfl⟩⟩
 cases n with
 |zero=>exact row hv
 |succ n=>
  rcases hv with h|⟨p,ps,e,hp,hl,h⟩
  . exact row h
  . exact⟨"cases",p,.tup ps,k*(wP k n+1),e,xp _ (by simp[xI]),hp,vO (fun q hq=>rO hk (h q hq)) (Nat.le_of_eq hl),by rw[wP,Nat.mul_succ];omega,.inr ⟨rfl,n,ps,rfl,rfl,hl,h⟩⟩
theorem Yc{d:Nat}(h:d<41):Da 0 100 (.str (toString (d:Int))):=by
 have:∀d:Nat,d<41→(∀c∈(toString (d:Int):Str).cps.toList,c<16 ^ 8)∧(toString (d:Int):Str).cps.size≤100∧PyData.strOk (toString (d:Int))=true:=by decide +kernel
 obtain⟨h1,h2,h3⟩:=this d h
 exact nz h1 h2 h3
end
end M
end
section
namespace M
open PySem
section
variable {T:Tbl}{Φ:Calls}{s:Sto}
theorem bD{G:Str→Option Val}{env env':Env}{is:List Nat}{e:Ex}{cs:Sms}{v:Val}{s1:Sto}{P:Fl→Sto→Prop}(h:evE Φ G env e s=.ok v s1)(hb:yg (.nms is) v env=some env')(k:(zf Φ G env' cs s1).post P):(zf Φ G env (.cons (.asgT is e) cs) s).post P:=zi.mpr (gq.mpr (by rw[h];exact zE.mpr ⟨_,hb,k⟩))
theorem qh{n:Nat}(cD:lO Φ)(cB:∀m,n=m+1→nY m Φ){p k deep:Nat}{v:Val}(hp:y8 s p)(hk:1≤k)(hk3:k≤3)(hv:Pap k n v):(run T Φ F31.yd [.ref p,v,.int deep] s).post fun u s'=>Da (2*n+2) (2*wP k n+400) u∧yM s p s':=by
 have L1:∀n,n<100→n≤zO:=fun n h=>by unfold zO;omega
 have hpl:=hp.lt
 obtain⟨w,f,o,WO,rfl,hw,hf,hO,hWO,hkind⟩:=fD hk hv
 have end':∀{u:Val} {s':Sto},yM s p s'→Da (2*n+2) (2*wP k n+400) u→(zb false s u s').post fun u s'=>Da (2*n+2) (2*wP k n+400) u∧yM s p s':=fun{u s'} t h=>by
  rw[su t h.t.nr];exact zE.mpr ⟨h,t⟩
 have hF:Da 0 100 (.int (f:Int)):=yN (by omega) (by omega)
 rw[F31.yd,xg]
 refine⟨rfl,?_⟩
 show (zf Φ T.gl [some (.ref p),some (.tup [.str w,.int f,o]),some (.int deep),none,none,none,none,none,none,none,none,none] _ s).post _
 have q0:∀(x:Str) (s:Sto),zV .eq (.str w) (.str x) s=.ok (.bool (decide (w=x))) s:=fun x s=>rfl
 by_cases hc:w=Str.ofString "cases"∧0<deep
 . obtain⟨m,ps,rfl,rfl,hl,hps⟩:∃(m:Nat) (ps:List Val),n=m+1∧o=Val.tup ps∧ps.length=k∧∀q∈ps,Pap k m q:=by
    rcases hkind with⟨e,_⟩|⟨_,h⟩
    . rw[hc.1]at e;exact absurd e (by decide +kernel)
    . exact h
   refine zr ((uC (zJ (zW (ze (zB rfl) zD rfl) zD (q0 _ _)) zF) (zJ (zW (zB rfl) zD gt_int) zF)).trans (by rw[decide_eq_true hc.1,decide_eq_true (by omega)];rfl)) ?_
   refine vT (yb (zA (zB rfl) (zA (zU (zA (ze (zB rfl) zD rfl) zC) yr) zC)) (zI (cD p _ s hp (by omega) (by omega)) ?_))
   rintro u s1 ⟨a,rfl,ha,t1⟩
   have ha':a<ps.length:=by omega
   have hix:xT (.tup ps) (.int a) s1=.ok ps[a] s1:=by
    show (match L2.atI ps (a:Int) with|some v=>Out.ok v s1|Option.none=>.stuck)=_
    rw[L2.vY (List.getElem?_eq_getElem ha')]
   refine vT (yb (zA (zB rfl) (zA (ze (ze (zB rfl) zD rfl) (zB rfl) hix) (zA (zp (zB rfl) zD (uy.trans (by rw[show ((deep:Int)-1)=((deep-1:Nat):Int) by omega]))) zC))) (zI (cB m rfl p k (deep-1) ps[a] s1 (t1.at_ hpl) hk hk3 (hps _ (List.getElem_mem ha'))) ?_))
   rintro u s2 ⟨hu,t2⟩
   have c1:xR ps none (some (a:Int))=ps.take a:=t6 (by omega)
   have c2:xR ps (some ((a:Int)+1)) none=ps.drop (a+1):=by
    rw[show ((a:Int)+1)=((a+1:Nat):Int) by omega];exact pJ (by omega)
   have l1:=List.length_take_le a ps
   have l2:(ps.drop (a+1)).length=ps.length-(a+1):=List.length_drop
   have l3:(ps.take a).length=a:=by rw[List.length_take];omega
   refine zX (zj (zA zD (zA (ze (zB rfl) zD rfl) (zA (zp (zp (oF (ze (zB rfl) zD rfl) vI (uc (zB rfl)) vI uB) (zj (zA (zB rfl) zC) (L1 1 (by omega))) (xX (by rw[c1];show _+1≤zO;unfold zO;omega))) (oF (ze (zB rfl) zD rfl) (uc (zp (zB rfl) zD ux)) vI vI uB) (xX (by rw[c1,c2,List.length_append];show _+1+_≤zO;unfold zO;omega))) zC))) (L1 3 (by omega))) (end' (t1.trans t2) ?_)
   rw[c1,c2]
   have hin:∀x∈(ps.take a++[u])++ps.drop (a+1),Da (2*m+2) (2*wP k m+400) x:=fun x hx=>by
    rcases List.mem_append.mp hx with hx|hx
    . rcases List.mem_append.mp hx with hx|hx
      . exact(rO hk (hps x (List.mem_of_mem_take hx))).mono (by omega) (by omega)
      . rw[List.mem_singleton.mp hx];exact hu
    . exact(rO hk (hps x (List.mem_of_mem_drop hx))).mono (by omega) (by omega)
   have t:=vO (n:=k) hin (by rw[List.length_append,List.length_append,List.length_singleton];omega)
   refine(w4 (k:=2*m+3) ((xp (.str "cases") (by simp[xI])).mono (Nat.zero_le _) (Nat.le_refl _)) (hF.mono (Nat.zero_le _) (Nat.le_refl _)) t).mono (by omega) ?_
   have:k*(2*wP k m+400+1)≤2*(k*wP k m)+1203:=by
    rw[show k*(2*wP k m+400+1)=2*(k*wP k m)+k*401 by rw[Nat.add_assoc,Nat.mul_add,Nat.mul_left_comm]]
    omega
   show 100+100+k*(2*wP k m+400+1)+3≤2*(k*wP k m+k+1000)+400
   omega
 . have hcb:(decide (w=Str.ofString "cases")&&decide ((0:Int)<(deep:Int)))=false:=by
    by_cases e:w=Str.ofString "cases"
    . rw[decide_eq_false (show ¬(0:Int)<(deep:Int) from fun q=>hc ⟨e,by omega⟩),Bool.and_false]
    . rw[decide_eq_false e,Bool.false_and]
   refine zu ((uC (zJ (zW (ze (zB rfl) zD rfl) zD (q0 _ _)) zF) (zJ (zW (zB rfl) zD gt_int) zF)).trans (by rw[hcb])) ?_
   refine zi.mpr (ox.mpr (vQ.mpr (yb (zA (zB rfl) (zA zD zC)) (zI (cD p 7 s hp (by omega) (by omega)) ?_))))
   rintro u s1 ⟨way,rfl,hway,t1⟩
   refine vQ.mpr (yb (zA (zB rfl) (zA zD zC)) (zI (cD p 8 s1 (t1.at_ hpl) (by omega) (by omega)) ?_))
   rintro u s2 ⟨to,rfl,hto,t2'⟩
   have t2:=t1.trans t2'
   refine ow.mpr (sH rfl ?_)
   show (zf Φ T.gl [some (.ref p),some (.tup [.str w,.int f,o]),some (.int deep),none,none,some (.int way),some (.int to),none,none,none,none,none] _ s2).post _
   refine bD (env':=[some (.ref p),some (.tup [.str w,.int f,o]),some (.int deep),none,none,some (.int way),some (.int to),some (.str w),some (.int f),some o,none,none]) (zB rfl) rfl ?_
   obtain⟨od,hod⟩:∃v,(dz (f:Int))[to]?=some v:=⟨_,List.getElem?_eq_getElem (show to<(dz (f:Int)).length by show to<8;omega)⟩
   obtain⟨wd,hwd⟩:∃v,xI[to]?=some v:=⟨_,List.getElem?_eq_getElem (show to<xI.length by show to<8;omega)⟩
   have dod:=Zp (by omega) (by omega) od (List.mem_of_getElem? hod)
   have dwd:=xp wd (List.mem_of_getElem? hwd)
   refine xG (ze (xq (zA zD (zA zD (zA (y7 zD) (zA zD (zA (zj (zA zD zC) (L1 1 (by omega))) (zA (zp zD zD rfl) (zA zD (zA (zp (zB rfl) zD ux) zC)))))))) (L1 8 (by omega))) (zB rfl) (vP hod)) ?_
   refine xG (xq (vs:=xI) (zA zD (zA zD (zA zD (zA zD (zA zD (zA zD (zA zD (zA zD zC)))))))) (L1 8 (by omega))) ?_
   clear hod
   show (zf Φ T.gl [some (.ref p),some (.tup [.str w,.int f,o]),some (.int deep),none,none,some (.int way),some (.int to),some (.str w),some (.int f),some o,some od,some (.lst xI)] _ s2).post _
   have tw:∀{x:Nat},evT Φ T.gl [some (.ref p),some (.tup [.str w,.int f,o]),some (.int deep),none,none,some (.int way),some (.int to),some (.str w),some (.int f),some o,some od,some (.lst xI)] (.val (.cmp .eq (.var 5) (.lit (.int (x:Int))))) s2=.ok (decide (way=x)) s2:=fun{x}=>zJ (zW (zB rfl) zD eq_int) (by rw[zF,decide_eq_decide.mpr Int.ofNat_inj])
   have up:∀{k' w':Nat} {v:Val},k'≤1→Da k' w' v→Da (2*n+1) w' v:=fun h d=>d.mono (by omega) (Nat.le_refl _)
   have hO1:Da (2*n+1) WO o:=hO.mono (by omega) (Nat.le_refl _)
   by_cases w0:way=0
   . exact zr ((tw (x:=0)).trans (by rw[decide_eq_true w0])) (zX (zj (zA (ze (zB rfl) (zB rfl) (vP hwd)) (zA (zB rfl) (zA (zB rfl) zC))) (L1 3 (by omega))) (end' t2 ((w4 (up (by omega) dwd) (up (by omega) hF) hO1).mono (by omega) (by omega))))
   refine zu ((tw (x:=0)).trans (by rw[decide_eq_false w0])) ?_
   by_cases w1:way=1
   . exact zr ((tw (x:=1)).trans (by rw[decide_eq_true w1])) (zX (zj (zA (zB rfl) (zA (zB rfl) (zA (zB rfl) zC))) (L1 3 (by omega))) (end' t2 ((w4 (up (by omega) hw) (up (by omega) dod) hO1).mono (by omega) (by omega))))
   refine zu ((tw (x:=1)).trans (by rw[decide_eq_false w1])) ?_
   by_cases w2:way=2
   . rcases hkind with⟨rfl,d,hd,rfl⟩|⟨rfl,m,ps,rfl,rfl,hl,hps⟩
     . have l8:∀x∈[Val.int ((d:Int)+1),.int 0,.int (-1),.bool true,.none,.str (toString (d:Int)),.tup [.int d],.int ((d:Int)-1)],Da 1 101 x:=fun x hx=>by
        simp only[List.mem_cons,List.not_mem_nil,or_false]at hx
        rcases hx with rfl|rfl|rfl|rfl|rfl|rfl|rfl|rfl
        . exact(yN (by omega) (by omega)).mono (by omega) (by omega)
        . exact(yN (by decide) (by decide)).mono (by omega) (by omega)
        . exact(yN (by decide) (by decide)).mono (by omega) (by omega)
        . exact(lX _).mono (by omega) (by omega)
        . exact uL.mono (by omega) (by omega)
        . exact(Yc (by omega)).mono (by omega) (by omega)
        . exact(vO (n:=1) (k:=0) (w:=100) (vs:=[.int (d:Int)]) (fun v hv=>by rw[List.mem_singleton.mp hv];exact yN (by omega) (by omega)) (Nat.le_refl 1)).mono (by omega) (by omega)
        . exact(yN (by omega) (by omega)).mono (by omega) (by omega)
       obtain⟨y,hy⟩:∃y,[Val.int ((d:Int)+1),.int 0,.int (-1),.bool true,.none,.str (toString (d:Int)),.tup [.int d],.int ((d:Int)-1)][to]?=some y:=⟨_,List.getElem?_eq_getElem (show to<8 by omega)⟩
       have hst:blt .str false [.int (d:Int)] s2=.ok (.str (toString (d:Int))) s2:=by
        simp only[blt]
        rw[if_pos]
        have:∀d:Nat,d<40→(d:Int).natAbs.log2<1920:=by decide +kernel
        exact this d hd
       exact zr ((uC (tw (x:=2)) (zJ (zW (zB rfl) zD (q0 _ _)) zF)).trans (by rw[decide_eq_true w2];rfl)) (zX (zj (zA (zB rfl) (zA (zB rfl) (zA (ze (xq (zA (zp (zB rfl) zD ux) (zA zD (zA (y7 zD) (zA zD (zA zD (zA (zU (zA (zB rfl) zC) hst) (zA (zj (zA (zB rfl) zC) (L1 1 (by omega))) (zA (zp (zB rfl) zD uy) zC)))))))) (L1 8 (by omega))) (zB rfl) (vP hy)) zC))) (L1 3 (by omega))) (end' t2 ((w4 (up (by omega) hw) (up (by omega) hF) (up (by omega) (l8 y (List.mem_of_getElem? hy)))).mono (by omega) (by have:=oE hk n;omega))))
     . have l1:ps.length≤3:=by omega
       have l0:1≤ps.length:=by omega
       obtain⟨rs,hrs,hrm,hrl⟩:∃rs,vU false (.tup ps) none none (some (-1)) s2=.ok (.tup rs) s2∧(∀x∈rs,x∈ps)∧rs.length≤ps.length:=by
        match ps,l1,l0 with
        |[a],_,_=>exact⟨[a],(if_pos ⟨by decide,show (L2.yP 1 none none (-1)).2≤zO by decide +kernel⟩).trans (by rw[show L2.yP ([a]:List Val).length none none (-1)=(0,1) from (by decide +kernel:L2.yP 1 none none (-1)=(0,1))];rfl),fun x h=>h,Nat.le_refl _⟩
        |[a,b],_,_=>exact⟨[b,a],(if_pos ⟨by decide,show (L2.yP 2 none none (-1)).2≤zO by decide +kernel⟩).trans (by rw[show L2.yP ([a,b]:List Val).length none none (-1)=(1,2) from (by decide +kernel:L2.yP 2 none none (-1)=(1,2))];rfl),fun x h=>by simp at h ⊢;exact h.symm,Nat.le_refl _⟩
        |[a,b,c],_,_=>exact⟨[c,b,a],(if_pos ⟨by decide,show (L2.yP 3 none none (-1)).2≤zO by decide +kernel⟩).trans (by rw[show L2.yP ([a,b,c]:List Val).length none none (-1)=(2,3) from (by decide +kernel:L2.yP 3 none none (-1)=(2,3))];rfl),fun x h=>by
         simp only[List.mem_cons,List.not_mem_nil,or_false]at h ⊢
         rcases h with h|h|h
         . exact .inr (.inr h)
         . exact .inr (.inl h)
         . exact .inl h,Nat.le_refl _⟩
       obtain⟨q,hq⟩:∃q,ps[0]?=some q:=⟨_,List.getElem?_eq_getElem l0⟩
       have hq0:xT (.tup ps) (.int 0) s2=.ok q s2:=by
        show (match L2.atI ps (0:Int) with|some v=>Out.ok v s2|Option.none=>.stuck)=_
        rw[show (0:Int)=((0:Nat):Int) from rfl,L2.vY hq]
       have c1:=t7 (xs:=ps) (lo:=none) (hi:=some (-1))
       have c2:=t7 (xs:=ps) (lo:=none) (hi:=some 1)
       have dp:∀x∈ps,Da (2*m+1) (wP k m) x:=fun x hx=>rO hk (hps x hx)
       have big:(k+1)*(wP k m+1)≤2*(k*wP k m)+4:=by
        have h1:wP k m≤k*wP k m:=Nat.le_mul_of_pos_left _ hk
        rw[Nat.mul_add,Nat.add_mul]
        omega
       have one:wP k m≤2*(k*wP k m)+4:=by
        have h1:wP k m≤k*wP k m:=Nat.le_mul_of_pos_left _ hk
        omega
       have dt:∀{ws:List Val},(∀x∈ws,x∈ps)→ws.length≤k+1→Da (2*m+3) (2*(k*wP k m)+4) (.tup ws)∧Da (2*m+3) (2*(k*wP k m)+4) (.lst ws):=fun h1 h2=>⟨(vO (fun x hx=>dp x (h1 x hx)) h2).mono (by omega) big,(nv (fun x hx=>dp x (h1 x hx)) h2).mono (by omega) big⟩
       have l8:∀x∈[Val.tup rs,.tup (xR ps none (some (-1))),.tup (ps++xR ps none (some 1)),.lst ps,.none,q,.tup [],.int 0],Da (2*m+3) (2*(k*wP k m)+104) x:=fun x hx=>by
        simp only[List.mem_cons,List.not_mem_nil,or_false]at hx
        rcases hx with rfl|rfl|rfl|rfl|rfl|rfl|rfl|rfl
        . exact(dt hrm (by omega)).1.mono (Nat.le_refl _) (by omega)
        . exact(dt (fun x hx=>lW hx) (by omega)).1.mono (Nat.le_refl _) (by omega)
        . refine(dt (fun x hx=>(List.mem_append.mp hx).elim id fun h=>lW h) ?_).1.mono (Nat.le_refl _) (by omega)
          have:(xR ps none (some 1)).length≤1:=by
           rw[show (some (1:Int))=some ((1:Nat):Int) from rfl,t6 l0,List.length_take];omega
          rw[List.length_append];omega
        . exact(dt (fun x hx=>hx) (by omega)).2.mono (Nat.le_refl _) (by omega)
        . exact uL.mono (by omega) (by omega)
        . exact(dp _ (List.mem_of_getElem? hq)).mono (by omega) (by omega)
        . exact(dt (ws:=[]) (fun x hx=>by cases hx) (Nat.zero_le _)).1.mono (Nat.le_refl _) (by omega)
        . exact(yN (by decide) (by decide)).mono (by omega) (by omega)
       obtain⟨y,hy⟩:∃y,[Val.tup rs,.tup (xR ps none (some (-1))),.tup (ps++xR ps none (some 1)),.lst ps,.none,q,.tup [],.int 0][to]?=some y:=⟨_,List.getElem?_eq_getElem (show to<8 by omega)⟩
       refine zu ((uC (tw (x:=2)) (zJ (zW (zB rfl) zD (q0 _ _)) zF)).trans (by rw[decide_eq_true w2];rfl)) (zr ((tw (x:=2)).trans (by rw[decide_eq_true w2])) (zX (zj (zA (zB rfl) (zA (zB rfl) (zA (ze (xq (zA (oF (zB rfl) vI vI (uc (y7 zD)) hrs) (zA (oF (zB rfl) vI (uc (y7 zD)) vI uB) (zA (zp (zB rfl) (oF (zB rfl) vI (uc zD) vI uB) (xX (by unfold zO;omega))) (zA (zU (zA (zB rfl) zC) rfl) (zA zD (zA (ze (zB rfl) zD hq0) (zA (zj zC (L1 0 (by omega))) (zA zD zC)))))))) (L1 8 (by omega))) (zB rfl) (vP hy)) zC))) (L1 3 (by omega))) (end' t2 ((w4 (hw.mono (Nat.zero_le _) (Nat.le_refl _)) (hF.mono (Nat.zero_le _) (Nat.le_refl _)) (l8 y (List.mem_of_getElem? hy))).mono (by omega) ?_))))
       show 100+100+(2*(k*wP k m)+104)+3≤2*(k*wP k m+k+1000)+400
       omega
   . have hwt:(Val.str w).d.weight≤100:=hw.t.lf.wt
     have hft:(Val.int (f:Int)).d.weight≤100:=hF.t.lf.wt
     have hot:o.d.weight≤WO:=hO.t.lf.wt
     have hzt:(Val.int 0).d.weight≤100:=(yN (i:=0) (by decide) (by decide)).t.lf.wt
     have mem3:∀x∈[Val.str w,.int (f:Int),o],∃w,Da (2*n) w x:=fun x hx=>by
      simp only[List.mem_cons,List.not_mem_nil,or_false]at hx
      rcases hx with rfl|rfl|rfl
      . exact⟨_,hw.mono (Nat.zero_le _) (Nat.le_refl _)⟩
      . exact⟨_,hF.mono (Nat.zero_le _) (Nat.le_refl _)⟩
      . exact⟨_,hO⟩
     have d3:=nu (W:=wP k n) mem3 (by rw[ds,ds,ds,ds,PyData.weightAll,PyData.weightAll,PyData.weightAll,PyData.weightAll];omega)
     have d2:=(nu (W:=wP k n) (vs:=[Val.str w,.int (f:Int)]) (fun x hx=>mem3 x (by
      simp only[List.mem_cons,List.not_mem_nil,or_false]at hx ⊢
      rcases hx with h|h
      . exact .inl h
      . exact .inr (.inl h))) (by rw[ds,ds,ds,PyData.weightAll,PyData.weightAll,PyData.weightAll];omega)).1
     have d4:=(nu (W:=wP k n+101) (vs:=[Val.str w,.int (f:Int),o,.int 0]) (fun x hx=>by
      simp only[List.mem_cons,List.not_mem_nil,or_false]at hx
      rcases hx with h|h|h|rfl
      . exact mem3 x (by simp[h])
      . exact mem3 x (by simp[h])
      . exact mem3 x (by simp[h])
      . exact⟨_,(yN (by decide) (by decide)).mono (Nat.zero_le _) (Nat.le_refl _)⟩) (by rw[ds,ds,ds,ds,ds,PyData.weightAll,PyData.weightAll,PyData.weightAll,PyData.weightAll,PyData.weightAll];omega)).1
     have d1:=vO (n:=1) (vs:=[.tup [.str w,.int (f:Int),o]]) (fun x hx=>by rw[List.mem_singleton.mp hx];exact d3.1) (Nat.le_refl 1)
     have l4:∀x∈[Val.lst [.str w,.int (f:Int),o],.tup [.str w,.int (f:Int)],.tup [.str w,.int (f:Int),o,.int 0],.tup [.tup [.str w,.int (f:Int),o]]],Da (2*n+2) (2*wP k n+400) x:=fun x hx=>by
      simp only[List.mem_cons,List.not_mem_nil,or_false]at hx
      rcases hx with rfl|rfl|rfl|rfl
      . exact d3.2.mono (by omega) (by omega)
      . exact d2.mono (by omega) (by omega)
      . exact d4.mono (by omega) (by omega)
      . exact d1.mono (by omega) (by omega)
     obtain⟨y,hy⟩:∃y,[Val.lst [.str w,.int (f:Int),o],.tup [.str w,.int (f:Int)],.tup [.str w,.int (f:Int),o,.int 0],.tup [.tup [.str w,.int (f:Int),o]]][way-3]?=some y:=⟨_,List.getElem?_eq_getElem (show way-3<4 by omega)⟩
     exact zu ((uC (tw (x:=2)) (zJ (zW (zB rfl) zD (q0 _ _)) zF)).trans (by rw[decide_eq_false w2];rfl)) (zu ((tw (x:=2)).trans (by rw[decide_eq_false w2])) (zX (ze (xq (zA (zU (zA (zB rfl) zC) rfl) (zA (oF (zB rfl) vI (uc zD) vI uB) (zA (zp (zB rfl) (zj (zA zD zC) (L1 1 (by omega))) (xX (L1 4 (by omega)))) (zA (zj (zA (zB rfl) zC) (L1 1 (by omega))) zC)))) (L1 4 (by omega))) (zp (zB rfl) zD (uy.trans (by rw[show ((way:Int)-3)=((way-3:Nat):Int) by omega]))) (vP hy)) (end' t2 (l4 y (List.mem_of_getElem? hy)))))
end
end M
end
section
namespace M
open PySem
theorem wX:∀(fs:List Int) (k:Nat),(yT k fs).length=(fs.map Val.int).countP fun z=>eqF z (.int (-1))
 |[],_=>rfl
 |v::fs,k=>by
  unfold yT
  rw[List.map_cons,List.countP_cons,←wX fs (k+1)]
  by_cases h:v=-1
  . rw[if_pos h,List.length_cons,if_pos (show eqF (.int v) (.int (-1))=true by rw[h];rfl)]
  . rw[if_neg h,if_neg (show ¬eqF (.int v) (.int (-1))=true from fun q=>h (of_decide_eq_true q))];rfl
section
variable {T:Tbl}{Φ:Calls}{s:Sto}
noncomputable def iP(n:Nat)(Φ:Calls):Prop:=∀(zs ds:List Int) (v:Val) (s:Sto),Sz zs→Df zs ds→Dt n v→Φ "is_paper" 0 [tpI zs,tpI ds,v] s=.ok (.bool (zP zs n ds v)) s
theorem iy{zs ds:List Int}(h:Df zs ds):wB zs (tpI ds)=true:=by
 rw[iz,List.length_map,decide_eq_true h.1,sO fun x hx=>by have:=h.2 x hx;omega];rfl
theorem j7{n:Nat}(cN:tK Φ)(cS:qy n Φ){zs ds:List Int}{v:Val}(hz:Sz zs)(hd:Df zs ds)(hv:Dt n v):run T Φ F31.xO [tpI zs,tpI ds,v] s=.ok (.bool (zP zs n ds v)) s:=by
 rw[post_eq,F31.xO,xg]
 refine⟨rfl,?_⟩
 show (zf Φ T.gl [some (tpI zs),some (tpI ds),some v] _ s).post _
 refine sJ (x_call (zA (zB rfl) (zA (zB rfl) zC)) (cN zs ds s hz (iy hd))) (zX (x_call (zA (zB rfl) (zA (zB rfl) (zA (zB rfl) zC))) (cS zs ds v s hz hd hv)) ?_)
 show (zb false s _ s).post _
 rw[zt yt]
 exact zE.mpr ⟨rfl,rfl⟩
noncomputable def n4:List (List Int):=[[3,3],[3,3],[2,3],[3,2],[2,2,3],[3,4],[4,3],[2,2],[3],[2,2,2],[3,3,2],[2,4]]
noncomputable def bb(Φ:Calls):Prop:=∀(p:Nat) (s:Sto),y8 s p→(Φ "_law_few" 0 [.ref p] s).post fun v s'=>∃zs,v=tpI zs∧Sz zs∧zs.length≤3∧yM s p s'
theorem fo(cD:lO Φ){p:Nat}(hp:y8 s p):(run T Φ F31.xM [.ref p] s).post fun v s'=>∃zs,v=tpI zs∧Sz zs∧zs.length≤3∧yM s p s':=by
 have L1:∀n,n<100→n≤zO:=fun n h=>by unfold zO;omega
 have e2:∀(env:Env) (s:Sto) (a b:Int),evE Φ T.gl env (.tup (.cons (.lit (.int a)) (.cons (.lit (.int b)) .nil))) s=.ok (tpI [a,b]) s:=fun env s a b=>zj (zA zD (zA zD zC)) (L1 2 (by omega))
 have e3:∀(env:Env) (s:Sto) (a b c:Int),evE Φ T.gl env (.tup (.cons (.lit (.int a)) (.cons (.lit (.int b)) (.cons (.lit (.int c)) .nil)))) s=.ok (tpI [a,b,c]) s:=fun env s a b c=>zj (zA zD (zA zD (zA zD zC))) (L1 3 (by omega))
 rw[F31.xM,xg]
 refine⟨rfl,?_⟩
 show (zf Φ T.gl [some (.ref p),none] _ s).post _
 refine xG (xq (vs:=n4.map tpI) (zA (e2 _ _ _ _) (zA (e2 _ _ _ _) (zA (e2 _ _ _ _) (zA (e2 _ _ _ _) (zA (e3 _ _ _ _ _) (zA (e2 _ _ _ _) (zA (e2 _ _ _ _) (zA (e2 _ _ _ _) (zA (zj (zA zD zC) (L1 1 (by omega))) (zA (e3 _ _ _ _ _) (zA (e3 _ _ _ _ _) (zA (e2 _ _ _ _) zC)))))))))))) (L1 12 (by omega))) ?_
 refine zi.mpr (g8.mpr (Xw.mpr ?_))
 rw[zB (v:=.lst (n4.map tpI)) rfl]
 refine zE.mpr (yb (zA (zB rfl) (zA zD zC)) (zI (cD p 12 s hp (by omega) (by omega)) ?_))
 rintro v s1 ⟨r,rfl,hr,t1⟩
 have hr':r<n4.length:=by show r<12;omega
 have hm:∀zs∈n4,Sz zs∧zs.length≤3:=by
  have:∀zs∈n4,((1≤zs.length∧zs.length≤4)∧zs.length≤3)∧∀x∈zs,2≤x∧x≤8:=by decide +kernel
  exact fun zs h=>⟨⟨(this zs h).1.1.1,(this zs h).1.1.2,(this zs h).2⟩,(this zs h).1.2⟩
 have:=hm _ (List.getElem_mem hr')
 rw[vP (v:=tpI n4[r]) (by rw[List.getElem?_map,List.getElem?_eq_getElem hr'];rfl)]
 refine zE.mpr ?_
 show (zb false s (tpI n4[r]) s1).post _
 rw[su t1 (by rw[v5];exact wO _)]
 exact zE.mpr ⟨_,rfl,this.1,this.2,t1⟩
end
end M
end
section
namespace M
open PySem
section
variable {T:Tbl}{Φ:Calls}{s:Sto}
theorem Zn{q:Nat}{fs:List Int}{y:Int}{s:Sto}(h:s[q]?=some (.lst (fs.map .int))):yY .count (.ref q) [.int y] s=.ok (.int ((fs.map Val.int).countP fun z=>eqF z (.int y))) s:=by
 simp only[yY,yV,h]
 exact if_pos (by rw[ve];rfl)
theorem Yu{G:Str→Option Val}{env:Env}{f:Mf}{m:Bool}{o:Ex}{es:Exs}{x:Val}{vs:List Val}{s1 s2:Sto}{r:Out Val}(h1:evE Φ G env o s=.ok x s1)(h2:yp Φ G env es s1=.ok vs s2)(h3:yY f x vs s2=r):evE Φ G env (.yY f m o es) s=r:=bnd h1 (bnd h2 h3)
noncomputable def bf(Φ:Calls):Prop:=∀(p:Nat) (zs:List Int) (m n:Nat) (s:Sto),y8 s p→Sz zs→m≤32→n≤100→(Φ "_law_knot" 0 [.ref p,tpI zs,.int m,.int n] s).post fun v s'=>∃ns,v=tpI ns∧Dr zs ns∧(yT 0 ns).length≤n∧ns.length≤m∧yM s p s'
theorem ft(cD:lO Φ)(cE:iM Φ){p:Nat}{zs:List Int}{m n:Nat}(hp:y8 s p)(hz:Sz zs)(hm:m≤32)(hn:n≤100):(run T Φ F31.y1 [.ref p,tpI zs,.int m,.int n] s).post fun v s'=>∃ns,v=tpI ns∧Dr zs ns∧(yT 0 ns).length≤n∧ns.length≤m∧yM s p s':=by
 have L1:∀n,n<100→n≤zO:=fun n h=>by unfold zO;omega
 have hpl:=hp.lt
 have hz1:=hz.1
 have hz4:=hz.2.1
 have hl:∀s,blt .len false [tpI zs] s=.ok (.int zs.length) s:=fun s=>by rw[yr,List.length_map]
 rw[F31.y1,xg]
 refine⟨rfl,?_⟩
 show (zf Φ T.gl [some (.ref p),some (tpI zs),some (.int m),some (.int n),none,none,none,none,none,none,none,none] _ s).post _
 refine zi.mpr (ox.mpr (vQ.mpr (gr.mpr ?_)))
 rw[zD]
 refine zE.mpr (yb (zA (zB rfl) (zA zD zC)) (zI (cD p 5 s hp (by omega) (by omega)) ?_))
 rintro v s1 ⟨sh,rfl,hsh,t1⟩
 rw[ux]
 refine zE.mpr (vQ.mpr (yb (zA (zB rfl) (zA (zp (zB rfl) zD ux) zC)) (zI (cD p _ s1 (t1.at_ hpl) (by omega) (by omega)) ?_)))
 rintro v s2 ⟨len,rfl,hlen,t2'⟩
 have t2:=t1.trans t2'
 have hlen':len≤m:=by omega
 refine ow.mpr (sH rfl ?_)
 show (zf Φ T.gl [some (.ref p),some (tpI zs),some (.int m),some (.int n),some (.int (2+(sh:Int))),some (.int len),none,none,none,none,none,none] _ s2).post _
 refine xG (s1:=s2++[.lst []]) (v:=.ref s2.length) (bnd zC rfl) ?_
 show (zf Φ T.gl [some (.ref p),some (tpI zs),some (.int m),some (.int n),some (.int (2+(sh:Int))),some (.int len),some (.ref s2.length),none,none,none,none,none] _ (s2++[.lst []])).post _
 have fin':∀{sp:Sto} {fs:List Int},yM s p sp→(∀x∈fs,(-1:Int)≤x∧x<zs.length)→fs.length≤len→(fs.map Val.int).countP (fun z=>eqF z (.int (-1)))≤n→(zb false s (tpI fs) (sp++[.lst (fs.map .int)])).post fun v s'=>∃ns,v=tpI ns∧Dr zs ns∧(yT 0 ns).length≤n∧ns.length≤m∧yM s p s':=fun{sp fs} tp h1 h2 h3=>by
  rw[qX tp (by rw[v5];exact wO _)]
  exact zE.mpr ⟨fs,rfl,⟨by omega,h1⟩,by rw[wX];exact h3,by omega,tp⟩
 refine zi.mpr (xV (fun rest e s'=>(∃o7 o8 o9 o10 o11,e=[some (.ref p),some (tpI zs),some (.int m),some (.int n),some (.int (2+(sh:Int))),some (.int len),some (.ref s2.length),o7,o8,o9,o10,o11])∧∃sp fs,yM s p sp∧s'=sp++[.lst (fs.map .int)]∧(∀x∈fs,(-1:Int)≤x∧x<zs.length)∧fs.length+rest.length=len∧(fs.map Val.int).countP (fun z=>eqF z (.int (-1)))≤n) (zy 0 len) (s1:=s2++[.lst []]) (kE (zB rfl) (L1 _ (by omega))) ⟨⟨_,_,_,_,_,rfl⟩,s2,[],t2,rfl,nofun,by unfold zy;simp,Nat.zero_le _⟩ ?_ ?_)
 . rintro x rest e s' ⟨⟨o7,o8,o9,o10,o11,rfl⟩,sp,fs,tp,rfl,hfs,hl2,hc⟩
   rw[List.length_cons]at hl2
   have lp:sp.length=s.length:=tp.len
   have lq:s2.length=sp.length:=by rw[t2.len,lp]
   refine⟨_,rfl,?_⟩
   refine zi.mpr (ox.mpr (vQ.mpr (yb (zA (zB rfl) (zA (zU (zA (zB rfl) zC) (hl _)) zC)) (zI (cD p zs.length (sp++[.lst (fs.map .int)]) ((tp.at_ hpl).up _) (by omega) (by omega)) ?_))))
   rintro v s4 ⟨h0,rfl,hh0,t4⟩
   obtain⟨sq,tq,rfl⟩:=t4.app (by rw[lp];exact hpl)
   have lsq:sq.length=sp.length:=tq.len
   have tsq:=tp.trans tq
   refine vQ.mpr (b8.mpr (yb (zA (zB rfl) (zA (zB rfl) zC)) (zI (cD p (2+sh) (sq++[.lst (fs.map .int)]) ((tsq.at_ hpl).up _) (by omega) (by omega)) ?_)))
   rintro v s5 ⟨r5,rfl,hr5,t5⟩
   obtain⟨sr,tr,rfl⟩:=t5.app (by rw[lsq,lp];exact hpl)
   have lsr:sr.length=sp.length:=by rw[tr.len,lsq]
   have tsr:=tsq.trans tr
   have hcell:(sr++[Cel.lst (fs.map Val.int)])[s2.length]?=some (.lst (fs.map .int)):=by rw[lq,←lsr];simp
   rw[zD]
   refine zE.mpr ?_
   rw[eq_int]
   refine zE.mpr (ow.mpr (sH rfl ?_))
   generalize hskip:decide ((r5:Int)=0)=skip
   clear hskip
   show (zf Φ T.gl [some (.ref p),some (tpI zs),some (.int m),some (.int n),some (.int (2+(sh:Int))),some (.int len),some (.ref s2.length),some x,some (.int h0),some (.bool skip),o10,o11] _ (sr++[.lst (fs.map .int)])).post _
   refine xG (Wm (f:=fun k=>(((h0+k)%zs.length:Nat):Int)) (e0:=[some (.int h0),some (tpI zs)]) (kE (zU (zA (zB rfl) zC) (hl _)) (L1 _ (by omega))) rfl (fun k o hk=>zp (zp (zB rfl) (zB rfl) ux) (zU (zA (zB rfl) zC) (hl _)) (show binOp false .mod (.int ((h0:Int)+(k:Int))) (.int zs.length) _=.ok (.int (((h0+k)%zs.length:Nat):Int)) _ from bmod (by omega))) (L1 _ (by omega))) ?_
   generalize hS:List.map (fun k=>(((h0+k)%zs.length:Nat):Int)) (List.range zs.length)=S
   have hSm:∀y∈S,∃h:Nat,y=h∧h<zs.length:=fun y hy=>by
    rw[←hS]at hy
    obtain⟨k,_,rfl⟩:=List.mem_map.mp hy
    exact⟨_,rfl,Nat.mod_lt _ (by omega)⟩
   have hSl:S.length≤4:=by rw[←hS,List.length_map,List.length_range];exact hz4
   clear hS
   show (zf Φ T.gl [some (.ref p),some (tpI zs),some (.int m),some (.int n),some (.int (2+(sh:Int))),some (.int len),some (.ref s2.length),some x,some (.int h0),some (.bool skip),some (.lst (S.map .int)),o11] _ (sr++[.lst (fs.map .int)])).post _
   refine vT (kK (fun rest e s' acc=>s'=sr++[.lst (fs.map .int)]∧(∃o,e=[o,some (.bool skip),some (tpI zs),some (.ref s2.length)])∧∃gs rs:List Int,acc=gs.map .int∧rest=rs.map .int∧(∀y∈rs,∃h:Nat,y=h∧h<zs.length)∧(∀y∈gs,(0:Int)≤y∧y<zs.length)∧gs.length+rs.length≤4) ?_)
   refine⟨⟨S.map .int,none⟩,sr++[.lst (fs.map .int)],si (zB rfl) rfl,⟨rfl,⟨_,rfl⟩,[],S,rfl,rfl,hSm,nofun,by simpa using hSl⟩,fun _ _ _ _ _=>rfl,?_,?_⟩
   . rintro y rest e s' acc ⟨rfl,⟨o,rfl⟩,gs,rs,rfl,hr,hrs,hgs,hgl⟩
     cases rs with
     |nil=>cases hr
     |cons z rs=>
      injection hr with hy hr
      subst hy
      subst hr
      obtain⟨h,rfl,hh⟩:=hrs z (.head _)
      refine⟨_,rfl,?_⟩
      obtain⟨_,_,eE,b,rfl,rfl⟩:=cE zs fs s2.length h (sr++[.lst (fs.map .int)]) hz hcell hh (by omega)
      rw[lC (uC (zl (zJ (zB rfl) zF)) (zl (zJ (x_call (zA (zB rfl) (zA (zB rfl) (zA (zB rfl) zC))) eE) zF)))]
      refine zE.mpr ?_
      rw[List.length_cons]at hgl
      cases (!skip&&!b) with
      |true=>
       rw[if_pos rfl,zB rfl]
       refine zE.mpr ⟨rfl,⟨_,rfl⟩,gs++[(h:Int)],rs,by rw[List.map_append];rfl,rfl,fun y hy=>hrs y (.tail _ hy),fun y hy=>?_,by rw[List.length_append,List.length_singleton];omega⟩
       rcases List.mem_append.mp hy with hy|hy
       . exact hgs y hy
       . rw[List.mem_singleton.mp hy];omega
      |false=>
       rw[if_neg Bool.false_ne_true]
       exact⟨rfl,⟨_,rfl⟩,gs,rs,rfl,rfl,fun y hy=>hrs y (.tail _ hy),hgs,by omega⟩
   . rintro e s' acc ⟨rfl,_,gs,rs,rfl,hr,hrs,hgs,hgl⟩
     refine zE.mpr ?_
     show (zf Φ T.gl [some (.ref p),some (tpI zs),some (.int m),some (.int n),some (.int (2+(sh:Int))),some (.int len),some (.ref s2.length),some x,some (.int h0),some (.bool skip),some (.lst (S.map .int)),some (.lst (gs.map .int))] _ (sr++[.lst (fs.map .int)])).post _
     have hT:=uC (Φ:=Φ) (G:=T.gl) (env:=[some (.ref p),some (tpI zs),some (.int m),some (.int n),some (.int (2+(sh:Int))),some (.int len),some (.ref s2.length),some x,some (.int h0),some (.bool skip),some (.lst (S.map .int)),some (.lst (gs.map .int))]) (s:=sr++[.lst (fs.map .int)]) (zJ (zW (zB (i:=11) rfl) (xq zC (L1 0 (by omega))) (eq_nil (x6 gs))) zF) (zJ (zW (Yu (m:=false) (zB (i:=6) rfl) (zA (y7 (i:=1) zD) zC) (Zn hcell)) (zB (i:=3) rfl) eq_int) zF)
     by_cases hb:((gs.map Val.int).isEmpty&&decide (((fs.map Val.int).countP (fun z=>eqF z (.int (-1))):Int)=(n:Int)))=true
     . have ht:blt .tuple false [.ref s2.length] (sr++[.lst (fs.map .int)])=.ok (tpI fs) (sr++[.lst (fs.map .int)]):=by
        simp only[blt,yV,hcell]
       exact zr (hT.trans (by rw[hb])) (zX (zU (zA (zB rfl) zC) ht) (fin' tsr hfs (by omega) hc))
     . rw[Bool.not_eq_true]at hb
       refine zu (hT.trans (by rw[hb])) ?_
       have go:∀{R:Fl→Sto→Prop} {v:Int},(-1:Int)≤v→v<zs.length→((gs.map Val.int)++[Val.int (-1)])[0]?=some (.int v)→(v=-1→(fs.map Val.int).countP (fun z=>eqF z (.int (-1)))<n)→(zf Φ T.gl [some (.ref p),some (tpI zs),some (.int m),some (.int n),some (.int (2+(sh:Int))),some (.int len),some (.ref s2.length),some x,some (.int h0),some (.bool skip),some (.lst (S.map .int)),some (.lst (gs.map .int))] (.cons (.expr (.yY .append false (.var 6) (.cons (.ix (.bin false .add (.var 11) (.lst false (.cons (.neg (.lit (.int 1))) .nil))) (.lit (.int 0))) .nil))) .nil) (sr++[.lst (fs.map .int)])).post (rZ (fun e s'=>(∃o7 o8 o9 o10 o11,e=[some (.ref p),some (tpI zs),some (.int m),some (.int n),some (.int (2+(sh:Int))),some (.int len),some (.ref s2.length),o7,o8,o9,o10,o11])∧∃(sp:Sto) (fs:List Int),yM s p sp∧s'=sp++[.lst (fs.map .int)]∧(∀x∈fs,(-1:Int)≤x∧x<zs.length)∧fs.length+rest.length=len∧(fs.map Val.int).countP (fun z=>eqF z (.int (-1)))≤n) R):=fun{R v} v0 v1 hv hvc=>by
        refine sJ (s1:=sr++[.lst ((fs++[v]).map .int)]) (v:=.none) (bnd (zB rfl) (bnd (zA (ze (zp (zB rfl) (xq (zA (y7 zD) zC) (L1 1 (by omega))) (bq (by rw[List.length_map];show _+1≤zO;unfold zO;omega))) zD (vP (k:=0) hv)) zC) ?_)) (wH ⟨⟨_,_,_,_,_,rfl⟩,sr,fs++[v],tsr,rfl,fun y hy=>?_,by rw[List.length_append,List.length_singleton];omega,?_⟩)
        . rw[show s2.length=sr.length by rw[lq,lsr],tx (by rw[List.length_map];unfold zO;omega),List.map_append];rfl
        . rcases List.mem_append.mp hy with hy|hy
          . exact hfs y hy
          . rw[List.mem_singleton.mp hy];exact⟨v0,v1⟩
        . rw[List.map_append,List.countP_append]
          by_cases e:v=-1
          . have:=hvc e
            have h1:([v].map Val.int).countP (fun z=>eqF z (.int (-1)))≤1:=List.countP_le_length
            omega
          . rw[show ([v].map Val.int).countP (fun z=>eqF z (.int (-1)))=0 from List.countP_eq_zero.mpr fun y hy=>by
             rw[List.mem_singleton.mp hy];exact fun q=>e (of_decide_eq_true q)]
            exact hc
       cases gs with
       |nil=>
        refine go (v:=-1) (by omega) (by omega) rfl fun _=>?_
        have:¬((fs.map Val.int).countP (fun z=>eqF z (.int (-1))):Int)=(n:Int):=of_decide_eq_false hb
        omega
       |cons g gs=>
        have:=hgs g (.head _)
        exact go (v:=g) (by omega) this.2 rfl fun e=>by omega
 . rintro e s' ⟨⟨o7,o8,o9,o10,o11,rfl⟩,sp,fs,tp,rfl,hfs,hl2,hc⟩
   have hl2:fs.length=len:=by simpa using hl2
   have lq:s2.length=sp.length:=by rw[t2.len,tp.len]
   have hcell:(sp++[Cel.lst (fs.map Val.int)])[s2.length]?=some (.lst (fs.map .int)):=by rw[lq];simp
   have ht:blt .tuple false [.ref s2.length] (sp++[.lst (fs.map .int)])=.ok (tpI fs) (sp++[.lst (fs.map .int)]):=by
    simp only[blt,yV,hcell]
   exact zX (zU (zA (zB rfl) zC) ht) (fin' tp hfs (by omega) hc)
end
end M
end
section
namespace M
open PySem Hd
noncomputable def uQ(h:Heap):KF:=(List.range h.objs.size).filterMap fun a=>(h.get? a).map fun o=>(a,o)
theorem sD{g:Addr→Option Obj}{a:Addr}:∀{l:List Addr},a∈l→(l.filterMap fun b=>(g b).map fun o=>(b,o)).lookup a=g a
 |b::r,hm=>by
  rw[List.filterMap_cons]
  by_cases e:a=b
  . subst e
    cases hg:g a with
    |none=>
     show (r.filterMap _).lookup a=none
     by_cases m:a∈r
     . rw[sD m,hg]
     . exact List.lookup_eq_none_iff.mpr fun p hp=>by
        obtain⟨c,hc,e⟩:=List.mem_filterMap.mp hp
        obtain⟨o,_,rfl⟩:=Option.map_eq_some_iff.mp e
        have z:a≠c:=fun z=>m (by rw[z];exact hc)
        simpa using z
    |some o=>show (List.lookup a ((a,o)::_))=_;rw[List.lookup_cons,beq_self_eq_true]
  . have m:a∈r:=(List.mem_cons.mp hm).resolve_left e
    cases hg:g b with
    |none=>exact sD m
    |some o=>
     show (List.lookup a ((b,o)::_))=_
     rw[List.lookup_cons,beq_false_of_ne e]
     exact sD m
theorem xB{h:Heap}{a:Addr}(o:Obj)(e:h.get? a=some o):(uQ h).lookup a=some o:=by
 rw[←e]
 exact sD (List.mem_range.mpr (Heap.lt_size e))
theorem hJ{h:Heap}:(uQ h).In h:=fun a o e=>by
 obtain⟨c,_,e⟩:=List.mem_filterMap.mp (rE e)
 obtain⟨o',e1,e2⟩:=Option.map_eq_some_iff.mp e
 cases e2
 exact e1
theorem rM{h:Heap}{x:Str}{v:Option Value}(e:nsH h x=some v):PySem.W.nsIn (uQ h) mainGlobals x=some v:=by
 unfold nsH at e
 split at e
 . rename_i o ho
   unfold PySem.W.nsIn at e ⊢
   rw[xB o ho]
   exact e
 . cases e
theorem ip{h:Heap}{cd:Value}{x:Str}(e:il h cd x=true):PySem.W.codeIn (uQ h) cd x=true:=by
 unfold il at e
 split at e
 . split at e
   . rename_i c o ho
     unfold PySem.W.codeIn at e ⊢
     dsimp only at e ⊢
     rw[List.lookup_cons,beq_self_eq_true]at e
     rw[xB o ho]
     exact e
   . cases e
 . cases e
theorem args_eq(st:Stmt):args st=L2.w5 st∧body st=L2.xY st∧scope st=L2.zq st:=by cases st<;>exact⟨rfl,rfl,rfl⟩
theorem ab{h:Heap}{p:Str × Stmt}(e:dy h p.1=bX p):oG (uQ h) p.1 p.2:=by
 obtain⟨a1,a2,a3⟩:=args_eq p.2
 unfold bX at e
 rw[a1,a2,a3]at e
 unfold dy at e
 split at e
 . rename_i f hf
   split at e
   . rename_i oc od fd osl ho
     split at e
     . rename_i hc
       have e':=Option.some.inj e
       obtain⟨n,q,ps,b,sc,g,cl,df,kw,dc,pm,an,cd,ct,bl⟩:=fd
       injection e' with e1 e2 e3 e4 e5 e6 e7 e8 _ _ _ _ _ _ e9
       subst e1 e2 e3 e4 e5 e6 e7 e8 e9
       exact aa (rM hf) (xB _ ho) (ip hc) (by unfold PySem.W.keepIn;dsimp only;rw[xB _ ho])
     . cases e
   . cases e
 . cases e
noncomputable def gv:G→Val
 |.int i=>.int i
 |.str x=>.str x
 |.ctup ns=>.ctup ns
theorem XD{h:Heap}{x:Str}{v:G}(e:glB h x v=true):kj (uQ h) x (gv v):=by
 cases v with
 |int i=>
  unfold glB at e;dsimp only at e
  split at e
  . rename_i hn;have:=of_decide_eq_true e;subst this;exact int_mk (rM hn)
  . cases e
 |str y=>
  unfold glB at e;dsimp only at e
  split at e
  . rename_i hn;have:=of_decide_eq_true e;subst this;exact str_mk (rM hn)
  . cases e
 |ctup ns=>
  unfold glB at e;dsimp only at e
  split at e
  . rename_i hn
    split at e
    . rename_i n od us k sl ho
      obtain⟨e1,e3⟩:=Bool.and_eq_true_iff.mp e
      obtain⟨e1,e2⟩:=Bool.and_eq_true_iff.mp e1
      have:=of_decide_eq_true e1;subst this
      exact dA (us:=us.toList) (rM hn) (xB _ ho) (of_decide_eq_true e2) (of_decide_eq_true e3)
    . cases e
  . cases e
theorem Y2{h:Heap}{x:Str}(e:blB h x=true):PySem.W.nsIn (uQ h) mainGlobals x=some none:=by
 unfold blB at e
 split at e
 . rename_i hn;exact rM hn
 . cases e
noncomputable def aR(D:List (Str × Stmt))(glL:List (Str × Val))(K:KF)(h:Heap):Prop:=K.In h∧(∀p∈D,oG K p.1 p.2)∧(∀p∈glL,kj K p.1 p.2)∧∀x∈wY,PySem.W.nsIn K mainGlobals x=some none
theorem lh{h:Heap}:∀{D:List (Str × Stmt)},(D.map fun p=>dy h p.1)=D.map bX→∀p∈D,oG (uQ h) p.1 p.2
 |p::D,e,q,hq=>by
  rw[List.map_cons,List.map_cons]at e
  obtain⟨e1,e2⟩:=List.cons.inj e
  rcases List.mem_cons.mp hq with rfl|hq
  . exact ab e1
  . exact lh e2 q hq
theorem bE{D:List (Str × Stmt)}{gl:List (Str × G)}{s:Shared}(e:Zo D gl s=Yp D):∃K,aR D (gl.map fun p=>(p.1,gv p.2)) K s.heap:=by
 obtain⟨e1,e2⟩:=Prod.mk.inj e
 obtain⟨e2,e3⟩:=Bool.and_eq_true_iff.mp e2
 exact⟨uQ s.heap,hJ,lh e1,fun p hp=>(by obtain⟨p',h1,rfl⟩:=List.mem_map.mp hp;exact XD (List.all_eq_true.mp e2 p' h1)),fun x hx=>Y2 (List.all_eq_true.mp e3 x hx)⟩
theorem close{l:PySem.W.OpenLaw}{q:Program}{d:DefRec}{fnL:List ((Str × Nat) × Fn)}{glL:List (Str × Val)}{gl:List (Str × G)}{D:List (Str × Stmt)}{F:Fn}{n N:Nat}{x:Str}
 (YY:l.wellSaid=true) (left:PySem.W.LeftO l.row.prog q [] (fun s=>PySem.W.recOk l.row.records s) (Zo D gl) (fun _=>Yp D) N) (hgl:glL=gl.map fun p=>(p.1,gv p.2))
 (aq:PySem.W.defOf q l.row.name=some (d,[])) (hp:l.row.prog.theDef l.row.name=some (d.params,d.body,d.scope)) (hk:PySem.W.kwWritten? d.params.kwonlyargs d.params.kw_defaults=some [])
 (hwr:(!l.row.writes||l.row.records.isEmpty)=true) (ok:(PySem.W.chainsOk q&&PySem.W.opensWell l.row.prog&&(PySem.W.frees l.row.toRowW&&l.row.within.isEmpty))=true) (hb:l.row.prog.bare) (hw:l.row.toRowW.promised)
 (hn:l.most=some 63) (hdf:d.params.defaults=[]) (hr:L2.y9 n callerA) (hF:(tbl fnL glL).fn d.name 0=some F) (hx:F.ps=[x]) (hc:ka fnL D=true)
 (HL:∀ns:List Int,ns.length≤63→∃s',zL (tbl fnL glL) n d.name 0 [.scr ns] []=.ok (.bool true) s'):l.Holds:=by
 refine PySem.W.holds_law YY fun said'=>PySem.W.holds_open (q:=q) (loose:=[]) (Xt:=fun s=>PySem.W.recOk l.row.records s) (XP:=fun _ _=>True) (YP:=fun _ h=>∃K,aR D glL K h) left (fun w s e=>hgl▸bE e)
  (fun w h h' ⟨K,a,b⟩ k=>⟨K,a.keeps k,b⟩) (fun _ _=>trivial) (fun _ _ _ _ _=>trivial) aq hp hk (fun s e=>PySem.W.recFacts_of e) hwr said' ok hb hw ?_
 intro w s₀ s₁ mg mb G ⟨K,Y⟩
 exact walk (l:=l) (q:=q) (loose:=[]) (XP:=fun _ _=>True) (YP:=fun _ h=>aR D glL K h) (d:=d) (K:=fun _=>K) (T:=tbl fnL glL) hn hdf hr (fun _ _ y=>y.1) hF hx (fun w mg h X g=>Yh X g Y.2.1 Y.2.2.1 Y.2.2.2 hc) HL w s₀ s₁ mg mb G Y
end M
end
section
namespace P31
open PySem M
noncomputable def yd:Fn:=F31.yd
noncomputable def z0:Fn:=F.z0
noncomputable def yz:Fn:=F.yz
noncomputable def yQ:Fn:=F31.yQ
noncomputable def xM:Fn:=F31.xM
noncomputable def y1:Fn:=F31.y1
noncomputable def ye:Fn:=F31.ye
noncomputable def yR:Fn:=F.yR
noncomputable def yX:Fn:=F.yX
noncomputable def y2:Fn:=F.y2
noncomputable def yS:Fn:=F31.yS
noncomputable def yk:Fn:=F31.yk
noncomputable def yD:Fn:=F31.yD
noncomputable def y3:Fn:=F31.y3
noncomputable def y4:Fn:=F.y4
noncomputable def yl:Fn:=F.yl
noncomputable def xN:Fn:=F.xN
noncomputable def yf:Fn:=F.yf
noncomputable def ym:Fn:=F.ym
noncomputable def xO:Fn:=F31.xO
noncomputable def xP:Fn:=F.xP
noncomputable def yL:Fn:=F31.yL
noncomputable def qD:Fn:=⟨["_law_script","_law_k","_law_pen_here","_law_sizes","_law_draft","_law_some","_law_paper","_law_things","_law_thing","_law_as_it_was","_law_turn","_law_found","_law_three"],["_law_script"],false,(.cons (.forS (.nm 1) (.range1 (.blt .max false (.cons (.lit (.int 1)) (.cons (.blt .min false (.cons (.blt .len false (.cons (.var 0) .nil)) (.cons (.lit (.int 4)) .nil))) .nil)))) (.cons (.asg 2 (.call "_law_pen" 1 (.cons (.call "_law_cell_at" 0 (.cons (.var 0) (.cons (.var 1) .nil))) .nil))) (.cons (.asg 3 (.call "_law_few" 0 (.cons (.var 2) .nil))) (.cons (.asg 4 (.call "_law_knot" 0 (.cons (.var 2) (.cons (.var 3) (.cons (.lit (.int 12)) (.cons (.ix (.lst false (.cons (.lit (.int 0)) (.cons (.lit (.int 5)) (.cons (.lit (.int 6)) (.cons (.lit (.int 4)) .nil))))) (.blt .len false (.cons (.var 3) .nil))) .nil)))))) (.cons (.forS (.nm 5) (.val (.tup (.cons (.var 4) (.cons (.bin false .add (.var 4) (.tup (.cons (.lit (.int 0)) (.cons (.lit (.int 0)) (.cons (.lit (.int 0)) .nil))))) (.cons (.blt .tuple false (.cons (.comp false ["_law_hue"] [none] (.blt .max false (.cons (.lit (.int 0)) (.cons (.var 0) .nil))) (.nm 0) (.val (.var 4)) .nil) .nil)) .nil))))) (.cons (.asg 6 (.call "_law_made" 0 (.cons (.var 3) (.cons (.var 5) .nil)))) (.cons (.asg 7 (.lst false (.cons (.var 6) (.cons (.lit .none) (.cons (.tup .nil) (.cons (.lit (.str "row")) (.cons (.tup (.cons (.lit (.str "row")) (.cons (.lit (.int 0)) (.cons (.lit (.int 1)) .nil)))) (.cons (.tup (.cons (.lit (.str "cases")) (.cons (.lit (.int 0)) (.cons (.tup .nil) .nil)))) (.cons (.lst false (.cons (.lit (.str "row")) (.cons (.lit (.int 0)) (.cons (.lit (.int 1)) .nil)))) (.cons (.tup (.cons (.lit (.str "row")) (.cons (.lit (.int 39)) (.cons (.lit (.int 39)) .nil)))) .nil)))))))))) (.cons (.ifS (.val (.cmp .isNot (.var 6) (.lit .none))) (.cons (.asg 7 (.bin false .add (.var 7) (.comp false ["_law_turn","_law_pen_here","_law_paper"] [none,some 2,some 6] (.call "_law_bent" 0 (.cons (.var 1) (.cons (.var 2) (.cons (.bin false .fdiv (.var 0) (.lit (.int 2))) .nil)))) (.nm 0) (.range1 (.lit (.int 8))) .nil))) .nil) .nil) (.cons (.forS (.nm 8) (.val (.var 7)) (.cons (.asg 9 (.blt .repr false (.cons (.var 8) .nil))) (.cons (.forS (.nm 10) (.range1 (.lit (.int 2))) (.cons (.asg 11 (.call "is_paper" 0 (.cons (.var 3) (.cons (.var 5) (.cons (.var 8) .nil))))) (.cons (.ifS (.or (.not (.val (.blt .isi false (.cons (.var 11) (.cons (.ty "bool" "bool") .nil))))) (.cons (.val (.cmp .ne (.var 11) (.call "_law_shows" 0 (.cons (.var 3) (.cons (.var 5) (.cons (.var 8) .nil)))))) .nil)) (.cons (.ret (.lit (.bool false))) .nil) .nil) .nil))) (.cons (.ifS (.val (.cmp .ne (.blt .repr false (.cons (.var 8) .nil)) (.var 9))) (.cons (.ret (.lit (.bool false))) .nil) .nil) .nil)))) .nil))))) .nil))))) (.cons (.ifS (.val (.cmp .isNot (.call "is_paper" 0 (.cons (.tup (.cons (.lit (.int 2)) (.cons (.lit (.int 2)) .nil))) (.cons (.tup (.cons (.lit (.int 0)) (.cons (.neg (.lit (.int 1))) (.cons (.lit (.int 0)) .nil)))) (.cons (.tup (.cons (.lit (.str "cases")) (.cons (.lit (.int 1)) (.cons (.tup (.cons (.tup (.cons (.lit (.str "row")) (.cons (.lit (.int 0)) (.cons (.lit (.int 1)) .nil)))) .nil)) .nil)))) .nil)))) (.lit (.bool false)))) (.cons (.ret (.lit (.bool false))) .nil) .nil) (.cons (.asg 12 (.tup (.cons (.tup (.cons (.lit (.str "row")) (.cons (.lit (.int 0)) (.cons (.lit (.int 1)) .nil)))) (.cons (.tup (.cons (.lit (.str "row")) (.cons (.lit (.int 1)) (.cons (.lit (.int 1)) .nil)))) (.cons (.tup (.cons (.lit (.str "row")) (.cons (.lit (.int 0)) (.cons (.lit (.int 1)) .nil)))) .nil))))) (.cons (.ifS (.val (.cmp .isNot (.call "is_paper" 0 (.cons (.tup (.cons (.lit (.int 2)) (.cons (.lit (.int 2)) (.cons (.lit (.int 2)) .nil)))) (.cons (.tup (.cons (.lit (.int 0)) (.cons (.neg (.lit (.int 1))) (.cons (.lit (.int 1)) .nil)))) (.cons (.tup (.cons (.lit (.str "cases")) (.cons (.lit (.int 1)) (.cons (.var 12) .nil)))) .nil)))) (.lit (.bool false)))) (.cons (.ret (.lit (.bool false))) .nil) .nil) (.cons (.ifS (.val (.cmp .isNot (.call "is_paper" 0 (.cons (.tup (.cons (.lit (.int 2)) (.cons (.lit (.int 2)) .nil))) (.cons (.tup (.cons (.lit (.int 0)) (.cons (.lit (.int 0)) (.cons (.neg (.lit (.int 1))) .nil)))) (.cons (.tup (.cons (.lit (.str "cases")) (.cons (.lit (.int 2)) (.cons (.tup (.cons (.tup (.cons (.lit (.str "row")) (.cons (.lit (.int 0)) (.cons (.lit (.int 1)) .nil)))) (.cons (.tup (.cons (.lit (.str "row")) (.cons (.lit (.int 0)) (.cons (.lit (.int 1)) .nil)))) .nil))) .nil)))) .nil)))) (.lit (.bool true)))) (.cons (.ret (.lit (.bool false))) .nil) .nil) (.cons (.ifS (.val (.cmp .isNot (.call "is_paper" 0 (.cons (.tup (.cons (.lit (.int 3)) (.cons (.lit (.int 3)) .nil))) (.cons (.bin false .add (.tup (.cons (.lit (.int 0)) (.cons (.lit (.int 0)) (.cons (.lit (.int 0)) .nil)))) (.bin false .mul (.tup (.cons (.neg (.lit (.int 1))) .nil)) (.lit (.int 20)))) (.cons (.tup (.cons (.lit (.str "row")) (.cons (.lit (.int 0)) (.cons (.lit (.int 1)) .nil)))) .nil)))) (.lit (.bool true)))) (.cons (.ret (.lit (.bool false))) .nil) .nil) (.cons (.ifS (.val (.cmp .isNot (.call "is_paper" 0 (.cons (.tup (.cons (.lit (.int 4)) .nil)) (.cons (.tup (.cons (.lit (.int 0)) (.cons (.lit (.int 0)) (.cons (.lit (.int 0)) (.cons (.neg (.lit (.int 1))) .nil))))) (.cons (.tup (.cons (.lit (.str "row")) (.cons (.lit (.int 0)) (.cons (.lit (.int 1)) .nil)))) .nil)))) (.lit (.bool false)))) (.cons (.ret (.lit (.bool false))) .nil) .nil) (.cons (.asg 6 (.tup (.cons (.lit (.str "cases")) (.cons (.lit (.int 1)) (.cons (.tup (.cons (.tup (.cons (.lit (.str "row")) (.cons (.lit (.int 0)) (.cons (.lit (.int 1)) .nil)))) (.cons (.tup (.cons (.lit (.str "row")) (.cons (.lit (.int 1)) (.cons (.lit (.int 1)) .nil)))) .nil))) .nil))))) (.cons (.ret (.andE (.cmp .is (.call "is_paper" 0 (.cons (.tup (.cons (.lit (.int 2)) (.cons (.lit (.int 2)) .nil))) (.cons (.tup (.cons (.lit (.int 0)) (.cons (.neg (.lit (.int 1))) (.cons (.lit (.int 1)) .nil)))) (.cons (.var 6) .nil)))) (.lit (.bool true))) (.cons (.cmp .is (.call "is_paper" 0 (.cons (.tup (.cons (.lit (.int 2)) (.cons (.lit (.int 2)) .nil))) (.cons (.tup (.cons (.lit (.int 0)) (.cons (.neg (.lit (.int 1))) (.cons (.lit (.int 0)) .nil)))) (.cons (.var 6) .nil)))) (.lit (.bool false))) .nil))) .nil)))))))))⟩
noncomputable def y6:Fn:=F.y6
noncomputable def yn:Fn:=F.yn
noncomputable def yo:Fn:=F.yo
noncomputable def wx:Fn:=F31.wx
noncomputable def xQ:Fn:=F.xQ
noncomputable def fnL:List ((Str × Nat) × Fn):=((("_law_bent":Str),(0:Nat)),yd)::((("_law_cell_at":Str),(0:Nat)),z0)::((("_law_draw":Str),(0:Nat)),yz)::((("_law_ended":Str),(0:Nat)),yQ)::((("_law_few":Str),(0:Nat)),xM)::((("_law_knot":Str),(0:Nat)),y1)::((("_law_made":Str),(0:Nat)),ye)::((("_law_pen":Str),(1:Nat)),yR)::((("_law_places":Str),(0:Nat)),yX)::((("_law_rows":Str),(0:Nat)),y2)::((("_law_shows":Str),(0:Nat)),yS)::((("_law_whole":Str),(0:Nat)),yk)::((("_law_wrong":Str),(0:Nat)),yD)::((("are_cases":Str),(0:Nat)),y3)::((("are_sizes":Str),(0:Nat)),y4)::((("are_wholes":Str),(0:Nat)),yl)::((("is_blank":Str),(0:Nat)),xN)::((("is_draft":Str),(0:Nat)),yf)::((("is_one_hue":Str),(0:Nat)),ym)::((("is_paper":Str),(0:Nat)),xO)::((("is_whole":Str),(0:Nat)),xP)::((("is_wrong_row":Str),(0:Nat)),yL)::((("law":Str),(0:Nat)),qD)::((("most_step":Str),(0:Nat)),y6)::((("need_draft":Str),(0:Nat)),yn)::((("need_sizes":Str),(0:Nat)),yo)::((("shows":Str),(0:Nat)),wx)::((("with_hue":Str),(0:Nat)),xQ)::[]
noncomputable def glL:List (Str × Val):=[("MOST_PLACES",.int 40),("LEAST_SIZE",.int 2),("MOST_SIZE",.int 8),("HUES",.ctup [0,1,2,3]),("BLANK",.int (-1)),("ROW",.str "row"),("CASES",.str "cases")]
noncomputable def T:Tbl:=tbl fnL glL
set_option maxHeartbeats 0 in
theorem Yf:ka fnL D=true:=by decide +kernel
end P31
end
section
namespace P31
open PySem M
noncomputable def nB(k:Nat):Nat:=[0,5,6,4].getD k 0
theorem Xg:∀k,1≤k→k≤3→nB k≤6∧2*wP k (nB k)+400≤300000
 |1,_,_=>by decide +kernel
 |2,_,_=>by decide +kernel
 |3,_,_=>by decide +kernel
structure Cs(Φ:Calls):Prop where
 cell:ba Φ
 pen:Yw Φ
 few:bb Φ
 knot:bf Φ
 made:∀n,n≤6→iO n Φ
 bent:∀n,n≤6→nY n Φ
 paper:iP 7 Φ
 shows':qw 7 Φ
theorem iU{ds:List Int}{k:Nat}:(yT k (ds++[0,0,0])).length=(yT k ds).length:=by
 rw[wX,wX,List.map_append,List.countP_append];rfl
theorem ef{ds:List Int}{k:Nat}:(yT k (ds.map fun x=>if x > 0 then x else 0)).length=0:=by
 rw[wX,List.countP_eq_zero]
 intro y hy
 rw[List.map_map]at hy
 obtain⟨x,_,rfl⟩:=List.mem_map.mp hy
 intro q
 have:(if x > 0 then x else 0)=-1:=of_decide_eq_true q
 split at this<;>omega
theorem ir{a b:Int}(h1:0≤a∧a<100)(h2:0≤b∧b<100):Da 14 300000 (.tup [.str "row",.int a,.int b]):=(w4 (xp _ (by simp[xI])) (yN (by omega) (by omega)) (yN (by omega) (by omega))).mono (by omega) (by omega)
theorem dD:Da 14 300000 (.lst [.str "row",.int 0,.int 1]):=(nv (k:=0) (w:=100) (n:=3) (vs:=[.str "row",.int 0,.int 1]) (fun v hv=>by
 simp only[List.mem_cons,List.not_mem_nil,or_false]at hv
 rcases hv with rfl|rfl|rfl
 . exact xp _ (by simp[xI])
 . exact yN (by decide) (by decide)
 . exact yN (by decide) (by decide)) (Nat.le_refl 3)).mono (by omega) (by omega)
theorem iq:Da 1 0 (.tup []):=(vO (k:=0) (w:=0) (n:=0) (vs:=[]) (fun v hv=>by cases hv) (Nat.le_refl 0)).mono (by omega) (by omega)
theorem Y5{v:Val}(h:Da 14 300000 v):Dt 7 v:=i7 h.d h.t.lf.dp
section
variable {Φ:Calls}{s:Sto}
theorem af{G:Str→Option Val}{env:M.Env}{N:List Str}{ds:List Int}{i:Nat}(hi:env[i]?=some (some (tpI ds))) :
 evE Φ G env (.comp false N [none] (.blt .max false (.cons (.lit (.int 0)) (.cons (.var 0) .nil))) (.nm 0) (.val (.var i)) .nil) s=.ok (.lst ((ds.map fun x=>if x > 0 then x else 0).map .int)) s:=by
 rw[post_eq]
 refine ud (fun e=>∃a,e=[a]) (fun x=>match x with|.int j=>[.int (if j > 0 then j else 0)]|_=>[]) (ds.map .int) (s1:=s) (si (zB hi) rfl) ⟨_,rfl⟩ ?_ ?_
 . rintro x hx e ⟨a,rfl⟩
   obtain⟨j,_,rfl⟩:=List.mem_map.mp hx
   refine⟨_,rfl,⟨_,rfl⟩,sG.mpr ⟨rfl,?_⟩⟩
   rw[if_pos rfl,zU (zA zD (zA (zB rfl) zC)) max2]
   exact zE.mpr ⟨rfl,rfl⟩
 . have:(ds.map Val.int).flatMap (fun x=>match x with|.int j=>[Val.int (if j > 0 then j else 0)]|_=>[])=(ds.map fun x=>if x > 0 then x else 0).map .int:=by
    rw[List.flatMap_map,List.map_map,lz];rfl
   rw[this]
   exact zE.mpr ⟨rfl,rfl⟩
theorem gX(c:Cs Φ)(ns:List Int):(run T Φ qD [.scr ns] []).post fun v _=>v=.bool true:=by
 have L1:∀n,n<100→n≤zO:=fun n h=>by unfold zO;omega
 have two:∀(env:M.Env) (s:Sto),yq Φ T.gl env (.range1 (.lit (.int 2))) s=.ok ⟨zy 0 2,none⟩ s:=fun env s=>rfl
 have rw3:∀(env:M.Env) (s:Sto) (a b:Int),evE Φ T.gl env (.tup (.cons (.lit (.str "row")) (.cons (.lit (.int a)) (.cons (.lit (.int b)) .nil)))) s=.ok (.tup [.str "row",.int a,.int b]) s:=fun env s a b=>zj (zA zD (zA zD (zA zD zC))) (L1 3 (by omega))
 rw[qD,xg]
 refine⟨rfl,?_⟩
 refine zi.mpr (xV (fun rest e s'=>(∃o1 o2 o3 o4 o5 o6 o7 o8 o9 o10 o11,e=[some (.scr ns),o1,o2,o3,o4,o5,o6,o7,o8,o9,o10,o11,none])∧∀x∈rest,∃k:Nat,x=.int k) (zy 0 (max 1 (min ns.length 4))) (s1:=[]) (i8 (K:=4) rfl (by omega)) ⟨⟨_,_,_,_,_,_,_,_,_,_,_,rfl⟩,?_⟩ ?_ ?_)
 . intro x hx
   obtain⟨k,_,rfl⟩:=uX hx
   exact⟨k,by congr 1;omega⟩
 . rintro x rest e s' ⟨⟨o1,o2,o3,o4,o5,o6,o7,o8,o9,o10,o11,rfl⟩,hr⟩
   obtain⟨k,rfl⟩:=hr x (.head _)
   have hr':∀x∈rest,∃k:Nat,x=.int k:=fun x hx=>hr x (.tail _ hx)
   refine⟨_,rfl,?_⟩
   obtain⟨cv,hcell⟩:=c.cell ns k s'
   obtain⟨a,b,hpen,hb⟩:=c.pen cv s'
   refine xG (x_call (zA (x_call (zA (zB rfl) (zA (zB rfl) zC)) hcell) zC) hpen) ?_
   have hP:y8 (s'++[vk a b]) s'.length:=⟨a,b,by simp,hb⟩
   generalize s'++[vk a b]=s0 at hP ⊢
   generalize s'.length=p at hP ⊢
   refine vT (yb (zA (zB rfl) zC) (zI (c.few p _ hP) ?_))
   rintro v s2 ⟨zs,rfl,hz,hz3,t2⟩
   have hz1:=hz.1
   obtain⟨hn6,hwP⟩:=Xg zs.length hz1 hz3
   have hl:∀s,blt .len false [tpI zs] s=.ok (.int zs.length) s:=fun s=>by rw[yr,List.length_map]
   have hix:[Val.int 0,.int 5,.int 6,.int 4][zs.length]?=some (.int (nB zs.length:Nat)):=by
    have:∀k,k≤3→[Val.int 0,.int 5,.int 6,.int 4][k]?=some (.int (nB k:Nat)):=fun k hk=>by
     match k,hk with
     |0,_=>rfl
     |1,_=>rfl
     |2,_=>rfl
     |3,_=>rfl
    exact this _ hz3
   refine vT (yb (zA (zB rfl) (zA (zB rfl) (zA zD (zA (ze (xq (zA zD (zA zD (zA zD (zA zD zC)))) (L1 4 (by omega))) (zU (zA (zB rfl) zC) (hl _)) (vP hix)) zC)))) (zI (c.knot p zs 12 (nB zs.length) s2 (t2.at_ hP.lt) hz (by omega) (by omega)) ?_))
   rintro v s3 ⟨ds,rfl,hd,hbl,hdl,t3'⟩
   have t3:=t2.trans t3'
   have hP3:=t3.at_ hP.lt
   clear t3 t3' t2 hP hpen hcell hix
   show (zf Φ T.gl [some (.scr ns),some (.int k),some (.ref p),some (tpI zs),some (tpI ds),o5,o6,o7,o8,o9,o10,o11,none] _ s3).post _
   have em:=af (Φ:=Φ) (G:=T.gl) (s:=s3) (N:=["_law_hue"]) (ds:=ds) (i:=4) (env:=[some (.scr ns),some (.int k),some (.ref p),some (tpI zs),some (tpI ds),o5,o6,o7,o8,o9,o10,o11,none]) rfl
   have ea:binOp false .add (tpI ds) (.tup [.int 0,.int 0,.int 0]) s3=.ok (tpI (ds++[0,0,0])) s3:=by
    rw[show tpI (ds++[0,0,0])=.tup (ds.map .int++[.int 0,.int 0,.int 0]) by unfold tpI;rw[List.map_append];rfl]
    exact xX (by rw[List.length_map];show _+3≤zO;unfold zO;omega)
   refine zi.mpr (xV (fun rest2 e s'=>(∃o1 o5 o6 o7 o8 o9 o10 o11,e=[some (.scr ns),o1,some (.ref p),some (tpI zs),some (tpI ds),o5,o6,o7,o8,o9,o10,o11,none])∧y8 s' p∧∀x∈rest2,∃fs,x=tpI fs∧Df zs fs∧(yT 0 fs).length≤nB zs.length) [tpI ds,tpI (ds++[0,0,0]),tpI (ds.map fun x=>if x > 0 then x else 0)] (s1:=s3)
    (si (zj (zA (zB rfl) (zA (zp (zB rfl) (zj (zA zD (zA zD (zA zD zC))) (L1 3 (by omega))) ea) (zA (zU (zA em zC) rfl) zC))) (L1 3 (by omega))) rfl) ⟨⟨_,_,_,_,_,_,_,_,rfl⟩,hP3,?_⟩ ?_ ?_)
   . intro x hx
     simp only[List.mem_cons,List.not_mem_nil,or_false]at hx
     rcases hx with rfl|rfl|rfl
     . exact⟨_,rfl,⟨by omega,hd.2⟩,hbl⟩
     . refine⟨_,rfl,⟨by rw[List.length_append];show _+3≤40;omega,fun x hx=>?_⟩,by rw[iU];exact hbl⟩
       rcases List.mem_append.mp hx with hx|hx
       . exact hd.2 x hx
       . simp only[List.mem_cons,List.not_mem_nil,or_false,or_self]at hx
         omega
     . refine⟨_,rfl,⟨by rw[List.length_map];omega,fun x hx=>?_⟩,by rw[ef];exact Nat.zero_le _⟩
       obtain⟨y,hy,rfl⟩:=List.mem_map.mp hx
       have:=hd.2 y hy
       split<;>omega
   . clear em ea
     rintro x rest2 e s6 ⟨⟨o1,o5,o6,o7,o8,o9,o10,o11,rfl⟩,hP6,hr2⟩
     obtain⟨fs,rfl,hf,hfb⟩:=hr2 x (.head _)
     have hr2':∀x∈rest2,∃fs,x=tpI fs∧Df zs fs∧(yT 0 fs).length≤nB zs.length:=fun x hx=>hr2 x (.tail _ hx)
     refine⟨_,rfl,?_⟩
     refine vT (yb (zA (zB rfl) (zA (zB rfl) zC)) (zI (c.made _ hn6 zs fs s6 hz hf hfb) ?_))
     rintro v s7 ⟨rfl,hv⟩
     have dv:Da 14 300000 v:=by
      rcases hv with rfl|hv
      . exact uL.mono (by omega) (by omega)
      . exact(rO hz1 hv).mono (by omega) (by omega)
     refine xG (xq (vs:=[v,.none,.tup [],.str "row",.tup [.str "row",.int 0,.int 1],.tup [.str "cases",.int 0,.tup []],.lst [.str "row",.int 0,.int 1],.tup [.str "row",.int 39,.int 39]]) (zA (zB rfl) (zA zD (zA (zj zC (L1 0 (by omega))) (zA zD (zA (rw3 _ _ _ _) (zA (zj (zA zD (zA zD (zA (zj zC (L1 0 (by omega))) zC))) (L1 3 (by omega))) (zA (xq (zA zD (zA zD (zA zD zC))) (L1 3 (by omega))) (zA (rw3 _ _ _ _) zC)))))))) (L1 8 (by omega))) ?_
     have d8:∀x∈[v,.none,.tup [],.str "row",.tup [.str "row",.int 0,.int 1],.tup [.str "cases",.int 0,.tup []],.lst [.str "row",.int 0,.int 1],.tup [.str "row",.int 39,.int 39]],Da 14 300000 x:=fun x hx=>by
      simp only[List.mem_cons,List.not_mem_nil,or_false]at hx
      rcases hx with rfl|rfl|rfl|rfl|rfl|rfl|rfl|rfl
      . exact dv
      . exact uL.mono (by omega) (by omega)
      . exact iq.mono (by omega) (by omega)
      . exact(xp _ (by simp[xI])).mono (by omega) (by omega)
      . exact ir (by omega) (by omega)
      . exact(w4 (k:=1) ((xp (.str "cases") (by simp[xI])).mono (by omega) (Nat.le_refl _)) ((yN (by decide) (by decide)).mono (by omega) (Nat.le_refl _)) iq).mono (by omega) (by omega)
      . exact dD
      . exact ir (by omega) (by omega)
     have l8:[v,.none,.tup [],.str "row",.tup [.str "row",.int 0,.int 1],.tup [.str "cases",.int 0,.tup []],.lst [.str "row",.int 0,.int 1],.tup [.str "row",.int 39,.int 39]].length=8:=rfl
     generalize [v,.none,.tup [],.str "row",.tup [.str "row",.int 0,.int 1],.tup [.str "cases",.int 0,.tup []],.lst [.str "row",.int 0,.int 1],.tup [.str "row",.int 39,.int 39]]=V8 at d8 l8 ⊢
     show (zf Φ T.gl [some (.scr ns),o1,some (.ref p),some (tpI zs),some (tpI ds),some (tpI fs),some v,some (.lst V8),o8,o9,o10,o11,none] _ s7).post _
     refine WV (b:=!v.isN) (J:=fun e s'=>y8 s' p∧∃us,e=[some (.scr ns),o1,some (.ref p),some (tpI zs),some (tpI ds),some (tpI fs),some v,some (.lst us),o8,o9,o10,o11,none]∧∀u∈us,Da 14 300000 u) (zJ (zW (zB rfl) zD (show zV .isNot v .none s7=.ok (.bool !v.isN) s7 from rfl)) zF) (fun hN=>?_) (fun _=>⟨hP6,V8,rfl,d8⟩) ?_
     . have hv:Pap zs.length (nB zs.length) v:=by
        rcases hv with rfl|hv
        . cases hN
        . exact hv
       refine vT (gr.mpr ?_)
       rw[zB (v:=.lst V8) rfl]
       refine zE.mpr (kK (fun rest e s' acc=>y8 s' p∧(∃o,e=[o,some (.ref p),some v])∧(∀u∈acc,Da 14 300000 u)∧acc.length+rest.length=8∧∀x∈rest,∃k:Nat,x=.int k) ?_)
       refine⟨⟨zy 0 8,none⟩,s7,rfl,⟨hP6,⟨_,rfl⟩,nofun,rfl,fun x hx=>?_⟩,fun _ _ _ _ _=>rfl,?_,?_⟩
       . obtain⟨k,_,rfl⟩:=uX hx
         exact⟨k,by congr 1;omega⟩
       . rintro y rest e s' acc ⟨hP',⟨o,rfl⟩,ha,hal,hrr⟩
         obtain⟨k,rfl⟩:=hrr y (.head _)
         refine⟨_,rfl,sG.mpr ?_⟩
         rw[if_pos rfl]
         refine yb (zA (zB rfl) (zA (zB rfl) (zA (zp (zB rfl) zD (show binOp false .fdiv (.int (k:Int)) (.int 2) s'=.ok (.int ((k/2:Nat):Int)) s' from bdiv ⟨by omega,by omega⟩)) zC))) (zI (c.bent _ hn6 p zs.length (k/2) v s' hP' hz1 hz3 hv) ?_)
         rintro u s8 ⟨hu,t8⟩
         refine⟨t8.at_ hP'.lt,⟨_,rfl⟩,fun w hw=>?_,by rw[List.length_append,List.length_singleton];rw[List.length_cons]at hal;omega,fun x hx=>hrr x (.tail _ hx)⟩
         rcases List.mem_append.mp hw with hw|hw
         . exact ha w hw
         . rw[List.mem_singleton.mp hw];exact hu.mono (by omega) hwP
       . rintro e s' acc ⟨hP',⟨o,rfl⟩,ha,hal,hrr⟩
         refine zE.mpr ?_
         rw[bq (by rw[List.length_nil]at hal;unfold zO;omega)]
         refine zE.mpr (wH ⟨_,rfl,hP',V8++acc,rfl,fun u hu=>?_⟩)
         rcases List.mem_append.mp hu with hu|hu
         . exact d8 u hu
         . exact ha u hu
     . rintro e s8 ⟨hP8,us,rfl,hus⟩
       refine zi.mpr (xV (fun rest3 e s'=>(∃o8 o9 o10 o11,e=[some (.scr ns),o1,some (.ref p),some (tpI zs),some (tpI ds),some (tpI fs),some v,some (.lst us),o8,o9,o10,o11,none])∧y8 s' p∧∀x∈rest3,Da 14 300000 x) us (s1:=s8) (si (zB rfl) rfl) ⟨⟨_,_,_,_,rfl⟩,hP8,hus⟩ ?_ ?_)
       . rintro x rest3 e s9 ⟨⟨o8,o9,o10,o11,rfl⟩,hP9,hr3⟩
         have hx:=hr3 x (.head _)
         have hr3':∀x∈rest3,Da 14 300000 x:=fun x hx=>hr3 x (.tail _ hx)
         have hdt:=Y5 hx
         have hsh:=fun s=>bF (m:=false) (s:=s) hx.t hx.d (by omega) (by omega)
         refine⟨_,rfl,?_⟩
         refine xG (zU (zA (zB rfl) zC) (hsh s9)) ?_
         refine zi.mpr (xV (fun rest4 e s'=>s'=s9∧∃o10 o11,e=[some (.scr ns),o1,some (.ref p),some (tpI zs),some (tpI ds),some (tpI fs),some v,some (.lst us),some x,some (.str x.d.shown),o10,o11,none]) (zy 0 2) (s1:=s9) (two _ _) ⟨rfl,_,_,rfl⟩ ?_ ?_)
         . rintro y rest4 e s10 ⟨rfl,o10,o11,rfl⟩
           refine⟨_,rfl,?_⟩
           have q4:zV .ne (.bool (zP zs 7 fs x)) (.bool (zP zs 7 fs x)) s10=.ok (.bool false) s10:=by
            cases zP zs 7 fs x<;>rfl
           refine xG (x_call (zA (zB rfl) (zA (zB rfl) (zA (zB rfl) zC))) (c.paper zs fs x s10 hz hf hdt)) ?_
           refine zu (um (zl (zJ (zU (zA (zB rfl) (zA xw zC)) (show blt .isi false [.bool (zP zs 7 fs x),.ty "bool"] s10=.ok (.bool true) s10 from rfl)) zF)) (yK (zJ (zW (zB rfl) (x_call (zA (zB rfl) (zA (zB rfl) (zA (zB rfl) zC))) (c.shows' zs fs x s10 hz hf hdt)) q4) zF) uD)) ?_
           exact wH ⟨rfl,_,_,rfl⟩
         . rintro e s10 ⟨rfl,o10,o11,rfl⟩
           have q6:zV .ne (.str x.d.shown) (.str x.d.shown) s10=.ok (.bool false) s10:=by rw[ne_str,decide_eq_true rfl];rfl
           exact zu (zJ (zW (zU (zA (zB rfl) zC) (hsh s10)) (zB rfl) q6) zF) (wH ⟨⟨_,_,_,_,rfl⟩,hP9,hr3'⟩)
       . rintro e s9 ⟨⟨o8,o9,o10,o11,rfl⟩,hP9,hr3⟩
         exact wH ⟨⟨_,_,_,_,_,_,_,_,rfl⟩,hP9,hr2'⟩
   . rintro e s7 ⟨⟨o1,o5,o6,o7,o8,o9,o10,o11,rfl⟩,hP7,hr2⟩
     exact wH ⟨⟨_,_,_,_,_,_,_,_,_,_,_,rfl⟩,hr'⟩
 . rintro e s' ⟨⟨o1,o2,o3,o4,o5,o6,o7,o8,o9,o10,o11,rfl⟩,hr⟩
   have sz:∀zs:List Int,((1≤zs.length∧zs.length≤4)∧∀x∈zs,2≤x∧x≤8)→Sz zs:=fun zs h=>⟨h.1.1,h.1.2,h.2⟩
   have dt:∀v:Val,v.isD=true∧v.d.depth≤14→Dt 7 v:=fun v h=>i7 h.1 h.2
   have b1:=c.paper [2,2] [0,-1,0] (.tup [.str "cases",.int 1,.tup [.tup [.str "row",.int 0,.int 1]]]) s' (sz _ (by decide +kernel)) ⟨by decide,by decide⟩ (dt _ (by decide +kernel))
   have b2:=c.paper [2,2,2] [0,-1,1] (.tup [.str "cases",.int 1,.tup [.tup [.str "row",.int 0,.int 1],.tup [.str "row",.int 1,.int 1],.tup [.str "row",.int 0,.int 1]]]) s' (sz _ (by decide +kernel)) ⟨by decide,by decide⟩ (dt _ (by decide +kernel))
   have b3:=c.paper [2,2] [0,0,-1] (.tup [.str "cases",.int 2,.tup [.tup [.str "row",.int 0,.int 1],.tup [.str "row",.int 0,.int 1]]]) s' (sz _ (by decide +kernel)) ⟨by decide,by decide⟩ (dt _ (by decide +kernel))
   have b4:=c.paper [3,3] (0::0::0::List.replicate 20 (-1)) (.tup [.str "row",.int 0,.int 1]) s' (sz _ (by decide +kernel)) ⟨by decide,by decide +kernel⟩ (dt _ (by decide +kernel))
   have b5:=c.paper [4] [0,0,0,-1] (.tup [.str "row",.int 0,.int 1]) s' (sz _ (by decide +kernel)) ⟨by decide,by decide⟩ (dt _ (by decide +kernel))
   have b6:=c.paper [2,2] [0,-1,1] (.tup [.str "cases",.int 1,.tup [.tup [.str "row",.int 0,.int 1],.tup [.str "row",.int 1,.int 1]]]) s' (sz _ (by decide +kernel)) ⟨by decide,by decide⟩ (dt _ (by decide +kernel))
   have b7:=c.paper [2,2] [0,-1,0] (.tup [.str "cases",.int 1,.tup [.tup [.str "row",.int 0,.int 1],.tup [.str "row",.int 1,.int 1]]]) s' (sz _ (by decide +kernel)) ⟨by decide,by decide⟩ (dt _ (by decide +kernel))
   rw[show zP [2,2] 7 [0,-1,0] (.tup [.str "cases",.int 1,.tup [.tup [.str "row",.int 0,.int 1]]])=false by decide +kernel]at b1
   rw[show zP [2,2,2] 7 [0,-1,1] (.tup [.str "cases",.int 1,.tup [.tup [.str "row",.int 0,.int 1],.tup [.str "row",.int 1,.int 1],.tup [.str "row",.int 0,.int 1]]])=false by decide +kernel]at b2
   rw[show zP [2,2] 7 [0,0,-1] (.tup [.str "cases",.int 2,.tup [.tup [.str "row",.int 0,.int 1],.tup [.str "row",.int 0,.int 1]]])=true by decide +kernel]at b3
   rw[show zP [3,3] 7 (0::0::0::List.replicate 20 (-1)) (.tup [.str "row",.int 0,.int 1])=true by decide +kernel]at b4
   rw[show zP [4] 7 [0,0,0,-1] (.tup [.str "row",.int 0,.int 1])=false by decide +kernel]at b5
   rw[show zP [2,2] 7 [0,-1,1] (.tup [.str "cases",.int 1,.tup [.tup [.str "row",.int 0,.int 1],.tup [.str "row",.int 1,.int 1]]])=true by decide +kernel]at b6
   rw[show zP [2,2] 7 [0,-1,0] (.tup [.str "cases",.int 1,.tup [.tup [.str "row",.int 0,.int 1],.tup [.str "row",.int 1,.int 1]]])=false by decide +kernel]at b7
   have m20:∀s,binOp false .mul (.tup [.int (-1)]) (.int 20) s=.ok (tpI (List.replicate 20 (-1))) s:=fun s=>rfl
   have z2:∀(env:M.Env) (s:Sto) (a b:Int),evE Φ T.gl env (.tup (.cons (.lit (.int a)) (.cons (.lit (.int b)) .nil))) s=.ok (tpI [a,b]) s:=fun env s a b=>zj (zA zD (zA zD zC)) (L1 2 (by omega))
   have d3:∀(env:M.Env) (s:Sto) (a b:Int),evE Φ T.gl env (.tup (.cons (.lit (.int a)) (.cons (.neg (.lit (.int 1))) (.cons (.lit (.int b)) .nil)))) s=.ok (tpI [a,-1,b]) s:=fun env s a b=>zj (zA zD (zA (y7 zD) (zA zD zC))) (L1 3 (by omega))
   refine zu (zJ (zW (x_call (zA (z2 _ _ _ _) (zA (d3 _ _ _ _) (zA (zj (zA zD (zA zD (zA (zj (zA (rw3 _ _ _ _) zC) (L1 1 (by omega))) zC))) (L1 3 (by omega))) zC))) b1) zD rfl) zF) ?_
   refine xG (zj (zA (rw3 _ _ _ _) (zA (rw3 _ _ _ _) (zA (rw3 _ _ _ _) zC))) (L1 3 (by omega))) ?_
   refine zu (zJ (zW (x_call (zA (zj (zA zD (zA zD (zA zD zC))) (L1 3 (by omega))) (zA (d3 _ _ _ _) (zA (zj (zA zD (zA zD (zA (zB rfl) zC))) (L1 3 (by omega))) zC))) b2) zD rfl) zF) ?_
   refine zu (zJ (zW (x_call (zA (z2 _ _ _ _) (zA (zj (zA zD (zA zD (zA (y7 zD) zC))) (L1 3 (by omega))) (zA (zj (zA zD (zA zD (zA (zj (zA (rw3 _ _ _ _) (zA (rw3 _ _ _ _) zC)) (L1 2 (by omega))) zC))) (L1 3 (by omega))) zC))) b3) zD rfl) zF) ?_
   refine zu (zJ (zW (x_call (zA (z2 _ _ _ _) (zA (zp (zj (zA zD (zA zD (zA zD zC))) (L1 3 (by omega))) (zp (zj (zA (y7 zD) zC) (L1 1 (by omega))) zD (m20 s')) rfl) (zA (rw3 _ _ _ _) zC))) b4) zD rfl) zF) ?_
   refine zu (zJ (zW (x_call (zA (zj (zA zD zC) (L1 1 (by omega))) (zA (zj (zA zD (zA zD (zA zD (zA (y7 zD) zC)))) (L1 4 (by omega))) (zA (rw3 _ _ _ _) zC))) b5) zD rfl) zF) ?_
   refine xG (zj (zA zD (zA zD (zA (zj (zA (rw3 _ _ _ _) (zA (rw3 _ _ _ _) zC)) (L1 2 (by omega))) zC))) (L1 3 (by omega))) ?_
   refine zX (v:=.bool true) (rk (zW (x_call (zA (z2 _ _ _ _) (zA (d3 _ _ _ _) (zA (zB rfl) zC))) b6) zD rfl) (zW (x_call (zA (z2 _ _ _ _) (zA (d3 _ _ _ _) (zA (zB rfl) zC))) b7) zD rfl)) ?_
   show (zb false [] _ _).post _
   rw[leave_top yt]
   exact zE.mpr rfl
end
theorem cs:At T 18 Cs:=fun n hn=>by
 obtain⟨n,rfl⟩:∃m,n=m+18:=⟨n-18,by omega⟩
 have g:Gls T:=⟨rfl,rfl,rfl,rfl,rfl⟩
 have whole:∀m,qz (zL T (m+1)):=fun m v l k s h=>by rw[zT (F:=F.xP) rfl];exact j8 h
 have wholes:∀m,pA (zL T (m+2)):=fun m vs l k s h=>by rw[zT (F:=F.yl) rfl];exact m4 (whole m) h
 have most:∀m,bg (zL T (m+1)):=fun m a b d s h1 h2 h3=>by rw[zT (F:=F.y6) rfl];exact fu h1 h2 h3
 have one:∀m,Yv (zL T (m+1)):=fun m a b d e s h1 h2 h3 h4=>by rw[zT (F:=F.ym) rfl];exact bA h1 h2 h3 h4
 have areSizes:∀m,qC (zL T (m+3)):=fun m zs s h=>by rw[zT (F:=F.y4) rfl];exact pv g (wholes m) h
 have needSizes:∀m,sL (zL T (m+4)):=fun m zs s h=>by rw[zT (F:=F.yo) rfl];exact r0 (areSizes m) h
 have wB:∀m,lN (zL T (m+5)):=fun m zs v s h h1 h2=>by rw[zT (F:=F.yf) rfl];exact mq g (needSizes m) (wholes (m+2)) h h1 h2
 have needG:∀m,tK (zL T (m+6)):=fun m zs ns s h hd=>by rw[zT (F:=F.yn) rfl];exact rW (wB m) h hd
 have wth:∀m,bj (zL T (m+1)):=fun m ns p h s h1 h2=>by rw[zT (F:=F.xQ) rfl];exact fv h1 h2
 have blank:∀m,lM (zL T (m+2)):=fun m ds b s h=>by rw[zT (F:=F.xN) rfl];exact mn rfl (whole m) h
 have wrow:∀m,bh (zL T (m+2)):=fun m zs ds b c s h1 h2 h3 h4=>by rw[zT (F:=F31.yL) rfl];exact fw rfl (whole m) (most m) (one m) h1 h2 h3 h4
 have cases':∀k m,qy k (zL T (m+3))→iL k (zL T (m+4)):=fun k m h zs ds b c s h1 h2 h3 h4 h5=>by rw[zT (F:=F31.y3) rfl];exact j4 (blank (m+1)) (wth (m+2)) h h1 h2 h3 h4 h5
 have shows0:∀k m,qy k (zL T (m+2*k+3)):=by
  intro k
  induction k with
  |zero=>intro m zs ds v s h1 h2 h3;rw[zT (F:=F31.wx) rfl];exact qi rfl rfl (wrow m) (fun j hj=>by omega) h1 h2 h3
  |succ k ih=>
   intro m zs ds v s h1 h2 h3
   rw[show m+2*(k+1)+3=(m+2*k+4)+1 by omega,zT (F:=F31.wx) rfl]
   exact qi rfl rfl (wrow (m+2*k+2)) (fun j hj=>by cases hj;exact cases' k (m+2*k) (ih m)) h1 h2 h3
 have paper:∀m,iP 7 (zL T (m+18)):=fun m zs ds v s h1 h2 h3=>by rw[zT (F:=F31.xO) rfl];exact j7 (needG (m+11)) (shows0 7 m) h1 h2 h3
 have places:∀m,qx (zL T (m+1)):=fun m r z s h1 h2=>by rw[zT (F:=F.yX) rfl];exact mz h1 h2
 have xH:∀m,lQ (zL T (m+1)):=fun m v s h=>by rw[zT (F:=F31.yk) rfl];exact m3 h
 have lshows:∀k m,qw k (zL T (m+k+2)):=by
  intro k
  induction k with
  |zero=>intro m zs ds v s h1 h2 h3;rw[zT (F:=F31.yS) rfl];exact rV (xH m) (places m) (fun j hj=>by omega) h1 h2 h3
  |succ k ih=>
   intro m zs ds v s h1 h2 h3
   rw[show m+(k+1)+2=(m+k+2)+1 by omega,zT (F:=F31.yS) rfl]
   exact rV (xH (m+k+1)) (places (m+k+1)) (fun j hj=>by cases hj;exact ih m) h1 h2 h3
 have cell:∀m,ba (zL T (m+1)):=fun m ns k s=>by
  obtain⟨c,h⟩:=fk (T:=T) (Φ:=zL T m) (s:=s) ns k
  exact⟨c,by rw[zT (F:=F.z0) rfl];exact h⟩
 have pen:∀m,Yw (zL T (m+1)):=fun m c s=>by
  obtain⟨a,b,h,h2⟩:=bB (T:=T) (Φ:=zL T m) (s:=s) c
  exact⟨a,b,by rw[zT (F:=F.yR) rfl];exact h,h2⟩
 have draw:∀m,lO (zL T (m+1)):=fun m p k s h1 h2 h3=>by rw[zT (F:=F.yz) rfl];exact fm h1 h2 h3
 have few:∀m,bb (zL T (m+2)):=fun m p s h=>by rw[zT (F:=F31.xM) rfl];exact fo (draw m) h
 have ended:∀m,iM (zL T (m+1)):=fun m zs fs q h s h1 h2 h3 h4=>by rw[zT (F:=F31.yQ) rfl];exact j5 h1 h2 h3 h4
 have knot:∀m,bf (zL T (m+2)):=fun m p zs a b s h1 h2 h3 h4=>by rw[zT (F:=F31.y1) rfl];exact ft (draw m) (ended m) h1 h2 h3 h4
 have lrows:∀m,iN (zL T (m+1)):=fun m a b s h1 h2 h3=>by rw[zT (F:=F.y2) rfl];exact j6 h1 h2 h3
 have lwrong:∀m,lP (zL T (m+2)):=fun m zs ns s h1 h2=>by rw[zT (F:=F31.yD) rfl];exact mw (T:=T) (lrows m) (places m) h1 h2
 have made:∀k m,iO k (zL T (m+k+3)):=by
  intro k
  induction k with
  |zero=>intro m zs ds s h1 h2 h3;rw[zT (F:=F31.ye) rfl];exact nL (lwrong m) (fun j hj=>by omega) h1 h2 h3
  |succ k ih=>
   intro m zs ds s h1 h2 h3
   rw[show m+(k+1)+3=(m+k+3)+1 by omega,zT (F:=F31.ye) rfl]
   exact nL (lwrong (m+k+1)) (fun j hj=>by cases hj;exact ih m) h1 h2 h3
 have bent:∀k m,nY k (zL T (m+k+2)):=by
  intro k
  induction k with
  |zero=>intro m p a d v s h1 h2 h3 h4;rw[zT (F:=F31.yd) rfl];exact qh (draw m) (fun j hj=>by omega) h1 h2 h3 h4
  |succ k ih=>
   intro m p a d v s h1 h2 h3 h4
   rw[show m+(k+1)+2=(m+k+2)+1 by omega,zT (F:=F31.yd) rfl]
   exact qh (draw (m+k+1)) (fun j hj=>by cases hj;exact ih m) h1 h2 h3 h4
 exact⟨cell (n+17),pen (n+17),few (n+16),knot (n+16),fun k hk=>by rw[show n+18=(n+15-k)+k+3 by omega];exact made k _,fun k hk=>by rw[show n+18=(n+16-k)+k+2 by omega];exact bent k _,paper n,(show n+18=(n+9)+7+2 by omega)▸lshows 7 (n+9)⟩
theorem Zl(ns:List Int):∃s',zL T 19 "law" 0 [.scr ns] []=.ok (.bool true) s':=by
 obtain⟨v,s',h,rfl⟩:=gX (cs 18 (by omega)) ns
 exact⟨s',by rw[zT (F:=qD) rfl];exact h⟩
end P31
end
section
open PySem PySem.W PyProof.Rows
theorem P31.hx:P31.qD.ps=[("_law_script":Str)]:=by kernel_rfl
theorem P31.hF:(M.tbl P31.fnL P31.glL).fn P31.dd.name 0=some P31.qD:=by kernel_rfl
theorem P31.hgl:P31.glL=P31.gl.map fun p=>(p.1,M.gv p.2):=by kernel_rfl
theorem PySem.Challenge.cw_evenhues_k31_papers_looked_at_holds : PySem.Challenge.rw_evenhues_k31_papers_looked_at.Holds := by
 exact M.close (n:=19) P31.YY P31.left P31.hgl P31.aq P31.hp P31.hk P31.hwr P31.ok P31.bare P31.hw (by kernel_rfl) P31.hdf ⟨rfl,by decide,by decide,rfl⟩ P31.hF P31.hx P31.Yf (fun ns _=>P31.Zl ns)
end
