import PyProof.Rows.All
import Wide.All
import OpenK.AllK
import Wide.FinOn
import PyProof.EqAt
import PyProof.EqKinds
import PyProof.TupleCall
import KE.BitLaws
import Open.SpecLaws
import KE.OsHead
import KE.OsGo
import KE.KSortTupG
import KE.KDictLaws
import PyProof.ListRange
import PyProof.InstEq
import PyProof.ExcBaseAll.ValueError
import PySem.Challenge.RW_patternedits_s01_answers
set_option linter.all false
set_option Elab.async false
set_option maxRecDepth 100000
set_option maxHeartbeats 0
set_option compiler.extract_closed false
open Lean in
def g_ (r:TSyntax `tactic)(c:TSyntax `term)(v:List Ident):MacroM (TSyntax `tactic):=return (← v.foldlM (fun (r,c) x=>return (← `(tactic|($r;generalize ($c).1=$x)),← `(($c).2))) (r,c)).1
open Lean in
local macro_rules|`(tactic|let ⟨$p,*⟩:=$n:num $e)=>do
 let n:=n.getNat
 let k:=n%20
 let j:=n%500/20
 let p:List Ident:=p.getElems.toList.map (⟨·.raw⟩)
 let v:=p.mapIdx fun i x=>if x.raw.isIdent&&!x.getId==`rfl then x else mkIdent (.mkSimple s!"w{i}_")
 let f s:=mkIdent (.mkSimple s)
 let r ← `(tactic|refine $(f (if n>499 then s!"eh{k}" else s!"e{k}_{j}")) $e ?_)
 let r ← if e.raw.isIdent then `(tactic|($r;try clear $(⟨e⟩))) else pure r
 if n>499 then
  let r ← g_ r (← `($(f s!"ch{k}") _ _)) (v.take k)
  let q:=(p.drop k).toArray
  if j>0 then `(tactic|($r;intro a_;let ⟨$q,*⟩:=$(quote (20*j)) a_)) else `(tactic|($r;intro $q*))
 else
  let r ← `(tactic|($r;intro $(v.toArray)*))
  (p.zip v).foldlM (fun r (x,w)=>if x.getId==`rfl then `(tactic|($(⟨r⟩);subst $w)) else pure r) r
local macro_rules|`(tactic|rw[$r,*])=>do
 let t ← r.getElems.mapM fun x=>do
  let e:Lean.Term:=⟨x.raw[1]⟩
  let e ← if x.raw[0].getNumArgs==0 then pure e else `(Eq.symm $e)
  `(tactic|first|refine rwE $e ?_|rewrite[$x])
 `(tactic|($[$t];*;try (with_reducible rfl)))
section
open Lean Parser Command
def v_ (a x:Syntax):=x.rewriteBottomUp fun x=>if x.isIdent&&x.getId==`z_ then a else x
def y_ (t:Array Syntax) (s:Syntax):Syntax:=
 let s:=s.setInfo .none
 if s.isOfKind ``declaration then let d:=s[1];let n:=s.setArg 0 ((s[0].setArg 4 (mkNullNode #[mkNode ``«noncomputable» #[mkAtom "noncomputable"]])).setArg 6 mkNullNode);if d.isOfKind ``definition&&d[2][1].getNumArgs>0&&!d[2][1][0][1].isOfKind `«term#[_,]» then s.setArg 1 (mkNode ``«theorem» #[mkAtom "theorem",d[1],mkNode ``declSig #[d[2][0],d[2][1][0]],d[3]]) else if d.isOfKind ``«abbrev»then (if s[0][6].getNumArgs==0 then n.setArg 1 (mkNode ``definition #[mkAtom "def",d[1],d[2],d[3],mkNullNode]) else n)else if d.isOfKind ``Command.«instance»||d.isOfKind ``definition then n else s
 else if s.isOfKind `«term#[_,]»&&(s[1].getNumArgs==1||s[1].getNumArgs==3)&&s[1][0].isIdent then let e:=t.getD (s[1][0].getId.toString.foldl (fun n c=>62*n+(if c.isLower then c.toNat-96 else if c.isUpper then c.toNat-38 else c.toNat+5)) 0-1) s;if s[1].getNumArgs==3 then v_ s[1][2] e else e else if s.isOfKind ``Tactic.rwSeq&&s[2][1][0][1].isNatLit?.isSome then (t.getD (s[2][1][0][1].isNatLit?.get!-1) s)[1][1][0][0][0] else if s.isOfKind ``Command.«where» then mkNode ``Command.«end» #[mkAtom "end",mkNullNode] else if s.isOfKind ``Term.tuple&&s[1].getNumArgs==3&&!s[1][0][0].isOfKind ``Term.hygienicLParen then mkNode ``Term.anonymousCtor #[mkAtom "⟨",mkNullNode (#[s[1][0],s[1][1]]++s[1][2].getArgs),mkAtom "⟩"] else if s.isOfKind ``Command.print then mkNode ``Command.«end» #[mkAtom "end",mkNullNode #[s[1],mkNullNode]] else s
def f_ (t) (s:Syntax):=s.rewriteBottomUp (y_ t)
end
local macro_rules|`(mutual $c $x* end)=>if c.raw.isOfKind ``Lean.Parser.Command.check then let t:=c.raw[1][1].getSepArgs.foldl (fun t e=>t.push (f_ t e)) #[];return Lean.mkNullNode (x.map fun s=>f_ t s) else Lean.Macro.throwUnsupported
open Lean in
local macro_rules|`(#check [$l,*])=>do
 let a:=(List.range 1200).map (s!"o_{·}")++l.getElems.toList.flatMap fun n=>let n:=n.raw.isNatLit?.get!;[s!"tree_{n}",s!"sts_{n+1}"]
 let a:=(a++["sts_9","sts_777","sts_404","heap_1","heap_6","heap_1199","env_1"]).map (Name.str `h_ ·)++`q_::`l_::["pw","nm"].map (.str `PySem.Challenge s!"{·}_patternedits_s01_answers")
 return mkNullNode ((← a.toArray.mapM fun n=>`(def $(mkIdent (.str `PySem.W.Fast s!"tw{n.hash}")) :True:=trivial)).map (f_ #[]))
#check [7,45,71,123,184,214,319,400,426,441,464,487,545,638,688,774,775,848,878,922,980,1024,1108,1185,1196]
section
open Lean PySem W
open Challenge renaming rw_patternedits_s01_answers→r_
noncomputable def q_:Program:={r_.prog with main:={r_.prog.main with body:=r_.prog.main.body.drop 159}}
noncomputable def l_:List PySem.Str:=r_.prog.boundNames.erase "answers"
local macro_rules|`(tactic|refine $f:ident $x*)=>if f.getId==`PySem.W.holds_os then `(tactic|refine' $f (q:=q_) (loose:=l_) (Xt:=fun s=>xlAt q_ [] s&&recOk [] s) (XP:=XL q_ []) $((((x.set! 18 ⟨mkIdent `s⟩).set! 20 ⟨mkIdent `b⟩).set! 22 ⟨mkIdent `h⟩).extract 4 23)*)else Macro.throwUnsupported
noncomputable def h_(s:r_.wellSaid=true)(b:r_.prog.bare):Σ'P:Prop,P→r_.Holds:=by
 apply PSigma.mk
 intro h
 w_on
 k_headS
 exact⟨[.list [.int 0,.int 1]],by decide+kernel,by decide+kernel⟩
theorem b_:r_.prog.bare:=⟨rfl,rfl,rfl,rfl,rfl,by decide+kernel⟩
theorem w_:r_.wellSaid=true:=by
 iterate 10 apply look_both
 all_goals decide+kernel
end
mutual
#check [(by decide+kernel),(by intro z;cases z),(by decide),eM hr (pv 1) T.bP T.bU (bW T) T.bY,["editor","cursor"],(by lia),bL X.prog X.w,upd (upd H c (cur t dx a ((i+1+n:Nat):Int))) p (.lst (((ns.drop (i+1)).take n).map V.int)),bH (pv 0),(by simp_all),ey v0 v1 v2 v3 v4 v5 v6 v7,[(("searched"),V.ref x),(("pattern_items"),V.ref L),(("steps"),V.ref ls)],upd (upd (upd (upd C d (.ins t.dg dx [(("last_end"),V.ref p)])) sl (.lst [V.ref p])) d (.ins t.dg dx [(("last_end"),V.ref p),(("shown"),V.ref sl)])) cl (.lst []),cR v0 v1 v2 v3 v4 v5,Str×V,(by simp),aK _ rfl ?_,aB (mG xm T.gK rfl T.gx (ag rx aw)),(by let(a,rfl):=1 (ve hz);exact(rfl,rfl)),s.heap.objs.size+1,ck g.pc p q g.ps,x==("__debug__":Str),(by intro z;injection z with z;lia),.ins C dx fs,ag (pv 0) aw,[((0),.ref t.qs),((1),.ref t.sC),((2),.ref t.sE),((3),.ref t.zv),((4),.ref t.zw),((5),.ref t.sF),((6),.ref t.oA),((7),.ref t.io),((8),.ref t.oB),((9),.ref t.jk),((10),.ref t.jl),((11),.ref t.gB),((12),.ref t.ip),((13),.ref t.iq),((14),.ref t.kE),((15),.ref t.kG),((16),.ref t.mu),((17),.ref t.ir)],((false),eval e X.env),[.int ((str m k).1:Int),.int ((str m k).2:Int)],ag (pv 2) aw,(ok.mod,ok.kind,ok.glob,ok.blt,ok.above,ok.inj,ok.has,ok.WV,ok.hd,ok.frames,ok.stk,ok.exf,ok.bs,ok.LL,ok.O7,ok.O8,ok.Aw,ok.QE),notedBy (bL prog w) A env λe s'=>R (.error e) s',ms.reverse.map (di e.doc e.parts),c6 v0 v1 v2 v3 v4 v5,ae×Obj,((pre++[(g.pc p).sign])++(g.pc p).look)++[(g.pc p).ins.length],ag (pv 1) aw,s.heap.push {cls:= .type "dict",data:= .dict #[]},iP (.int (st.author:Int)) (.int (st.time:Int)) (.int (kind:Int)) (.int (j:Int)),gv (s3.heap.objs.size+1) a.names (jr X.env.cells a.names []),ns.map V.int,(_,rfl),items.zip (W X q items f),st.changes.length+1,(m.first:Int),["number"],.lst (ps.map V.ref),(m.last:Int),aB (aW (cf (ag (cN T.gJ) aw))),["cursor","character"],ag (pv 3) aw,Sum.inl (k:Int),(items.toList.drop (gO items.size 0 lo)).take (gO items.size items.size b-gO items.size 0 lo),_,_,_,_,_,_,_,_,_,_,[.int ((st.changes.length+1:Nat):Int),.int (k:Int),.int (v:Int)],if go x q items s=false then none else if(decide (s<nA x q items s)&&gM x s (nA x q items s))=true then some (bq.mk s (nA x q items s) (kK s (items.zip (W x q items s))))else none,_,envOfC qual scope pW.heap.objs.size f cd::outer,upd (upd (upd H l (.lst [])) dx (.own x)) x (.ins t.Step dx (rl (.int (st:Int)) (.ref l))),.Call (.Name x p) (e::es) [] pos,(by intro z;injection z with z1 z2 z3;cases z3),(by exact dk ‹_› ‹_›),.lst xs,aK d rfl (b9 _ _ _ hd.d.2 T.bo T.cP _ dc _ rfl (a7 _ (.inl (a8.of hd.sl.2)) _ rfl ?_)),di b.doc b.parts m,cX _ c (.inl (rfl,_,a8.of a)) (e _ (x4_ la b xs zs (rfl,rfl,a,d,hz,k _ rfl))),old.drop (cS old new),hr.mono #[c],(ns.drop (i+1)).take n,g.pc p,pv 0,.lst [],gy I q #[p],_,bL prog w,new.drop (cS old new),Nat×Nat,.lst (rs.map V.ref),.inl rfl,["self"],counts lo m sp,s.heap.push {cls:= .type "range",data:= .fields #[.int lo t,.int a u,.int 1 v]},cur t dx a ((i+1+n:Nat):Int),(by intro z;injection z with _ _ z;exact absurd (dA pR z) (by show¬6=2;decide)),A.under (.builtin "type.__call__" (.ref C::us,a)),.ins t.fP s [(("document"),V.ref d),(("pattern"),V.cG),(("replacement"),V.ref m),(("folding"),V.bl false),(("asked_property"),V.int (-1)),(("asked_value"),V.int 0)],BY (OO N qual st f k sp),BY (ON N qual st f k sp),.ref p,nums ((cw (m+1)).map (jj fit c)),["cursor"],(h.cl.1,by rw[st _ _ h.cl.1 #[b]];exact h.cl.2),[(("sign"),v0),(("own_look"),v1),(("shown_look"),v2),(("insertions"),v3),(("deletions"),v4),(("pending_by_property"),v5),(("preceding"),v6),(("following"),v7)],([],trivial,λa m=>absurd m #[p]),jS pos (bV es X.env),["self","kind","unit","least","greatest","greedy"],g.pc a,cur t dx a (i:Int),([(("sign"),v0),(("own_look"),v1),(("shown_look"),v2),(("insertions"),v3),(("deletions"),v4),(("pending_by_property"),v5),(("preceding"),v6)]:List #[o]),(by rfl),.ins t.dg dx [(("last_end"),V.ref p),(("shown"),V.ref sl),(("changes"),V.ref cl),(("author"),V.int 1),(("time"),V.int 0),(("tracking"),V.bl false)],.inl (rfl,_,a8.of ao),("stretches":Str),di s.doc s.parts,a==NameKind.free&&sc.kind== .function&&sc.names.lookup n==some .cell,pv 1,.inr (bh.mpr rfl),("group_count":Str),["document","parts","matches"],bX (PW.pt (xR (fj (dB (d5 hr (CM T) T.zI T.vQ (ag (pv 4) aw)))) (vI (fj (dB (d5 hr (IX T) T.E6 T.Bh (ag (pv 5) aw))))))) #[V] bw,["self","author","time","kind","bearer_count"],["enumerate","zip","dict_itemiterator","dict_reverseitemiterator","odict_iterator","itertools.zip_longest","itertools.pairwise"],["self","begin"],Heap.lt_size e,c3 (bf s) b.toNat l a.toNat,c3 (bf e) k.toNat l o.toNat,bH (pv 4),(∀x c,X.env.cells.lookup x=some c->c≠b),.Call (.Attribute o m apos) (e::es) [] pos,nums ((cw (i+1)).map (jj fit c)),match uc ((ns.drop (i+1)).take m)with|none=>((s),.refused 6)|some p=>(({s with pattern:=some p}),.told [p.length,opened p]),g.sh.take p++g.sh.drop (p+(i+1)),([(("sign"),v0),(("own_look"),v1),(("shown_look"),v2),(("insertions"),v3),(("deletions"),v4),(("pending_by_property"),v5)]:List #[o]),.ref a,(Sz t).map λq=>((Sum.inl q.1:Key),q.2),["positions","count"],zs.getD 0 0,yA (u0 P w) P w K mg base N qual (aQ st) f gn A outer s H E,((xs.length),ys.length),.lst [V.int ((st.changes.length:Int)+1)],vB _ _ _ ao T.cg T.fF (by rw[nk];exact An) (x3_ _ _ _ (ao,T.cg,T.ja,by rw[nk,nz];exact An,eC,(λp q=> ?_))),items.zip (W x q items s),(("last_end"),v0),(("document"),v0),(_,Heap.get?_push_size _ rfl,rfl,rfl),.ref s.heap.objs.size,yA (u0 P w) P w K mg base N a (aQ st) f gn A outer s H E,(dx,z a),s.changes.length+1,dG (dw s) m.first m.last,_,.ref f,.lst (c.map V.ref++[V.ref a]),fV (ub T) #[an] #[aT] T.rQ T.gS.fn.kp T.gS.b .nil x.pass #[y],nq hr (cb hr T.xo (yl T) T.zY T.sJ (ag #[aq] #[X])) T.dQ T.jX (tQ T) T.ng #[C],eM hr #[aq] T.bP T.bU (bW T) T.bY,((gO items.size 0 lo:Nat):Int)==0&&(1:Int)==1&&(gO items.size items.size b-gO items.size 0 lo)==items.size,["self","sign","own_look","insertions"],pv 2,.Call (.Attribute o m apos) [] [] pos,[some (V.ref p),some (V.int (fit:Int)),some (V.int (c:Int)),some (V.ref l),none,none,none,none,none,none],(by omega),Str×ae,.tup xs,["self","piece"],["self","pattern_items","group_count"],jx x q items,iP v0 v1 v2 v3,fresh st p c,f9 t (cp g.bd x b a) (cp (cp (cp g.pv x x) x (g.pv z)) z x a) (cp (cp (cp g.nx x x) (g.pv z) x) x z a),ag (pv 4) aw,([]:List #[o]),(by let(a,b,rfl):=2 (Uu hz);exact(rfl,rfl)),["self","item","following","folding"],g'.sh.map V.ref,.lst (cs.map V.ref),(_,_,_,_,_,_,_,rfl,Walks.list (A:=X.A.in1) (I.ok.hd j) _ a e d.toArray,st,OC f,λh' tk n=> ?_),["self","which","value"],["cursor","unit","least","greatest"],upd H l (.lst ((ki es).map V.ref)),match vD ((ns.drop (i+1)).take m)with|none=>((s),.refused 6)|some p=>(({s with parts:=p}),.told [0]),b∈X.ex\/X.pW.heap.objs.size<=b,(h.sl.1,by rw[st _ _ h.sl.1 #[b]];exact h.sl.2),[#[br],(("pattern"),v1),(("replacement"),v2),(("folding"),v3),(("asked_property"),v4),(("asked_value"),v5)],l.foldl (λd m=>oG d (.paint #[R] #[U] z2 a)) d,(by intro z;subst z;exact w),upd k ed (.ins t.fP B (c6 d pt (.ref q) fo C D)),o7 (pv 4) a6,f9 t b pr nx,bT st.row,aB (aW #[aZ]),(Sum.inl (e.1:Int):Key),.tup [.int (a.new.length:Int),.int (a.gone:Int)],.paint #[R] #[U] z2 o,.lst ((ki (es.take i)).map V.ref),.lst (#[u].map V.ref),.dK (wr (fG es) #[Y]),([(("sign"),v0),(("own_look"),v1),(("shown_look"),v2),(("insertions"),v3),(("deletions"),v4)]:List #[o]),m.doc.row.length::(m.doc.row.take j).flatMap fY,a∈(l.drop p).take (q-p),aB (aW (pv 3)),List Key×V,.ref l,(h.d.1,by rw[st _ _ h.d.1 #[b]];exact h.d.2),da (j pos pins s d H _ I h) λus l c=>e2_2 c λvs m n o q=>f pins l d m vs us Q n o q,["self","begin","end"],cur t dx a (i+1:Nat),bH #[aZ],([#[br],(("pattern"),v1),(("replacement"),v2),(("folding"),v3),(("asked_property"),v4)]:List #[o]),some (.change s.changes.length),fe v0 v1 v2 v3 v4,a7 _ rfl _ rfl ?_,K w.params,I.cQ.fresh (be _),yA CX P w K mg base N c a f gn A outer s H E,x.pend.filter λy=>y.prop==k,cur t dx a 0,(ba s.doc:Int),ag (pv 5) aw,a c _ q (λ_ _ z=>nomatch z),fj (dB (eM hr #[aZ] T.bP T.iH (mL T) T.jN)),drop_cons e,aB (aW (cf (ag a6 aw))),((Value.ref r),Value.ref r),I.base.there b o q #[b],EP X pins a Q,(.bl _,H,I.kept λb o i=>n b o (λc=> ?_) (Heap.get?_push_of_some _ i),?_,q),["self","numbers"],["self","begin","end","groups"],(∀u∈vs,Jg A u),kb (dG (dw d0) m.first m.last) new m.first,if e.1=k then((e.1),e.2.1,e.2.2++[en])else e,X.AC s3 L a ce d,List Key×ae×ax,["self","place"],gr #[aq] #[aZ],g.sh.map V.ref,d5 hr (oj T) T.lV T.jB (ag #[aq] (ag #[bG] #[X])),gr #[aq] #[bG],f7 zo #[bG] (wQ (UJ rfl) #[aT] T.min #[a] (ag (oi T.len #[aq]) (ag (oi T.len #[aZ]) aw))),upd (upd (upd H dx (.own x)) x (.ins t.Change dx [])) x (.ins t.Change dx #[L]),uW e l o.toNat k.toNat,dS (.ref lp) (.ref dd),.int ((posOf cO c|||2^cO.length:Nat):Int),["self","kind","bearer_count"],(∀a∈ps,∃(b:PB) (pr nx:ae),H a=some #[ca]/\cK K H b.ls (nums (dZ (pc a)))),(["calls"]:List Str),(("pattern_items"),v1),(eC,λp r=>cq.done f o1 u B G r rfl),hs.2 b (gj (dj #[a7] (I.ok.WV x c K l))),(cw (m+1)).filter λk=>decide (lo<=k),upd (upd u ed (.ins t.fP s [(("document"),V.ref d),(("pattern"),V.cG)])) m #[ar],!d.toArray.isEmpty&&Builtin.List.listTooLong (d.toArray.size+a.toArray.size),(.int _,H,I.tok _,#[O],q),[#[bq],(("shown"),v1),(("changes"),v2),(("author"),v3),(("time"),v4),(("tracking"),v5)],["self","stretches","denied"],y3 #[aq] rfl,oQ (λ(c:Nat)=>(c:Int)) ts,if k=f then((k),v)::r else((k),x)::c7 f v r,apos.endLine==lD.line,([(("sign"),v0),(("own_look"),v1),(("shown_look"),v2),(("insertions"),v3)]:List #[o]),_,(wipe σ vs).set i (some x),(m.groups[k]?).getD _,_,!g&&decide (k<9)&&ox true false (k+1) l,bZ x ps c rfl y d.sz _ rfl (λl B a j z b k=>(rV a j _ _ rfl ao rfl ?_)),(_,Heap.get?_push_size _ rfl,rfl,?_),upd H u #[ar],upd H l #[ar],rm (pC NT ew (Fd abN (nr (Fd Jv (nr ew pO)) (nr (Fd Jv (nr ew pO)) pO)))),dB (eM hr #[aq] T.bP T.iH (mL T) T.jN),2000<iM m e.parts,(("searched"),v0),pv 3,.ref C,str m k,([#[bq],(("shown"),v1),(("changes"),v2),(("author"),v3),(("time"),v4)]:List #[o]),(#[I]++#[ap].ins)++[#[ap].del.length],if q<s then[]else match pS x q items #[bO] s with|some m=>m::_|none=>_,(us,[]),[.int (i:Int),.int (c:Int)],["self","begin","end","which","value"],(xs≠[]->ys≠[]->∀p,H p=none->Q #[aI] (upd H p (.tup (xs++ys)))),vs.toArray.toList.map toV,u6 v0 v1 v2 v3,ps.map pc,m.last-m.first,l.map λq=>((Sum.inl q.1:Key),q.2),if([]:List FG).isEmpty then 0 else 1,(by rw[e];exact True.intro),(by rw[bG,bG];simp only[aM,ak,aH];lia),ag (fV (Jz T) #[an] #[aT] T.Ek T.sI.fn.kp T.sI.b .nil x.pass #[y]) aw,((b.role,b.d,b.sl,b.cl,b.nd,b.ring,b.nt,b.chg),j,m,λ_=>rfl),["editor","cursor","begin","end","refusal","matches","found","counts"],o3 rfl ao rfl ?_,(by solve_by_elim),List Int,upd a p (.lst ((cw (j-i).toNat).map λ(k:Nat)=>V.int (i+(k:Int)))),match fs.lookup ("at":Str)with|some (.int m)=>g.length-m.toNat|_=>0,agj e f I h λv u i x y j k l m q=>d pins i g j x y v u Q k l m q,aB (mG xm T.rK rfl T.nX (ag rx aw)),.jh A (.dK (fG es)),.ins t.Cursor dx [],((t.at_+t.new.length+t.gone:Nat):Int),[(("kind"),v0),(("unit"),v1),(("least"),v2),(("greatest"),v3),(("greedy"),v4)],["self","staying","moves"],cur t dx a i,ag (pv 6) aw,([#[br],(("pattern"),v1),(("replacement"),v2),(("folding"),v3)]:List #[o]),(iM m a:Int)-(#[U]-#[R]),("unit":Str),.lst (nums (if st.tracking=true then[st.changes.length+1]else[])),upd (upd H dd (.dK (fG (es++[((k),l,[en])])))) l (.lst [V.ref en]),([(("kind"),v0),(("unit"),v1),(("least"),v2),(("greatest"),v3)]:List #[o]),qy a cl C X.env,ms.reverse.map (di s a),j pins s e H _ I h,hs.2 b (gj (dj #[a7] I.ok.above)),gm X.prog X.w,fx s.doc m s.parts,fx b.doc m b.parts,fe (.int 1) (.ref u) (.int (lo:Int)) (.int (k:Int)) (.bl (!sp)),es.filter λe=> !decide (e.1=k),eM hr #[aq] T.bo T.iB (qM T) T.kh,eM hr #[aZ] T.bP T.m6 (wq T) T.pL,di s.doc s.parts m,cX _ rfl rfl ?_,(by rw[e]at p;exact Qr (call_in p)),(by rw[aD];lia),a8.of hd.sl.2,Value.ref d==Value.none,V.int (k:Int),Je (v:= .ref t.gI) #[aT] T.ut rfl,.jh o (.dK a),(ms.reverse.take i).map (di st a),o3 rfl rfl rfl (λl B a j z b k=>(rV a j _ _ rfl ao rfl ?_)),(a,_,b.unlock e (I.WE hd c),q),(.inl (rfl,_,a8.of g),_,g,I,_,rfl,b3,K,o,this.1,this.2),[.int ((#[ak].new.length:Nat):Int),.int ((#[ak].gone:Nat):Int)],upd H' T' (.tup [.ref p,.ref a]),tJ Ae #[i] (pZ #[aZ]) (pZ #[bG]),if dn c #[aQ]=true then 1 else 0,fV (xB T) #[an] #[aT] T.sv T.iT.fn.kp T.iT.b .nil x.pass #[y],fV (Li T) #[an] #[aT] T.Gi T.uB.fn.kp T.uB.b .nil x.pass #[y],fV (Lh T) #[an] #[aT] T.Gj T.uC.fn.kp T.uC.b .nil x.pass #[y],cb hr T.Al (CG T) T.Cr T.vO #[y],.ListComp G [(tg,l,K,0)] a S,(ms.map #[aX]).map λt=>t.gone,["positions","position"],["look","which","value"],["editor","begin","end"],upd H l (.lst (xs++a)),(by simp only[bI]<;>lia),#[F].map λt=>t.gone,["character"],yA (u0 P w) P w K mg base N qual scope f cd A outer pW LK E,ms.length-i,l.map λ(c:Nat)=>V.int (c:Int),gr #[aq] (d5 hr (GA T) T.C9 T.za (ag #[i] (ag #[aZ] #[C]))),envOfC b a s.heap.objs.size f d,(by simp[f]),(by cases j with|nil=>exact⟨rfl,dR _⟩|cons _ _=>cases hz),ag #[i] aw,([#[bq],(("shown"),v1),(("changes"),v2),(("author"),v3)]:List #[o]),.lst (nums #[aA]),.builtin id,.ListComp k [(p,d,j,0)] c l,(p::xs)::ys,((ns.drop i).drop (n+1)).take m,(("author"),v0),(b,H',d J,q),[.ref ed,.ref c],s.heap.push lQ,(by rw[vF,dH];intro n _;show decide (0<=(n:Int))=true;simp),(own _ _ h.sl.1,by rw[st _ _ h.sl.1 #[b]];exact h.sl.2),(.int ys.length,H,I.tok _,(s.toks+1,by rw[bI,a]),q),upd H4 a (f9 t {g'.bd a with ld:=ld} (g'.pv a) (g'.nx a)),qv C s.heap.objs.size,ps.zip us,nums ((cw (i+1)).map (runN b)),f9 t {b with lo:=d,ls:=F} J nx,cx n 0 1&&(decide (-1<=e)&&(decide (e<=3)&&cx z2 0 99)),(by show 2<1000;decide),(by let(a,b,c,d,rfl):=4 (adA hz);exact(rfl,rfl)),aB (aW (cf (ag (cN T.vt) aw))),aB (aW (cf (ag (cN T.oV) aw))),([(("sign"),v0),(("own_look"),v1),(("shown_look"),v2)]:List #[o]),X.AC s H c (qy c cl C X.env) t,.tup [.int (i:Nat),x],.lst (ps.map V.ref++[V.ref p]),.ins t.Search dx #[l],.bl false,rows.length::(rows.take i).flatMap λx=>x.sign::x.look,compPost #[g] X.A X.xe use Qf (.ref D) s3.heap.objs.size,.lst (nums (flat (#[P].take i))++[.int ((s+k:Nat):Int)]),#[cb].length::(#[cb].take i).flatMap λx=>x.sign::dZ x,[.int (m.1:Int),.int (m.2:Int)],[.int #[U],.int (opened l:Int)],x5_ dx _ _ _ _ a,(by simpa using c),a8 X.K H p ys\/cK X.K H p ys,(own _ _ h.d.1,by rw[st _ _ h.d.1 #[b]];exact h.d.2),["positions","others"],ms.length::(ms.take j).flatMap λm=>[m.first,m.last],e.not _ _ h.lpo h.Sm,CV pos (vX [] X.env),.lst (sel.map V.ref),(g.sh.take b).drop a,(("searched_pieces"),v0),[.ExceptHandler (some (.Name n np)) none (b0::acr) akE],["item","fitting","following"],upd O D #[ar],qN x q (Ag st) (sx st) (aQ st) .none kV doc a b gn ct,qN x a (Ag st) (sx st) (aQ st) .none kV doc e d gn ct,oi T.len #[i],aK _ rfl (λx b nx nd _=>(x7_ x b _ _ _ _ _ #[dT])),.inr rfl,((t.at_+t.new.length:Nat):Int),#[F].map λt=>t.new.length,vs.map toV,start N vs,W8 (Jx T) #[an] #[aT] T.Ej T.sH.fn.kp T.sH.b .nil xT,A.deeper (envOfC qual (aQ st) s.heap.objs.size f gn),.inr (.inr (by rw[m,n];intro z;exact he (dm.inj z))),(_,e,rfl),(.inl #[j],by lia,by lia),[.int (i:Int),.ref a],["self","number"],upd H p (.lst (tK xs lo b)),u0 P w,r8 (bf b) m new,nums l,nums ((cw 99).map (runN b)),m.doc.row.length::(m.doc.row.take (j+1)).flatMap fY,g.pre++[g.last],e.not _ _ h.iQ h.GF,c9 (hR bi bR bS fE #[dy] (ag (oi T.len (pv 5)) aw)),c3 (bf b) A.toNat l z.toNat,bX (f7 xS (pv 4) (cN T.iu)) (aB (aW (cf #[bS]))) bw,bA (_,rfl,bA h),ag (o7 #[dy] a6) aw,a.any λb=>decide (b.1=k),([#[br],(("pattern"),v1),(("replacement"),v2)]:List #[o]),Sum.inl (c:Int),.tup (k.map kV),.ref it,.lst (sg.map V.int),.lst (acc++[y]),.int i,.ins t.Search dx [],.Call (.Name x p) [] [] pos,(lz f).2.take i,(l.map (di s c)).foldl cU d,((gO n 0 lo:Nat):Int),(g.ps.take (i+1)).map V.ref,s3.heap.push {cls:= .type "dict",data:= .dict #[]},c9 (hR bi bR bS fE #[dy] (ag (oi T.len #[ba]) aw)),be _,.ins t.Match dx (vz (.int #[R]) (.int #[U]) #[co]),[#[e6],(("time"),v1),(("kind"),v2),(("bearer_count"),v3)],["document","parts","found"],I.base.keep b o q n c #[b],A.deeper (envOfC a (aQ st) s.heap.objs.size f gn),[#[dx],#[c7],(("steps"),v2),(("match_beginnings"),v3)],["numbers","number"],(∀c∈(g.pc p).ins,1<=c/\c<=s.changes.length),(∀b o,H b=some o->b≠c->b≠ed->H' b=some o),upd H e.2.1 (.lst (e.2.2.map V.ref++[V.ref en])),nh v0 v1,kb old new m.first,if v<0 then max (v+(n:Int)) 0 else min v (n:Int),gm P w,((false),eval b X.env),eval e X.env,dS v0 v1,(by intro _;exact(aB (aW (cf (ag (cN T.uv) aw))))),a7 z2 rfl _ rfl ?_,([(("kind"),v0),(("unit"),v1),(("least"),v2)]:List #[o]),HT.gO xs.length xs.length d-HT.gO xs.length 0 lo,.own x,.lst (b.map V.ref),.int 0,(ns.drop i).take n,(("pattern_items"),v0),(by decide,λp b=>good _ rfl _ p (a3 b) ao),(by decide,d (M9 step)),⟨(x8_ _ _ _ _ _ _ _ _ (he.keep j f k1)),f,k2⟩,[V.int 93,V.int 123,V.int 125,V.int 64,V.int 126],["self","entry"],upd s ed (.ins t.fP D (c6 d (.ref q) G fo I J)),rV x dx _ _ rfl ao rfl ?_,jr X.env.cells d.names [],if v<0 then(v+(n:Int)).toNat else min v.toNat n,gr #[aq] #[dy],fj (dB (d5 hr (Bv T) T.ye T.uD (ag #[i] #[J]))),f9 t {b with ls:=C} pr nx,(#[l]:List #[o]),⟨(oZ (k+1) rfl #[f] #[f] (λi v=> ?_)),?_⟩,c9 (hR bi bR bS fE (pv 6) (ag (bH (pv 7)) aw)),[93,123,125,64,126],[.ref c],["document","found","new"],(∀v H1,Q v H1->Q' v H1),x==("__classdict__":Str),x2_ _ _ (by show g.pre++[g.last]=_;rw[e];rfl),o.not _ _ h n b d,kb a new s,f9 t {b with lo:=d} J nx,f.kindOf y=some .cell\/f.kindOf y=some .free,ae×ae×List #[o],a7 n rfl _ rfl ?_,([#[bq],(("shown"),v1),(("changes"),v2)]:List #[o]),Vatrko.ints t.new,List Item,I.base.free b o q n #[b],Hk r ta tb,.ref x,.ref c,.lst (nums a.new),(ns.drop (i+1+1)).take m,(h.sl.1,by rw[st _ _ h.sl.1];exact h.sl.2),(h.cl.1,by rw[st _ _ h.cl.1];exact h.cl.2),(0,rfl,rfl,dR _,dR _,λi v=>by simp_all),match H r with|some (.tup (x::_))=>x|_=> .cG,d5 hr (OW T) T.Kw T.E4 (ag #[aZ] (ag a6 aw)),(by rw[I.ok.glob];exact I.mod.glob.keeps I.bk),["self","unit","folding"],["self","editor","limit"],["old","new"],zs.getD 1 0,yA CX P w K mg base N g d f C A outer s H E,vz v0 v1 v2,some .foreign,rB n b a.tail,o7 #[bG] a6,g&&f&&ox false true k l,f (.int i t) (.int j u),cs.map V.ref++[V.ref c],(by simp;omega),(by rw[eZ];lia),(by rw[bI];lia),(by rw[bG];lia),bH #[dy],ag #[ba] aw,aB (aW #[bG]),a8.of ao,a8.of (e.not _ _ L I).1,EM AB a6,.bl true,((k+1:Nat):Int),((i+1:Nat):Int),((0:Nat):Int),(_,λ_=>rfl),["editor","found"],vI (fj (dB (d5 hr (EE T) T.zZ T.vv #[y]))),upd (upd (upd Z dx #[gS]) x #[d1]) x #[cC],upd (upd (upd Y dx #[gS]) x #[d1]) x #[cC],some v,items.length-1-i,gr #[aq] (cf aw),di e.doc e.parts,(by simpa using b),ag (bH #[bG]) aw,a3 (by rw[aE (λz=>Vm z.symm)];exact hx),_,a3 (by rw[aE (λz=>Vm z.symm)];exact hc),(a.new.length:Int),.lst [.int (-2)],(h.d.1,by rw[st _ _ h.d.1];exact h.d.2),["self","place","signs"],da #[ef] λc m d=>e1_1 d λf g i=> ?_,([#[e6],(("time"),v1),(("kind"),v2)]:List #[o]),_,Codec.app r.args r.f a,.lst (e.2.2.map V.ref),.ins t.Step dx (rl (.int (st:Int)) #[co]),(k1.trans k2).trans k3,[some (V.ref a),some (V.ref b),some #[eu]],upd H l (.lst (xs.take i++y::xs.drop i)),lO (C:=t.Cursor) (o:=cur t dx a 0) nx nd,(s.groups+1,4,true),(eC,λp w=>cq.done n Y r B G w rfl),(eC,λp r=>cq.done n X u A C r rfl),(eC,λp q=>cq.done f w b j l q rfl),(eC,λp n=>cq.done j s e f m n rfl),(eC,λp f=>cq.done b y k n o f rfl),(eC,λp L=>cq.done r J n q u L rfl),(eC,λp E=>cq.done n L f o r E rfl),["self","editor"],(∀v b,Q v b->Q' v b),y.prop==k,upd H a (.ins p.1 p.2.1 (c7 f y p.2.2)),top 48,st.testBit s=true/\rest.testBit s=true,ns.map λc=>c.toNat,l.map Value.ref,jc _ _ _ hpT T.oW T.kH (cX _ oC rfl ?_),g i j,eval o X.env,dX.mp h,([(("sign"),v0),(("own_look"),v1)]:List #[o]),Un ρ,Option ax,Key×V,I.base.free b o e n a,2^(q+1)-1,.ref d,.lst (((xs.take (i+1)).filter c).map f),.ins t.Search dx [(("searched"),V.ref x)],.ins C dx [],.ins C dx (c7 f y fs),.Assign [.Attribute o f pos'] value pos,((p),w)::P.zip vs,((i+1+n:Nat):Int),#[cd]=Sum.inl (k:Int),#[ao].map V.int,["document"],some #[bz],pre++[k],m.doc.row.length::m.doc.row.flatMap fY,jj fit c k,h.pend y b,da (b pins s d H Q I h) λc g e=> ?_,(by simp[z]),(by intro z;injection z with z;simp_all),(ms.map #[aX]).map λt=>t.new.length,(("begin"),v0),(o,e,λv z=>by rw[d]at z;cases z),[.ref se,.int (s:Int)],["self","which","value","gone","entry"],["self","runs","rest"],xy c dx2 a2 i2 xs e2 h4 h5 (m _ _ h6),tBM K "list" (Kz K) (iK n) (o8 te vd),qN name c d body a D kV doc F G gn ct,ms.reverse.map #[aX],km d (listed b (lz f).2)|||posOf d 10,kb #[bx] new m.first,jS pos (bV [] X.env),fj (dB (d5 hr (Np T) T.II T.Dg #[C])),bA ?_,HT.gO xs.length 0 lo,[.ref d,.int (kind:Int),.int (bc:Int)],[.ref a],["document","pieces","piece","answer"],x.look.set k v,some (.ref la),some (.builtin "object.__setattr__"),pH x q items p,oi T.len #[bG],cV QJ a6 #[aZ],([#[dx],#[c7],(("steps"),v2)]:List #[o]),K8 K a,J2 ds _ J1 p λd hd=>dk (J0 hd) z2,.lst (xs++[y]),.ins t.dP dx (dS (.ref k) (.ref dd)),(("stretches"),v0),(_,Heap.get?_push_size _ rfl,rfl),[.ref c,.int (k:Int)],[.int (i:Int),.ref p],[.int (-(n:Int)),.cG],["positions","begin"],x.above y c (PySem.mem_of_lookup h),upd H s.heap.objs.size (.tup [x,y]),m _ _ q,lW (bf e) e.parts m,jS lD (bV es X.env),if q<s then[]else _,fs.lookup f,fresh s p c,fB.mp h,(by simp;lia),(by exact pE ‹_›),aj #[cV] (aB #[cY]),([(("kind"),v0),(("unit"),v1)]:List #[o]),V.ref d,(Sum.inl (j:Int):Key),JP a.heap H,CV lD (vX [] X.env),A++b::B,.int ((s.changes.length+1:Nat):Int),("pattern_items":Str),z.pin ((b),o) (jD _ (jD _ (JS k e))),g.sh.take p++(b++[x])++g.sh.drop p,(cS #[am].reverse #[av].reverse:Int),(by rw[bz,aN (by rw[aD];omega)];rfl),(by rw[aE (Nn b.iQ k).symm];exact k),((q.trans B).trans C).trans (a3 a),(t,rfl),(by rw[<-r.length];exact z,?_),(_,e,m _ q),(H,I.tok _,by rw[QL r];exact q),[.int i,.int j],["self","sign"],["numbers"],(∀b∈d,H' b=none),(∀b∈F,H' b=none),upd H c #[cs],upd H a o,upd (upd H dx (.own se)) se #[go],rl v0 v1,rk a r q,rawInt ((i:Int)+1),oi T.len (bH #[i]),lastOf last A,jQ (pc a) k=v,fx st m (f.take i),((false),eval a X.env),eM hr #[aq] T.cE T.g8 (tD T) T.j9,eM hr #[aq] T.bP T.vP (Jw T) T.zC,e.not a o z q,cp g'.pc x #[bQ] a,cf aw,cX _ ao ?_ ?_,(by rw[bG];simp only[aM,ak,aH];lia),(by assumption),a8.of hd.cl.2,a8.ext R HF e,X.AC s H a #[ed] j,X.AC s H a #[ed] d,W X q items f,V.int (v:Int),Sum.inl (b.sg:Int),Str×Nat,Option V,I.ok.bs b o e,.ref r,.lst (r.map V.ref),.jh s (.dK e),.jh o (.dT a),.ins t.dP dx #[c2],.Subscript a b pos,((#[dK].countP (dn (i+1)):Nat):Int),#[i7].find? (λk=>p k s)=some a,("numbers":Str),(_,(cK.of ao,?_,?_,?_,?_)),[some #[bh],some #[ht],some #[bz]],if a∈#[u].take _ then _ else _,if a∈#[u].take 0 then _ else _,(by rw[Ik J1];exact dk (Et ds) z2),([#[br],(("pattern"),v1)]:List #[o]),WB SX #[dg] #[dg] (λ_ _=>rfl),F.args_dict_keyiterator_next_1 _,Dw.readsAll cQ KX ds _ its ha rv,Builtin.bitAnd ((b:Int)/2^p) 1=1,((o,e,ex.1),λa h=> ?_),(.int #[iM],H,I.tok _,#[O],q),(.bl _,e,f,by rw[g.WZ];rfl,i),(∀j,j<k->b.testBit (s+j)=true),upd H dx (.own c),top 108,if cx z 1 99=true then _ else _,hm b _ q λz=>z,envOfC g d s.heap.objs.size f C,_,cV W5 #[aq] #[aZ],_,cN T.fZ,c9 (hR bi fT fU Dq #[dy] #[hU]),c4 (a::A) B (by rw[e];rfl) ?_ c,(by simpa using hw),V.ref x,A++(b++[x])++z::B,.ref fa,.lst (nums #[am]),.ListComp q [(a,i,t,0)] b y,((z.toNat:Nat):Int),((old.length-cS old new:Nat):Int),(i:Int)+(m:Int)*1,((#[cd]),V.ref e.2.1),#[ap].pend.take k,[#[jf],(("end"),v1),(("groups"),v2)],[#[fJ],(("positions_by_sign"),v1)],(y.change:Int),upd H l (.lst (xs.eraseIdx k)),s _ _ D.li.1,s _ _ D.ld.1,pyNext #[gk],pend.filter λy=>y.prop==e.1,o8 (iK 2) vd,o7 (pv 6) a6,h.role a r q,fi _ _ rfl (c4 _ _ rfl rfl ?_),cur t dx a m,c9 (hR bi bR bS fE #[bG] #[X]),(by rw[s];exact a4.mpr (.inl m)),(by rw[d];lia),(by rw[aE n2];exact k2 b o z n1),bf s,(ba j.doc:Int),(ba e.doc:Int),(ba b.doc:Int),a4.mpr #[a0],a b _ q (λ_ _ z=>nomatch z),([#[bq],(("shown"),v1)]:List #[o]),I.cell x c e,Dj t dx ch n,CP rfl,.ref D,.lst (r.map V.ref++[V.ref q5]),.int (z:Int),.int (c:Int),.inl q,(("staying"),v0),(("numbers"),v0),(xs.length,by simp,dR _,h0),(dd.typeIs,λb q=> ?_,hd),["editor","begin"],((k.doc),.refused 2),items.drop (i+1),(by simpa using d),(by simp;simp_all),bV (e::es) X.env,bH (yu #[i] (cV ji #[aZ] a6)),a8.of (l _ _ h4),([#[e6],(("time"),v1)]:List #[o]),Xi l.isList λg m st e=> ?_,Still.of_same sm,.unit f lo hi sp,.lst [.int (-1)],.ins t.Item dx (fe c d g i j),.ins t.Item dx (fe c d e g i),.ins t.Item dx (fe b c d g i),.ins t.Item dx (fe b c d e g),.bl b,(gn,A,outer,s,H,vs,Q,E,()),(a::A,bg ..,λb hb=> ?_),[.ref se,.ref ed,.int (q:Int)],["self","begin","end","piece"],y.mono λl z=>mC k1 k.cu z,vf K h A,upd H s.heap.objs.size #[fp],upd (upd H dx #[gS]) x #[iY],nr ew pO,fx s m a,(by rw[st _ _ b #[b]];exact j),ba j.doc,aB (aW (lY (ag #[i] #[eZ]))),([#[jf],(("end"),v1)]:List #[o]),V.ref ed,.lst acc,.int (Builtin.Int.intBits i),.inr (.inr (by rw[oN];simp)),.inr (.inl (by rw[qu];simp)),.BoolOp .Or (a::b::rest) pos,(h,rfl),(a,H',I.Dp,q),["parts","found"],["cursor","unit"],(∀r,ρ a=some r->¬r.of p),xs≠[]->ys=[]->Q #[bh] H,w a o (U a o e),upd #[b8] r (.lst [.int 0]),ts.drop i,tL d t,some #[x],s _ _ M,pC DG ew (pC NT (WN IR) ew),nums (dZ x),nM m.groups,items.drop (items.length-i),if g=f then some u else i g,if #[et]=true then _ else _,gr #[aq] (pv 4),g.ps.filter λp=>il #[ap],g'.pv a,g'.nx a,f.map Value.ref,e7 rfl #[c] (λr hr=> ?_),e.stays k,dt q h #[b],dn (next s),di st a m,d5 hr (GG T) T.Bf T.wC #[y],d5 hr (Di T) T.A6 T.x8 #[y],d5 hr (DI T) T.yO T.tZ #[y],d5 hr (DH T) T.yN T.tY #[y],cU d (di s a m),cN T.iu,c3 (bf f) v.toNat l u.toNat,c.map V.ref,(by rw[h];decide),(by rw[b];decide),(by intro z;subst z;exact ww),(by exact dj ‹_› ‹_›),bT row,arrOf c,ag (pv 5) #[d6],ag (bH #[i]) aw,ag #[kC] aw,a8.of (l _ _ P),a8.of (e _ _ m),a4.mpr (.inl z),(a.at_:Int),X.mono λl z=>mC A m.cu z,V.ref c,Str×ax,KJ (ps:=ps) (p:=p) (z:=z) h,E.trans (Out.afS b.iQ b.GF),.tup #[B],.ref b,.lst xs.reverse,.inl h,.Name x pos,.Name x a,.Name "range" m,(sO s x).bind λu=>vg u l,((cs.take i).count (j+1):Nat),#[U]-#[R],#[P].take i,(by decide,λp m=> ?_),(∀j,j<n->ns[i+j]?=zs[j]?),(∀j,j<k->Ca x (s+j)=true),some (.Attribute o f pos'),pend.filter λy=> !#[iF],ms.map λm=>decide #[dw],if d7 y=true then _ else _,cp ρ l (some (.pend p k)),aK z rfl ((dm.inj h).symm),Vatrka.finish s kind #[dK],I.base.slot b o q n c #[b],Heap.get?_push_of_some _ e,.Compare a [j,f] [b,c] pos,(q-1,by lia),(he.GF,x3_ _ _ _ he.iQ),[.type "object"],["self","shown"],σ.set i #[h8],yu #[aZ] #[hY],vY lo a none n,upd H an #[ai],t.at_+t.new.length+t.gone,pc a,oi T.len #[dy],((n),(cells.lookup n).getD 0),if f p=true then 1 else 0,g.pc g.sh[p-1],finish s k row,fG es,f9 t (bd p) (pr p) (nx p),cV ji #[bG] a6,c3 x q items s,c3 #[lQ] q l p,_,(by injection z with z;lia),(by injection w with w;lia),aj (gr #[dy] #[bG]) #[cI],ag #[dy] #[bS],a.1::a.2::nM l,Nat×Nat×Bool,.type "method_descriptor",.int ys.length,.BoolOp .Or (b::rest) pos,("searched":Str),[#[gW],(("group_count"),v1)],["position"],["editor","cursor","text"],yu #[i] (cV ji #[jC] a6),wV m k v x,vs++ue,upd H' d u,(st.changes[i].author:Int),pX X.stack,l.length+1,i k S s hm,e.trans e3,(e.doc.changes.length:Int),done++[it],cur t dx a ((j:Nat):Int),(by rw[h];intro z;cases z),(b.doc.changes.length:Int),ag a6 (ag a6 (ag xQ aw)),a7 _ (.inl p) _ #[l4] ?_,Value.ref #[t]::(us++ds),S4 rfl T.enumerate #[eZ],List #[dV],JV K (iK 0) "shown_look",I.sM x c e,F.args_list_extend_2 _ _,.lst (ps.map V.ref++[z]),.lst #[aJ],.inl w,.inl e,.inl (a8.of he.doc.sl.2),((c.toArray.size:Nat):Int),(#[N].drop (i+1)).take n,(s _ _ h,n),(dx,c,lk,lk,li,ld,dd),[.ref a,.ref b],(∀b∈fp,DX X pins H b),yu #[i] #[aZ],yg #[co] (.bl (lz f).1),(xs.length:Int),x3_ _ _ _ (rfl,afo),wW #[Q] #[aQ],upd f D #[gm],upd H l #[cg],uh k v x,top 112,pv 4,nums ns,l.take k++[v],l.filter λy=> !#[iF],l.drop p,g'.bd a,es.take (i+1),dw s.doc,cp ρ c #[cv],cT.mp a,(by rw[bE];lia),(by rw[ak];lia),bQ 3 kP.nd xQ,ag #[i] (ag #[i] #[cE]),ag #[i] (ag #[i] #[bS]),ag #[dy] #[C],ag #[bG] #[X],a8.of (q.not _ _ w G).1,([(("sign"),v0)]:List #[o]),([(("kind"),v0)]:List #[o]),([#[dx],#[c7]]:List #[o]),Value.type.inj (NG q).1,V.ref p,V.ref l,V.int (q:Int),V.int (p:Int),V.int (G:Int),(Sum.inr a:Key),(Sum.inl a:Key),La x q it r s,Key×ax,I.base.slot b o e n G t,I.base.keep b o e n G t,DU #[gK],D λx O=>A x (a9 _ O),.ref sl,.lst ys,.lst [.ref w],.lst (xs++zs),.jh o u,.int (lo:Int),.Compare a [op] [b] pos,(qw s.doc.row).dropLast,((nums #[ej]).length:Int),((cs.take i).count c:Nat),(#[dK].countP (dn c):Nat),#[c1].map λt=>t.gone,#[a8].reverse.map #[aX],!decide (a=b),(i,a,b,by rw[e];rfl),upd H p (.lst (xs++a)),nums x.ins++nums x.del,e7 (e.own _ _ k) ?_ ?_,e6.not _ _ (E _ _ C) A,e6.not _ _ (A _ _ x) s,e.not _ _ (s2 _ _ G) B,(by rw[k];simpa using m),(by dsimp only;simp_all),ag #[ct] (ag #[ct] aw),J.stop i H/\Q #[l0] H,Heap.SameBut.update ..,F++[#[ap].pend.length],((.unit .any 0 99 true),r),.lst (#[bf].map V.ref),.builtin "list.append",.bl (!decide (x= .cG)),.Constant .none j pos',.Attribute o name apos,(((a-lo).toNat:Nat):Int),(n,by simp,dR _,h0),(e,(dm.inj q).symm),(?_,?_,dR _,by lia),(#[],by rw[e];simp),[.ref p],[.ref d,.ref lp,.ref c],[.int (n:Int)],(∀v a,Q v a->Q' v a),wipe a vs,upd H b o,top 41,(t.at_:Int),m.groups[k]?,lo<=k,(l.length:Int),j b o e a,items.drop i,items x.2,iU hy,gv #[t] d.names #[g4],grow k en es,gX (pv 5),g.pv a,g.nx a,(g.groups:Int),g.all x e,f7 gf #[ba] (cN T.rh),f7 gf #[ba] (cN T.oU),f7 gf #[aq] (cN T.Dz),f7 gf #[aZ] (cN T.qS),eval a X.env,cw ps.length,cs.map V.ref,cp pc a x' b,c7 f v fs,(by show 1<1000;decide),(by rw[m];lia),(by rw[bz,aN #[f]];rfl),(ba k.doc:Int),bL P w,ag (pv 7) aw,([]:List #[H]),Vatrka.finish s k row,Sum.inl z,Q4 KX ar ds _ J1 p h2,J.stop i H/\D.nx a H,Fp d p signs,FE d p q k v,Codec.encAll r.args a,((1),1,false),.ref t.u4,.ref t.oz,.ref a.heap.objs.size,.int 1,.int (f i j),.inl (by rw[pN];simp),.dK b,.bl (decide (x= .cG)),(k:Int)+1,#[c6].zip us,(s.groups,5,false),(i,h,λk a=> ?_),(.bl _,H,I,rfl,?_),[.int 1,.int (ch:Int)],upd H1 d (P5 t g d'),upd #[ds] b.dd #[ci],oi T.len (bH (pv 8)),n==("__debug__":Str),l.map λz=>z.toNat,if j<i then j else i,dn c x||decide (c=m),cx z2 0 3&&cx o 0 99,_,cx z2 0 3&&cx m 0 99,cw (x.text.length+1),(by simp only[bI];lia),(by rw[aD];exact be _),(by rw[Er];exact gA _),aK _ (.inl #[hW]) ?_,a8.of (q8 _ _ O nlf),X.trans (Out.same E),I.base.there b o e t,I.base.there b o e a,.lst (nums (ui k x)),.Slice lo hi none p2,(xs.take i).filter c,(0,0,0,0),[z,TI,TO,m,n],[.ref d,.int (p:Int)],[.int 2,.int (k:Int)],[#[jI],(("denied"),v1)],["positions"],["old","new","count"],["calls"],zs.getD 2 0,xs++[v],qY X.fold f,putK o5 #[gi] #[c3],pend++[(m,k,v)],o7 #[aZ] a6,ns.map (fresh st p),ms.map λm=>#[d8],he.doc.role.free k5,he.doc.role.free k3,he pins s p H _ I h,he pins s j H _ I h,he pins s b H _ I h,h.each e he,gr #[aq] a6,g.sh.drop p,fdOf K t.mY,eU _ s _ rfl rfl ?_,eU _ G _ rfl rfl ?_,e7 ?_ ?_ ?_,du.mp h,cw l.length,cV rA (pv 5) (pv 7),cN T.qT,(by rw[aE w];exact P),bs.map V.bl,bV es X.env,ag #[b9] aw,abl rfl rfl rfl rfl,aQ st,a++x::b,Vr k1 k2 k3 f he.GF,Vatrko.command s vc,V.ref a,(Sum.inl (c:Int):Key),SP X pins D,K4.map _ ii,Int×ax,I.tok _,Fo es X.env,Codec.encAll cs a.2,.jh b u,.ins t.dP dxt #[c2],.ins t.Search dx fs,.ins C c (c7 f z b),.bl (!decide (x=y)),.UnaryOp .Not a pos,((i:Nat):Int),(e.trans B).trans E,(v,b,H',d J,r,q),(p,e,xs,i,f,a,z),(p,e,i,f,xs,a,z),(e,?_),[.ref d],[#[l5],(("moves"),v1)],["text"],["editor"],(∀v,((x),v)∉binds),κ×ax,yg v0 v1,xG X.N.length none,uT.mp hm,t.at_+t.new.length,s6 _ _ R,((s),.told (CS m new)),p▸Heap.lt_size i,pc ps[p],nums (mE p st.row),mem.mp m,gX #[aq],gN s k,f pins s d H _ I h,eX.mp nd,eW pc ps,call #[e2] (v::us),c pins s d H _ I h,(by rw[bG];simp;lia),(by rw[aD];simp_all),(by rw[aD];exact li),a7 r rfl _ O #[ep],a7 r rfl _ B #[ep],Va (P:=P) (w:=w) c,Out.ext e6 d6.role,N.length-vs.length,KN (st:=i) B z b k,Itr lo n,ForInStep.yield ok,Do I g hm i ?_ k a,.ref w,.dK o5,.dK [],.bl (decide (x=y)),.Attribute e f pos,((gO n n a:Nat):Int),("matches_from":Str),(z.1,m _ _ z.2),(f,x3_ _ _ _ j),(by lia,by lia),[#[ap].sign],xs=[]->Q #[nE] H,vs.toList.map toV,upd H f0 o,upd H d (.jh c u),r9 c.typeIs #[js],r9 a.typeIs #[js],putK b k z,ox g f k l,oM c.typeIs #[js],oM a.typeIs #[js],nums (flat #[nN]),l.trans sT,kK s #[bp],k3.trans s,k1.trans g,intBits_le_64 a b,i+((m+k:Nat):Int),hs.mv2 s k e #[f],g'.pre++[g'.last],cV ji #[hY] #[bG],(by simpa using hu),(by simpa using h5),(by rw[y,Ve,v];rfl),(by rw[e];exact ao),(by rw[aD];exact p),(by cases e;decide),ba k.doc-1,atKey xs k,aB (aW xQ),a==lx,a.not x o h n f g,(a.gone:Int),([]:List ae),([]:List FG),([#[l6]]:List #[o]),([#[l5]]:List #[o]),([#[jf]]:List #[o]),([#[jI]]:List #[o]),([#[gW]]:List #[o]),([#[fJ]]:List #[o]),([#[e6]]:List #[o]),([#[dx]]:List #[o]),([#[br]]:List #[o]),([#[bq]]:List #[o]),pre++[#[ap].sign],X.NL xe pn,I.cQ.fresh (qW _),I.cQ p _ b,I.cQ d _ h,I.cQ b u e,HN #[bz] (.ref y),ForInStep.yield r,Codec.encAll cs a,A++p::b::B,_,A++b++z::B,.tup (p.1.map kV),.tup #[f1],.tup #[dF],.tup #[aa],.lst (nums #[mZ]),.lst (nums #[da]),.lst (nums #[av]),.lst #[bd],.int (i+j),.int #[iM] s.toks,.ins C d f,.inr #[fR],.inr #[ay],((o.toNat:Nat):Int),#[fy]++nums #[mZ],(q,hm,a,i,o,r),(by decide,hE),(_,_,by rw[e]),[s.heap.objs.size],st.row.filter il,pC DG ew (WN IR),pC DG (DF ew) ew,ns.map WData.int,mem.mpr (.inr m),((k.doc),.refused 1),(iM m s.parts:Int),(iM m b.parts:Int),hl j y v' g C e3,eval #[nI] X.env,es++[((k),l,[en])],e7 (a3 hq) hq ?_,((e.toNat),z2.toNat),d.cQ.fresh #[gw],cp ρ a (some r),cp g'.pc x #[bQ],cF s,b∈S.take (i+1),(by simpa using m),(by simpa using h),(by simpa using f),(by simpa using e),(by simpa using F),(by rw[z];exact a),(by rw[ho];decide),(by rw[W]at j;lia),a∈ck pc p q ps,Out.keep k1 k2 f,I.base.B4 b ps e,Bool->Hp->Prop,.lst [.int (-6)],.inr (.inl #[O]),#[ee].foldl cU s,#[dC]++#[ap].del,(m,k,v),(c,d,a),(_,_,rfl,d,b),(H,I.tok _,q),(H,I,q),[V.ref a],[.ref x],[#[l6],(("at"),v1)],["limit"],yB 1 99 r,y it #[p],xP #[K] d.names,(wo #[i9] tk:Int),vj 44 A,upd H6 ls #[bA],upd H x o,uf r.length x.2,u (i+1) b,top 38,top 111,tL st a,sx st,some u,r.ret.enc #[io],qx .Add,pv 8,pG st k v #[aQ],oi T.len (pv 5),o8 (iK 1) #[lH],o3 rfl u rfl ?_,nums ts,nums (dZ #[oa]),new++x::b,((n),NameKind.cell),m.keep sm,((m.first),m.first),lz f,kj cO*2^1,key _ e,i+0+1+m,gX #[i],gN R k,g.bd p,g'.pc a,fx st m f,((f),first),eq_ gf #[bG] a6,eX.mp h,dw d,counts lo hi sp,ci.mp d,ci.mp a,cU d t,cN T.tO,c.enc a.1,(by rw[jd,n];rfl),(by rw[hsz];simp),(by rw[bI]<;>lia),bp.refl H,ag (cN T.pK) aw,ag (cN T.Jm) aw,a8.of o,a8.of j,a8.of e,a.prop==k,a x o h n,X.Ib E,WD I.cQ e,WC I.cQ e,W x q r s,V.ref r,V.int (fit:Int),Sum.inl (a:Int),Str->Option ax,SS I.cQ e,Nu<#[jR].length,I.loc,I.list hs,I.S3 hd,((C),dx,fs),AD x f,A++z::B,.type T,.tup (b.map kV),.ref q,.ref j,.ref e,.paint f j z2 m,.own a,.int n,.int j,.ins t.fP de [],.ins t.dg dx [],.inr w,.inr h,.change i,.bl (!sp),.author z,.Name y u,(v _).mpr #[fR],((n-1-i:Nat):Int),(i:Int)<0,((b*2^1:Nat):Int),((2^n-1:Nat):Int),#[P].take (i+1),(z,a9 _ b,c),(ob,g,h.2.1),(o,e,ex.2.1),[.int (i:Int),y],["self","words"],(∃m,W 0 m a H),yu #[dy] #[hY],yB x.1 z.1 u.2,upd H3 p #[hk],upd H' P #[nD],upd H dd #[kS],s.changes++[_],pH x q items i,pH x q items f,oi T.len #[ba],oi T.len #[aq],oi T.len #[aZ],nx p,nums #[ap].ins,nA x q items s,my T,me x q s #[mk],(k.doc.time:Int),jj fit a j/2^1,his.mv1 k S hm,gr #[aq] #[aq],g.sh.take p++b,g.sh.getLast b,g.ps.map V.ref,g.cs.map V.ref,f7 gf #[bG] a6,f7 gf #[aZ] a6,es++[((k),l,[])],e3.not a o q n,e.trans af.ext,e.not _ _ h hr,dt q h.cu #[b],cw h.objs.size,cp ρ an #[hJ],cX _ nj rfl ?_,(by split<;>lia),bV [e,f] X.env,ag #[pf] #[cE],ag #[ba] #[hU],X.env::X.outer,St->Hp->Prop,IsRange.new ..,B5 I g hm ?_ a,B5 I b hm ?_ a,.inl (e _ _ h),.bl (ns.all f),(((lo),a,false),u),#[u].map V.ref,#[ir].trans k4,(v,H,I,r,h),(g,by simp),(d,?_),[93,45,33],[.ref d,.ref p],[.int 0,.ref w],vf K a.heap A,v.take i,upd n D #[ar],upd e p #[ce],upd a p #[bL],upd a p #[ai],upd Q r #[ar],upd H p #[tk],upd H l #[pP],upd H l #[nF],upd H l #[jG],upd H a #[iZ],upd H (d b) o,upd A L #[ls],truthy v,(st.author:Int),(st.1:Int),(sh.length:Int),(pe.change:Int),ms.drop #[eT],lO nx nd,l9 _,l.take k,l b D,ki es,id I.loc,hs _ _ g,hs _ _ D,hm x (a9 _ j),go x q r,gX #[aZ],((false),[((c),c)]),e.not _ _ i f,e.not _ _ h f,e.not _ _ g d,dB #[dy],cw (m+1),cp ρ r #[hJ],cp g.bd q c q,cp g.bd p c q,ci.mp hm,(by rw[hs];rfl),bp.tup s D.lo,ba s.doc,ba k.doc,bO hm,ag xQ aw,ag a6 aw,ag Az aw,ag #[bG] #[J],ag #[aZ] #[J],ag #[aZ] #[C],a.not x o h n,Vatrko.ints l,V.ref lr,V.ref lm,V.int (c:Int),TP X pins a Q,SE.inj h,Path.app.mp h,I.ok.O7 b o e,I'.ok.exf b f,Fq d p q,EP X pins c Q,EP X pins b Q,Bk v0 v1,2^ps.length-1,.ref x::#[oB],.int i t,(((x.1),y.1),y.2),((k),x)::r,((j+1:Nat):Int),((2^k:Nat):Int),("at":Str),(u',r',?_),(abL a,?_),(a9 _ b,d),[.ref p,v0,v1],[.ref b],[.int n],[.int (k:Int)],[.int (c:Int)],[(("number"),1)],["sign"],["kind"],((x.1::z.1),z.2),some x,some (k:Int),((s),.refused n),((s),.refused 6),runN b j/2^1,(r.length:Int),r.drop #[jt],pv 7,pv 6,ps.map V.ref,oH new p row,o7 (pv 5) a6,ms.map #[ib],(m.change:Int),l.drop (k+1),l++[p],kK o l,jS pos #[me],hm.step n af,hd.each e he,hQ f p q row,h.mv1 a c hm,g.pc q,g.last,eval b X.env,((e),.refused 5),drop_cons hd,cw bs.length,cX _ W ?_ ?_,c5 x.2,b∈S.take i,(by size_fits),(by rw[e];rfl),(ba i.doc:Int),bV [e] X.env,bT s.doc.row,((b),.refused 5),ag #[i] #[J],a9 _ h,a9 _ a,a8.of r.li.1,a5 e x,a.R0 x o h n,Sj.map V.ref,Obj.mapSeq f,L2.upd H a o,JP h H,I.role a r q,FE s p q k v,.type "list",.ref u,.ref t,.ref m,.lst a,.int z,.int (G:Int),.inr z,.inr k,.inl z,.inl k,.dK (wr b k),.cons r .nil,.bl o.isSome,#[cb].take i,#[cW].drop p,#[aA].take i,("author":Str),(hw x,?_),(d.Ac,?_),(ao,be _),(a,b,c,h),(a,H,I,h),(_,rfl,r),(_,k,rfl),(_,c,rfl),[z::zs,l],[[p,x,y,z,u]],[#[kx],#[gL]],["found"],zs.getD 3 0,(z.toNat:Int),xs++[z],x2_ _ _ rfl,w _ _ B,trk h H,tK xs lo hi,sP he,s _ _ d,rows.take i,qv C dx,ps++[p],pC DG ew ew,p+(i+1),o7 #[zo] a6,o7 #[dy] a6,nums x.look,me x q s it,(m.1:Int),l.map f,l++[it],iK 0,gr #[aq] xQ,gr #[aq] Xo,gN s (f zs),fdOf K t.qR,fdOf K t.pw,fdOf K t.pd,fdOf K t.nH,fdOf K t.nG,fdOf K t.nF,fdOf K t.nE,fdOf K t.nD,fdOf K t.l7,fdOf K t.l6,fdOf K t.l5,fdOf K t.kz,fdOf K t.ky,fdOf K t.kx,fdOf K t.kD,fdOf K t.kC,fdOf K t.ju,fdOf K t.jt,fdOf K t.iG,fdOf K t.gw,fdOf K t.gR,fdOf K t.gQ,fdOf K t.fR,fdOf K t.fQ,fdOf K t.et,f++[g.last],dt q c #[b],dt q E #[b],dt h b #[b],done++[x.1],dH.mp h n a,dB #[i],cp g.pv x x,cp g.nx x x,cO++[c],cN T.uu,cN T.sG,cN T.rg,cN T.qS,cN T.Ak,cN T.Aj,c++[g.last],(by rw[f,xE]),ag #[vD] aw,ag #[ll] aw,aK p rfl ao,a8.of d,a8.of W,a.2.2++[en],a c o h,V b f,Q6 hr,Nat×bB,JV X.K ta f,Fd Jv #[mz],Ext.same s3,Ext.same s2,Ext.same s1,DF ew,D ms.length,D b o e,A++p::B,.ref Ju,.int vl,.int pr,.dict p,.Pass #[rK],(1:Int)<=z,("steps":Str),some (.ref z_),(_,aF X G z_),dB (d5 hr #[xf] T.m9 T.lM (ag #[aq] (ag (cN z_) aw))),fdOf K z_,.inl (rfl,_,a8.of z_),ag #[aq] (ag (cN z_) aw),.ins t.Item dx (fe (.int z_) .cG #[gU] #[gU] #[hZ]),aB (aW (d5 hr (NW T) T.MD T.Jr (ag (cN z_) aw))),b9 _ _ _ z_ T.cg T.cv _ cJ _ rfl ?_,.lst (nums z_),.inl (a8.of z_),.ref z_,PySem.mem_of_lookup z_,o1.trans (Out.same z_),bQ 2 z_ #[d],dt q z_ #[b],if dn c z_=true then 1 else 0,x6_ dx z_ _ _ _ _ #[mL],cX l rfl (_,a8.of z_) ?_,nq hr #[aq] T.cE T.fg (lu T) T.gq z_,if z_=d then _ else _,Out.same z_,d5 hr #[xf] T.m9 T.lM (ag #[aq] z_),[.ref z_,.int (k:Int),.int (v:Int)],Ne.symm z_,.ins z_ dx [],(_,a8.of z_),a7 z_ rfl _ rfl ?_,ag z_ aw,c9 (hR bi fT fU Fc #[dy] z_),c9 (hR bi bR bS fE #[dy] z_),aB (aW z_),I.tuple z_,I.ok.hd z_,he pins s z_ H _ I h,f7 gf #[bG] (cN z_),z_ pins s c H _ I h,(s.groups,z_,s.within),x7_ x z_ _ _ _ _ _ #[dT],gy I q (dA not z_),z_ it #[p],ag #[aq] z_,Ext.same z_,aK _ (.inl z_) ?_,f7 xS z_ #[ni],some (.int 2 z_),some (.int 1 z_),bQ 3 z_ #[d],z_ _ _ #[mW],h pins s z_ H _ I hw,Ij rfl T.reversed z_,.inl (_,.inl z_),((z_),.refused 1),upd z_ dx #[gS],some (.int (-1) z_),z_ pins s g H _ I h,z_ pins s f H _ I h,z_ pins s e H _ I h,eval z_ env,upd z_ p #[ii],ne _ _ z_ #[b],aB (Bl 2 z_ a6 wO),((z_-1:Nat):Int),((z_+j:Nat):Int),some (.int 99 z_),((ba z_-1:Nat):Int),z_ V.ref,bQ 2 z_ #[kC],.lst z_,some (.int 3 z_),some z_,putK z_ k v,hr.mono z_,ag #[aZ] z_,a7 _ z_ _ rfl ?_,a4.mpr (.inl z_),Ext.upd z_,Ext.same (a3 z_),counts lo z_ sp,bQ 3 z_ #[i],aB (aW (lY z_)),aB (aW (cf z_)),aB (aW (cN z_)),Heap.lt_size z_,[.ref c,.ref z_],upd H c z_,upd z_ p #[ml],upd z_ D #[ar],f7 zo #[bG] z_,cV rA #[aZ] z_,([]:List z_),I.pin p z_,DV z_ m pl,.tup (nums z_),((z_+1:Nat):Int),aK _ #[Ce,z_] ?_,cf #[Cw,z_],y.trans #[Cp,z_],(by dsimp only[b6,aZ,bC,bD,ak,aH,ay,az,aG,aJ,aO,aP]),(by simp[-ah,-aa,-ai,-aR,au]),(by simp[-ah,-aa,-ai,-aR,au,w,T.oW,T.kH,oC,T.pB,qu,m,n,T.dQ,T.fI]),(by have CK:aS=16777216:=cH),(by simp[-ah,-aa,-ai,-aR,au,vC]),(by exact Heap.lt_size e),(by dsimp only),(by rw[aq rfl]),(by refine(rfl,?_)),(by rw[am #[c]]),(by simp only[ak]),(by simp[-ah,-aa,-ai,-aR,au,hd.d.2,T.bo,T.cP,dc]),(by let(d,b,rfl):=21 #[iO]),(by have:decide #[uX]=decide #[zL]:=decide_eq_decide.mpr (λw=>((v b).mp w).resolve_right z,λw=>(v b).mpr #[oX])),(by simp[-ah,-aa,-ai,-aR,au,uI]),(by dsimp only[dv]),(by dsimp only[dv]at h),(by cases this),(by have e:f.cells.lookup y=some c:=e),(by let(t,rfl):=1 b),(by exact Gw (Q:=λb=>Q #[mq] H) k),(by exact .refl),(by dsimp only at h),(by cases h),(by cases r<;>first|(obtain⟨_,_,_,z,_⟩:=f;cases z)|(let(_,z):=1 f;cases z)),(by let(e,he):=1 #[sc]),(by let(j,d):=1 #[cK]),(by simpa [-aa,-ai,-aR,au]using q),(by rcases h with(h|⟨ob,h⟩)|h),(by exact #[bv]),(by simp[-ah,-aa,-ai,-aR,au]at q),(by refine #[ug].yz (λc v a q=>k c v ?_ q) (λ_ q=>q) λ_ _ q=>q),(by exact .inr h),(by rw[this]),(by let⟨n,rfl,k⟩:=521 h),(by have e:¬a∈ck pc p q (a::ps):=λz=>sub _ _ _ ((c a).mp z) rfl),(by rw[show c7 f v #[y1]=#[di]from rfl]),(by exact this),(by rcases b7.mp a with rfl|a),(by rw[aq #[f]]),(by have hcp:=iN he.good),(by rw[show a.toArray.any (QU x)=a.any (QU x) by simp,abe r fs]),(by refine⟨λi m a H=>m=n-i/\i<=n/\Pv i a H,#[qm],?_⟩),(by rw[am #[f]]),(by by_cases a:shown x=true),(by subst this),(by have r:ns[i]?=some z:=hz 0 #[c]),(by simp[-ah,au,-ai]),(by by_cases e:p.1=k),(by let⟨t,rfl⟩:=1 r),(by exact FA trivial #[hK]),(by exact a4.mpr #[a0]),(by simp[-ah,-aa,-ai,-aR,au,C,bM]),(by rcases q with(q|⟨ob,q⟩)|q),(by have adD:cF b=ba b.doc-1:=rfl),(by obtain⟨⟨de,d,lp,pt,pr,vl,g,rs,he⟩,B,C⟩:=hS),(by simp only[vY,HT.gO,UC,show(1:Int)>0 by decide,FH]),(by refine aX #[js]),(by refine⟨rfl,vB _ _ _ b.iQ T.cg T.mH An #[bo]⟩),(by exact⟨λh=>by injection h,λh=>by rw[h]⟩),(by let⟨z,rfl⟩:=1 (ve o)),(by simp only[ro,c]at h'),(by rw[am #[w]]),(by have d':Data.seq vs.toArray _=Data.dict es t:=d),(by rw[aE (λz=>by rw[z,h]at q;cases q;exact g)]),(by have a:(g==k)=false:=beq_eq_false_iff_ne.mpr h),(by refine aX ?_),(by have:X.env.scope.names.lookup x=some .free:=a),(by have k:cq K t ρ H ed c dx a #[vR] #[be] Q:=k),(by have k:cq K t ρ H ed c dx a #[vR] #[b2] Q:=k),(by intro X hP hw hK U i pins s σ H E I V st hg),(by exact rb λl=>rfl),(by rcases b7.mp h with rfl|h),(by let⟨n,rfl,k⟩:=21 h),(by let⟨n,rfl,_⟩:=21 h),(by have k:∀b∈A,b∈a::A:=λb hb=>a9 _ hb),(by refine k _ (λa f=> ?_) λa l m n=> ?_),(by have x:a.length=vs.length:=Paired.length t),(by have e:widths (m::ms)=#[dL]+widths ms:=rfl),(by rw[<-z,hd]at this),(by exact a4.mpr #[l4]),(by refine k _ (λa b=> ?_) λa g i=> ?_),(by intro X y hw B S i pins s T H E I x st C),(by intro X y hw B R i pins s S H E I r st C),(by intro X r hw t L i pins s M H E I q st y),(by intro X J hw L F i pins s Z H E I y st M),(by intro X B hw C U i pins s W H E I y st D),(by have d:decide (0<=n)=true:=dH.mp h0 n b),(by rcases b7.mp h with e|h),(by have hs:aS=16777216:=cH),(by have z2:WData.weightAll ds<=1048576:=z),(by refine #[q]),(by have q:Hn d=true/\DY ds=true:=Nr.mp p),(by intro pins s p H Q I h),(by intro pins s g H Q I h),(by intro pins s e H Q I h),(by intro pins s b H D I h),(by by_cases h:p<cO.length),(by exact⟨λc e=>#[tS],a.tail.tail⟩),(by exact⟨_,e⟩),(by by_cases z:b=a),(by let⟨m,p,B,q,r,u⟩:=100 #[CI,d]),(by let⟨e,n,ne,nf,d⟩:=80 #[Dx,hp]),(by let⟨a,b,l,r,rfl,p,q,c⟩:=564 h),(by let⟨F,G,W,J,L,M⟩:=100 #[CI,x]),(by let⟨D,F,U,G,J,L⟩:=100 #[CI,r]),(by let⟨B,C,Y,D,F,G⟩:=100 #[CI,q]),(by let⟨A,B,O,C,D,F⟩:=100 #[CI,j]),(by have d:¬q.1=k:=λz=>e (f.trans z)),(by have a:(g==k)=true:=beq_iff_eq.mpr h),(by let⟨e,y⟩:=20 y),(by simp[-ah,-aa,-aR,au,j,T.b8,T.fH,oP]),(by simp[-ah,-aa,-aR,au,f,T.b8,T.fH,oP]),(by refine Mf (gA _) #[rB] λj b=> ?_),(by let⟨t,y,p,hz⟩:=41 (I.list l)),(by obtain⟨k,rfl⟩:∃k,q=k+1:=#[n1]),(by let⟨O,rv,p,_⟩:=41 (I.list r)),(by let⟨O,R,p,hz⟩:=41 (I.list B)),(by let⟨B,C,p2,_⟩:=41 (I.list t)),(by exact .inl #[wK]),(by exact .inl #[nG]),(by simp[-ah,-aa,-ai,-aR,au,hm.d.2,rT]),(by simp[-ah,-aa,-ai,-aR,au,hd.d.2,qL]),(by rw[am (show¬(#[et]=true)from cA)]),(by refine #[cx]),(by rcases xW g.last A with⟨z,_⟩|z),(by let⟨P,A,e3,Q,R,S⟩:=81 #[zz]),(by let⟨J,L,Y,M,N,O⟩:=100 #[vo]),(by intro pins s c H x y v u Q I b a h),(by simp[-ah,-aa,-aR,au]),(by injection q with q _),(by injection e with c _),(by rw[h.yz,g s 0 (λz=>h0 z.symm)]),(by rcases I.ok.stk with e|⟨e,hf⟩),(by rcases a with(a|a)|⟨y,b,rfl⟩),(by let⟨us,j,d,k⟩:=41 (i a c)),(by let⟨rfl,rfl⟩:=20 (Fw m a)),(by let⟨rfl,rfl⟩:=20 (Fw l j)),(by let⟨rfl,rfl⟩:=20 (Fw l f)),(by let⟨q,hm,r⟩:=21 (z a i p)),(by let⟨cm,hcm,rfl⟩:=21 #[qE]),(by let⟨a,ns,rfl,c,d,k⟩:=62 h),(by have Lm:ns[i]?=some z:=hz 0 #[c]),(by by_cases h0:k=0),(by simp only[Ub,GW,GX]),(by exact absurd #[O] b),(by let⟨ob,_,_,g,h,_⟩:=43 dd),(by let⟨a,bs,rfl,hs,q⟩:=42 h),(by exact Heap.get?_push_size _ rfl),(by exact ao),(by let⟨z,hz,rfl⟩:=21 #[iO]),(by let⟨r,hr,rfl⟩:=21 #[qE]),(by let⟨p,rfl,h⟩:=21 (CW h)),(by let⟨e1,e2,e3⟩:=40 #[cH]),(by intro pins s t H vs us Q I r h),(by subst e),(by exact .ahN rfl rfl),(by cases e),(by unfold nums),(by unfold HZ at h),(by simp[-ah,-aa,-ai,-aR,au,l,bM]),(by simp[-ah,-aa,-ai,-aR,au,j,bM]),(by simp only[aD,vF,SG,bK,ud]at a),(by let⟨u',r',q⟩:=21 #[uO]),(by let⟨d,k,l,_⟩:=41 #[wt]),(by let⟨a,b,rfl⟩:=21 #[v2]),(by let⟨A,h1,h2⟩:=21 #[jF]),(by refine eY ?_),(by intro ps l h),(by exact yo _ _),(by exact .inl h),(by rw[d8,d8,nk,nz,ze,J]at q ⊢),(by let⟨y,F,n⟩:=40 (sP l)),(by let⟨k,e,i⟩:=21 (zm i)),(by let⟨a,ns,rfl,_⟩:=22 h),(by let⟨E,e,r⟩:=21 (Ih J)),(by have k1:dI c H #[kn]:=dI.upd),(by have d:q.1=k:=f.symm.trans e),(by rcases G with z|z),(by rw[<-this sg,<-this XM,e]),(by let⟨u,f,h⟩:=21 #[jW]),(by let⟨o,z,_⟩:=21 #[kr]),(by let⟨f,g,c⟩:=40 #[AF]),(by obtain rfl:u=Value.ref a:=M),(by by_cases a:mF z #[yA]=false),(by subst ex),(by rw[aq a,aq a]),(by rw[am a,am a]),(by rw[List.head?_drop]at this),(by let⟨c,rfl,k⟩:=521 h),(by let⟨as,hr⟩:=1 #[k7]),(by have a:=b (m/2) #[f] (n/2)),(by rw[List.tail_drop]at this),(by rcases b7.mp b with rfl|b),(by let⟨sl,g⟩:=1 #[pK]),(by let⟨sl,d⟩:=1 #[nY]),(by let⟨o',g⟩:=1 #[rF]),(by let⟨S,hm⟩:=1 #[tK]),(by let⟨C,D⟩:=20 #[te]),(by cases q),(by rw[am #[j]]),(by exact #[fz]),(by exact #[e7]),(by exact #[aN]),(by simp[-ah,-aa,-aR,au]at q),(by simp only[ak]at this ⊢),(by rw[oF,g,J7,d.word,d.aiv]),(by rw[hd.cn c,<-hd.row,Ew]),(by rw[e]at h),(by rcases e' with q|q|q|q|q),(by rcases b7.mp hb with e|m),(by let⟨B,t⟩:=1 #[rG]),(by intro l pins s e H Q I h),(by intro f pins s d H Q I h),(by exact q),(by exact absurd #[sV] #[ye]),(by refine Io ?_ ?_),(by have Zb:=hd.cnt),(by exact nomatch e),(by subst y hw B),(by simp at this),(by refine dO λm hm=> ?_),(by refine #[hn]),(by refine #[gP]),(by let⟨t',rfl⟩:=1 d),(by exact absurd #[pA] #[c]),(by exact .inr q),(by exact .inl q),(by by_cases h:∃r,u=93::r),(by by_cases h:shown x=true),(by rw[aE c,ao,bJ c,df,df]),(by rw[Heap.size_push]at x),(by refine fA λb _=> ?_),(by let⟨t,rfl⟩:=1 k),(by let⟨r,rfl⟩:=1 h),(by let⟨hs,q⟩:=20 h),(by let⟨hd,T⟩:=20 C),(by let⟨hd,G⟩:=20 D),(by let⟨hd,D⟩:=20 C),(by intro pins s j H Q I h),(by intro pins s f H Q I h),(by intro pins s e H D I h),(by have B:aS=16777216:=cH),(by have B:=Fz m r (s+k) n),(by exact d.SO #[gw] #[uT]),(by exact I.ok.has _ #[Ae]),(by exact I.ok.has _ #[Ac]),(by by_cases h:p<ps.length),(by by_cases h:i<xs.length),(by unfold ra at h),(by unfold eW),(by rw[e]at k),(by rw[Vals.agt r]),(by exact⟨o,e⟩),(by by_cases e:k=j),(by by_cases e:a=b),(by simp only[h,FH]<;>lia),(by simp only[h,Ab]<;>lia),(by exact(f.val k).getD n),(by exact b _ (T.plain H)),(by exact Paired.length z),(by by_cases b:#[aY]=true)]
section
variable{A B C D E F H I J K L M N O P Q R:Type}{G:Prop}
def e1_0{p:A->Prop}(h:∃a,p a)(f:∀a,p a->G):G:=h.elim f
def e2_0{p:A->B->Prop}(h:∃a b,p a b)(f:∀a b,p a b->G):G:=h.elim λa h=>e1_0 h (f a)
def e3_0{p:A->B->C->Prop}(h:∃a b c,p a b c)(f:∀a b c,p a b c->G):G:=h.elim λa h=>e2_0 h (f a)
def e4_0{p:A->B->C->D->Prop}(h:∃a b c d,p a b c d)(f:∀a b c d,p a b c d->G):G:=h.elim λa h=>e3_0 h (f a)
def e5_0{p:A->B->C->D->E->Prop}(h:∃a b c d e,p a b c d e)(f:∀a b c d e,p a b c d e->G):G:=h.elim λa h=>e4_0 h (f a)
def e6_0{p:A->B->C->D->E->F->Prop}(h:∃a b c d e g,p a b c d e g)(f:∀a b c d e g,p a b c d e g->G):G:=h.elim λa h=>e5_0 h (f a)
def e7_0{p:A->B->C->D->E->F->H->Prop}(h:∃a b c d e g i,p a b c d e g i)(f:∀a b c d e g i,p a b c d e g i->G):G:=h.elim λa h=>e6_0 h (f a)
def e8_0{p:A->B->C->D->E->F->H->I->Prop}(h:∃a b c d e g i j,p a b c d e g i j)(f:∀a b c d e g i j,p a b c d e g i j->G):G:=h.elim λa h=>e7_0 h (f a)
def e9_0{p:A->B->C->D->E->F->H->I->J->Prop}(h:∃a b c d e g i j k,p a b c d e g i j k)(f:∀a b c d e g i j k,p a b c d e g i j k->G):G:=h.elim λa h=>e8_0 h (f a)
def e10_0{p:A->B->C->D->E->F->H->I->J->K->Prop}(h:∃a b c d e g i j k l,p a b c d e g i j k l)(f:∀a b c d e g i j k l,p a b c d e g i j k l->G):G:=h.elim λa h=>e9_0 h (f a)
def e0_1{p q:Prop}(h:p/\q)(f:p->q->G):G:=f h.1 h.2
def e0_2{p q r:Prop}(h:p/\q/\r)(f:p->q->r->G):G:=e0_1 h.2 (f h.1)
def e0_3{p q r s:Prop}(h:p/\q/\r/\s)(f:p->q->r->s->G):G:=e0_2 h.2 (f h.1)
def e0_4{p q r s t:Prop}(h:p/\q/\r/\s/\t)(f:p->q->r->s->t->G):G:=e0_3 h.2 (f h.1)
def e0_5{p q r s t u:Prop}(h:p/\q/\r/\s/\t/\u)(f:p->q->r->s->t->u->G):G:=e0_4 h.2 (f h.1)
def e0_6{p q r s t u v:Prop}(h:p/\q/\r/\s/\t/\u/\v)(f:p->q->r->s->t->u->v->G):G:=e0_5 h.2 (f h.1)
def e0_7{p q r s t u v w:Prop}(h:p/\q/\r/\s/\t/\u/\v/\w)(f:p->q->r->s->t->u->v->w->G):G:=e0_6 h.2 (f h.1)
def e0_8{p q r s t u v w x:Prop}(h:p/\q/\r/\s/\t/\u/\v/\w/\x)(f:p->q->r->s->t->u->v->w->x->G):G:=e0_7 h.2 (f h.1)
def e0_9{p q r s t u v w x y:Prop}(h:p/\q/\r/\s/\t/\u/\v/\w/\x/\y)(f:p->q->r->s->t->u->v->w->x->y->G):G:=e0_8 h.2 (f h.1)
def e0_10{p q r s t u v w x y z:Prop}(h:p/\q/\r/\s/\t/\u/\v/\w/\x/\y/\z)(f:p->q->r->s->t->u->v->w->x->y->z->G):G:=e0_9 h.2 (f h.1)
def e0_11{p q r s t u v w x y z a:Prop}(h:p/\q/\r/\s/\t/\u/\v/\w/\x/\y/\z/\a)(f:p->q->r->s->t->u->v->w->x->y->z->a->G):G:=e0_10 h.2 (f h.1)
def e0_12{p q r s t u v w x y z a b:Prop}(h:p/\q/\r/\s/\t/\u/\v/\w/\x/\y/\z/\a/\b)(f:p->q->r->s->t->u->v->w->x->y->z->a->b->G):G:=e0_11 h.2 (f h.1)
def e0_13{p q r s t u v w x y z a b c:Prop}(h:p/\q/\r/\s/\t/\u/\v/\w/\x/\y/\z/\a/\b/\c)(f:p->q->r->s->t->u->v->w->x->y->z->a->b->c->G):G:=e0_12 h.2 (f h.1)
def e1_1{p q:A->Prop}(h:∃a,p a/\q a)(f:∀a,p a->q a->G):G:=e1_0 h λa h=>e0_1 h (f a)
def e1_2{p q r:A->Prop}(h:∃a,p a/\q a/\r a)(f:∀a,p a->q a->r a->G):G:=e1_0 h λa h=>e0_2 h (f a)
def e1_3{p q r s:A->Prop}(h:∃a,p a/\q a/\r a/\s a)(f:∀a,p a->q a->r a->s a->G):G:=e1_0 h λa h=>e0_3 h (f a)
def e1_4{p q r s t:A->Prop}(h:∃a,p a/\q a/\r a/\s a/\t a)(f:∀a,p a->q a->r a->s a->t a->G):G:=e1_0 h λa h=>e0_4 h (f a)
def e2_1{p q:A->B->Prop}(h:∃a b,p a b/\q a b)(f:∀a b,p a b->q a b->G):G:=e2_0 h λa b h=>e0_1 h (f a b)
def e2_2{p q r:A->B->Prop}(h:∃a b,p a b/\q a b/\r a b)(f:∀a b,p a b->q a b->r a b->G):G:=e2_0 h λa b h=>e0_2 h (f a b)
def e2_3{p q r s:A->B->Prop}(h:∃a b,p a b/\q a b/\r a b/\s a b)(f:∀a b,p a b->q a b->r a b->s a b->G):G:=e2_0 h λa b h=>e0_3 h (f a b)
def e2_4{p q r s t:A->B->Prop}(h:∃a b,p a b/\q a b/\r a b/\s a b/\t a b)(f:∀a b,p a b->q a b->r a b->s a b->t a b->G):G:=e2_0 h λa b h=>e0_4 h (f a b)
def e3_1{p q:A->B->C->Prop}(h:∃a b c,p a b c/\q a b c)(f:∀a b c,p a b c->q a b c->G):G:=e3_0 h λa b c h=>e0_1 h (f a b c)
def e3_2{p q r:A->B->C->Prop}(h:∃a b c,p a b c/\q a b c/\r a b c)(f:∀a b c,p a b c->q a b c->r a b c->G):G:=e3_0 h λa b c h=>e0_2 h (f a b c)
def e3_3{p q r s:A->B->C->Prop}(h:∃a b c,p a b c/\q a b c/\r a b c/\s a b c)(f:∀a b c,p a b c->q a b c->r a b c->s a b c->G):G:=e3_0 h λa b c h=>e0_3 h (f a b c)
def e3_4{p q r s t:A->B->C->Prop}(h:∃a b c,p a b c/\q a b c/\r a b c/\s a b c/\t a b c)(f:∀a b c,p a b c->q a b c->r a b c->s a b c->t a b c->G):G:=e3_0 h λa b c h=>e0_4 h (f a b c)
def e4_2{p q r:A->B->C->D->Prop}(h:∃a b c d,p a b c d/\q a b c d/\r a b c d)(f:∀a b c d,p a b c d->q a b c d->r a b c d->G):G:=e4_0 h λa b c d h=>e0_2 h (f a b c d)
def e4_3{p q r s:A->B->C->D->Prop}(h:∃a b c d,p a b c d/\q a b c d/\r a b c d/\s a b c d)(f:∀a b c d,p a b c d->q a b c d->r a b c d->s a b c d->G):G:=e4_0 h λa b c d h=>e0_3 h (f a b c d)
def e9_7{p q r s t u v w:A->B->C->D->E->F->H->I->J->Prop}(h:∃a b c d e g i j k,p a b c d e g i j k/\q a b c d e g i j k/\r a b c d e g i j k/\s a b c d e g i j k/\t a b c d e g i j k/\u a b c d e g i j k/\v a b c d e g i j k/\w a b c d e g i j k)(f:∀a b c d e g i j k,p a b c d e g i j k->q a b c d e g i j k->r a b c d e g i j k->s a b c d e g i j k->t a b c d e g i j k->u a b c d e g i j k->v a b c d e g i j k->w a b c d e g i j k->G):G:=e9_0 h λa b c d e g i j k h=>e0_7 h (f a b c d e g i j k)
def x2_{p':A->B->Prop}(a b)(h':p' a b):∃a b,p' a b:=(a,b,h')
def x3_{p':A->B->C->Prop}(a b c)(h':p' a b c):∃a b c,p' a b c:=(a,b,c,h')
def x4_{p':A->B->C->D->Prop}(a b c d)(h':p' a b c d):∃a b c d,p' a b c d:=(a,b,c,d,h')
def x5_{p':A->B->C->D->E->Prop}(a b c d e)(h':p' a b c d e):∃a b c d e,p' a b c d e:=(a,b,c,d,e,h')
def x6_{p':A->B->C->D->E->F->Prop}(a b c d e g)(h':p' a b c d e g):∃a b c d e g,p' a b c d e g:=(a,b,c,d,e,g,h')
def x7_{p':A->B->C->D->E->F->H->Prop}(a b c d e g i)(h':p' a b c d e g i):∃a b c d e g i,p' a b c d e g i:=(a,b,c,d,e,g,i,h')
def x8_{p':A->B->C->D->E->F->H->I->Prop}(a b c d e g i j)(h':p' a b c d e g i j):∃a b c d e g i j,p' a b c d e g i j:=(a,b,c,d,e,g,i,j,h')
def x9_{p':A->B->C->D->E->F->H->I->J->Prop}(a b c d e g i j k)(h':p' a b c d e g i j k):∃a b c d e g i j k,p' a b c d e g i j k:=(a,b,c,d,e,g,i,j,k,h')
def x10_{p':A->B->C->D->E->F->H->I->J->K->Prop}(a b c d e g i j k l)(h':p' a b c d e g i j k l):∃a b c d e g i j k l,p' a b c d e g i j k l:=(a,b,c,d,e,g,i,j,k,l,h')
abbrev ch1(i:Nonempty (A×Unit))(p:A->Prop):A×Unit:=Classical.epsilon λu=>p u.1
def eh1[i:Nonempty (A×Unit)]{p:A->Prop}(h:∃a,p a)(f:p (ch1 i p).1->G):G:=f (e1_0 h λa h=>@Classical.epsilon_spec _ (λu:A×Unit=>p u.1) ((a,()),h))
abbrev ch2(i:Nonempty (A×B×Unit))(p:A->B->Prop):A×B×Unit:=Classical.epsilon λu=>p u.1 u.2.1
def eh2[i:Nonempty (A×B×Unit)]{p:A->B->Prop}(h:∃a b,p a b)(f:p (ch2 i p).1 (ch2 i p).2.1->G):G:=f (e2_0 h λa b h=>@Classical.epsilon_spec _ (λu:A×B×Unit=>p u.1 u.2.1) ((a,b,()),h))
abbrev ch3(i:Nonempty (A×B×C×Unit))(p:A->B->C->Prop):A×B×C×Unit:=Classical.epsilon λu=>p u.1 u.2.1 u.2.2.1
def eh3[i:Nonempty (A×B×C×Unit)]{p:A->B->C->Prop}(h:∃a b c,p a b c)(f:p (ch3 i p).1 (ch3 i p).2.1 (ch3 i p).2.2.1->G):G:=f (e3_0 h λa b c h=>@Classical.epsilon_spec _ (λu:A×B×C×Unit=>p u.1 u.2.1 u.2.2.1) ((a,b,c,()),h))
abbrev ch4(i:Nonempty (A×B×C×D×Unit))(p:A->B->C->D->Prop):A×B×C×D×Unit:=Classical.epsilon λu=>p u.1 u.2.1 u.2.2.1 u.2.2.2.1
def eh4[i:Nonempty (A×B×C×D×Unit)]{p:A->B->C->D->Prop}(h:∃a b c d,p a b c d)(f:p (ch4 i p).1 (ch4 i p).2.1 (ch4 i p).2.2.1 (ch4 i p).2.2.2.1->G):G:=f (e4_0 h λa b c d h=>@Classical.epsilon_spec _ (λu:A×B×C×D×Unit=>p u.1 u.2.1 u.2.2.1 u.2.2.2.1) ((a,b,c,d,()),h))
abbrev ch5(i:Nonempty (A×B×C×D×E×Unit))(p:A->B->C->D->E->Prop):A×B×C×D×E×Unit:=Classical.epsilon λu=>p u.1 u.2.1 u.2.2.1 u.2.2.2.1 u.2.2.2.2.1
def eh5[i:Nonempty (A×B×C×D×E×Unit)]{p:A->B->C->D->E->Prop}(h:∃a b c d e,p a b c d e)(f:p (ch5 i p).1 (ch5 i p).2.1 (ch5 i p).2.2.1 (ch5 i p).2.2.2.1 (ch5 i p).2.2.2.2.1->G):G:=f (e5_0 h λa b c d e h=>@Classical.epsilon_spec _ (λu:A×B×C×D×E×Unit=>p u.1 u.2.1 u.2.2.1 u.2.2.2.1 u.2.2.2.2.1) ((a,b,c,d,e,()),h))
abbrev ch6(i:Nonempty (A×B×C×D×E×F×Unit))(p:A->B->C->D->E->F->Prop):A×B×C×D×E×F×Unit:=Classical.epsilon λu=>p u.1 u.2.1 u.2.2.1 u.2.2.2.1 u.2.2.2.2.1 u.2.2.2.2.2.1
def eh6[i:Nonempty (A×B×C×D×E×F×Unit)]{p:A->B->C->D->E->F->Prop}(h:∃a b c d e g,p a b c d e g)(f:p (ch6 i p).1 (ch6 i p).2.1 (ch6 i p).2.2.1 (ch6 i p).2.2.2.1 (ch6 i p).2.2.2.2.1 (ch6 i p).2.2.2.2.2.1->G):G:=f (e6_0 h λa b c d e g h=>@Classical.epsilon_spec _ (λu:A×B×C×D×E×F×Unit=>p u.1 u.2.1 u.2.2.1 u.2.2.2.1 u.2.2.2.2.1 u.2.2.2.2.2.1) ((a,b,c,d,e,g,()),h))
abbrev ch7(i:Nonempty (A×B×C×D×E×F×H×Unit))(p:A->B->C->D->E->F->H->Prop):A×B×C×D×E×F×H×Unit:=Classical.epsilon λu=>p u.1 u.2.1 u.2.2.1 u.2.2.2.1 u.2.2.2.2.1 u.2.2.2.2.2.1 u.2.2.2.2.2.2.1
def eh7[i:Nonempty (A×B×C×D×E×F×H×Unit)]{p:A->B->C->D->E->F->H->Prop}(h:∃a b c d e g i,p a b c d e g i)(f:p (ch7 i p).1 (ch7 i p).2.1 (ch7 i p).2.2.1 (ch7 i p).2.2.2.1 (ch7 i p).2.2.2.2.1 (ch7 i p).2.2.2.2.2.1 (ch7 i p).2.2.2.2.2.2.1->G):G:=f (e7_0 h λa b c d e g i h=>@Classical.epsilon_spec _ (λu:A×B×C×D×E×F×H×Unit=>p u.1 u.2.1 u.2.2.1 u.2.2.2.1 u.2.2.2.2.1 u.2.2.2.2.2.1 u.2.2.2.2.2.2.1) ((a,b,c,d,e,g,i,()),h))
abbrev ch8(i:Nonempty (A×B×C×D×E×F×H×I×Unit))(p:A->B->C->D->E->F->H->I->Prop):A×B×C×D×E×F×H×I×Unit:=Classical.epsilon λu=>p u.1 u.2.1 u.2.2.1 u.2.2.2.1 u.2.2.2.2.1 u.2.2.2.2.2.1 u.2.2.2.2.2.2.1 u.2.2.2.2.2.2.2.1
def eh8[i:Nonempty (A×B×C×D×E×F×H×I×Unit)]{p:A->B->C->D->E->F->H->I->Prop}(h:∃a b c d e g i j,p a b c d e g i j)(f:p (ch8 i p).1 (ch8 i p).2.1 (ch8 i p).2.2.1 (ch8 i p).2.2.2.1 (ch8 i p).2.2.2.2.1 (ch8 i p).2.2.2.2.2.1 (ch8 i p).2.2.2.2.2.2.1 (ch8 i p).2.2.2.2.2.2.2.1->G):G:=f (e8_0 h λa b c d e g i j h=>@Classical.epsilon_spec _ (λu:A×B×C×D×E×F×H×I×Unit=>p u.1 u.2.1 u.2.2.1 u.2.2.2.1 u.2.2.2.2.1 u.2.2.2.2.2.1 u.2.2.2.2.2.2.1 u.2.2.2.2.2.2.2.1) ((a,b,c,d,e,g,i,j,()),h))
abbrev ch9(i:Nonempty (A×B×C×D×E×F×H×I×J×Unit))(p:A->B->C->D->E->F->H->I->J->Prop):A×B×C×D×E×F×H×I×J×Unit:=Classical.epsilon λu=>p u.1 u.2.1 u.2.2.1 u.2.2.2.1 u.2.2.2.2.1 u.2.2.2.2.2.1 u.2.2.2.2.2.2.1 u.2.2.2.2.2.2.2.1 u.2.2.2.2.2.2.2.2.1
def eh9[i:Nonempty (A×B×C×D×E×F×H×I×J×Unit)]{p:A->B->C->D->E->F->H->I->J->Prop}(h:∃a b c d e g i j k,p a b c d e g i j k)(f:p (ch9 i p).1 (ch9 i p).2.1 (ch9 i p).2.2.1 (ch9 i p).2.2.2.1 (ch9 i p).2.2.2.2.1 (ch9 i p).2.2.2.2.2.1 (ch9 i p).2.2.2.2.2.2.1 (ch9 i p).2.2.2.2.2.2.2.1 (ch9 i p).2.2.2.2.2.2.2.2.1->G):G:=f (e9_0 h λa b c d e g i j k h=>@Classical.epsilon_spec _ (λu:A×B×C×D×E×F×H×I×J×Unit=>p u.1 u.2.1 u.2.2.1 u.2.2.2.1 u.2.2.2.2.1 u.2.2.2.2.2.1 u.2.2.2.2.2.2.1 u.2.2.2.2.2.2.2.1 u.2.2.2.2.2.2.2.2.1) ((a,b,c,d,e,g,i,j,k,()),h))
@[elab_as_elim]def rwE{a b:A}{p:A->Prop}(h:a=b)(q:p b):p a:=h▸q
#where
open List renaming lookup_eq_none_iff->aa,append_nil->ah,length_cons->ak,replicate_zero->ay,replicate_succ->az,length_map->aD,cons_append->aG,length_nil->aH,nil_append->aJ,length_append->aM,getElem?_eq_getElem->aN,mem_append->a4,mem_cons_of_mem->a9,map_append->bb,mem_cons_self->bg,mem_singleton->bh,getElem?_map->bz,length_take->bE,size_toArray->bI,length_drop->bN,mem_of_getElem?->bO,mem_cons->b7,mem_map->ci,range->cw,take_length->cy,map_cons->cB,filter_cons->cC,mem_filter->cT,all_eq_true->dH,map_congr_left->dO,getElem?_cons_succ->d9,getD_eq_getElem?_getD->ei,getElem?_eq_none->eT,filter_append->eV,nodup_cons->eX,getElem?_append_right->fh,append_assoc->fz,filter_congr->fA,mem_iff_getElem?->fC,take_append_drop->fD,length_reverse->fK,map_map->fO,nodup_append->f6,getLast?_cons->gb,map_reverse->gD,map_take->gW,filter_sublist->ii,flatMap_append->ij,Pairwise->iJ,getElem?_eq_some_iff->iX,drop_eq_getElem_cons->iY,getElem?_drop->je,getElem?_take->jf,filter_eq_self->jy,mem_append_right->jD,length_filter_le->jE,getElem?_cons_zero->j0,mem_of_mem_take->kq,getLast?_eq_some_iff->lC,map_drop->mh,find?_cons->mD,filter_filter->mM,pairwise_cons->mP,any_cons->nI,take_zero->oo,getElem?_append_left->oO,map->oQ,length->pR,getLast?_append->pT,flatMap_cons->qj,filter_eq_nil_iff->qO,lookup->qV,lookup_cons->ro,any_eq_true->rq,not_mem_nil->rr,drop_zero->rZ,getElem?_reverse->sk,range_succ->sL,length_range->tF,mem_range->uO,isEmpty_iff->uQ,getElem_map->uR,drop_drop->uS,mem_reverse->uT,all_map->vF,drop_eq_nil_of_le->vG,mem_append_left->xF,replicate->xG,mem_of_getLast?->xJ,mem_of_mem_drop->xK,take_take->xM,getElem_mem->yq,mem_of_find?_eq_some->yw,pairwise_iff_getElem->yx,filterMap_cons->yW,countP_eq_zero->yZ,map_singleton->Aa,dropLast_cons_cons->Aq,getElem?_set_self->Bz,any_eq_false->BB,range_succ_eq_map->BD,nodup_nil->BF,getElem?_set->BG,take_of_length_le->BI,getElem?_inj->BJ,getElem?_set_ne->DM,map_id->DO,eq_nil_of_length_eq_zero->DP,of_mem_zip->Ep,length_set->Er,countP_map->Ew,sum_append->Ex,getElem?_range->EK,mem_filterMap->GJ,take_left->GO,drop_left->GP,append_of_mem->GU,set_cons_succ->GW,set_cons_zero->GX,getLast?_eq_none_iff->G4,take_sublist->HQ,reverse_cons->HR,find?_append->HV,countP_congr->HW,map_dropLast->HX,foldl_append->HY,all_cons->I0,sum_cons->Jc,getElem?_replicate->JH,mem_flatMap->JJ,countP_cons->JK,drop_length->JN,pairwise_singleton->JO,map_nil->K1,Sublist->K4,length_replicate->LC,dropLast_eq_take->LH,pairwise_reverse->LI,length_dropLast->Nt,Perm->N1,length_pos_iff->Ov,length_take_le->Ow,countP_append->Qw,find?_eq_none->Qx,count_eq_zero->Qy,pairwise_map->SH,drop_sublist->SI,perm_middle->UE,flatMap_map->UF
open Bool renaming exists_bool->ai,and_eq_true->bK,false_ne_true->cA,eq_iff_iff->dr,and_false->fJ,noConfusion->gC,false_and->ma,or_eq_true->oE,not_eq_true->o4,or_false->zj,true_and->Dl,false_eq_true->GM,and_true->Jb,and_eq_false_iff->LG,and_eq_true_iff->Nr,or_assoc->O5,not_eq_false->SG
open PySem.W renaming Frag->aA,mg_of->aF,nsIn->aI,findIn->br,mg_none_of->jg,emptyDict->lQ,keepIn->md,instObj->qv,fnOf->qN,callWith_K->z9,plainGet->CO,hideAll->Eo,length_le_weightAllW->Et,hideAll_get->EH,plainGet_of->EI,callWith_K0->EJ,lookIn->GK,codeIn->GL,methodObj->HN,hasDictIn->HP,cellsFrom_some->K0,takerIn->Lo,methodCall_KW->LB,of_hideAll->Qs,isFn->SB,plainOver->SC,handedIn->UB,WRecords->UD,makesIn->Wu,WalkOS->ZA
open Nat renaming reduceAdd->aO,reduceSub->aP,le_refl->be,lt_of_lt_of_le->dj,le_trans->dk,zero_le->dR,ne_of_lt->gj,min_eq_left->jp,zero_testBit->jw,lt_irrefl->l9,testBit_eq_decide_div_mod_eq->om,testBit_and->oF,le_of_lt->pE,sub_self->pF,le_succ->qW,testBit_or->rY,eq_of_testBit_eq->xH,lt_succ_self->yn,le_add_right->yo,testBit_two_pow->yY,strongRecOn->zJ,le_of_succ_le->BE,exists_testBit_of_ne_zero->DN,lt_succ_of_lt->HS,ne_of_gt->KY,le_of_eq->KZ,add_comm->K3,and_mod_two_eq_one->K5,sub_zero->K6,two_pow_pos->Lp,lt_of_le_of_lt->Qv,succ->SE
open Vatrka renaming State->aU,within->cx,stood->il,isStretch->lw,signLook->mE,below->mF,isSign->nJ,endLook->pU,accepted->qw,step->tH,has->xN,shown->yr,Change->zl,stepPaint->CT,stepPut->GQ,stepCut->GR,doPaint->GV,onStretch->JL,putBefore->JM,answered->Lq,Answer->O6,commonTags->SD,Piece->SF,doPut->SJ,doCut->SK,authorOf->Wv,outright->Ww,rejected->Wx,count->ba,visible->bT,bears->dn,shownLook->dZ,onStretch->hQ,shownValue->jQ,Pending->lX,putBefore->oH,paintPiece->pG,isSign->tI,outright->CU,newPieces->DR,doPut->Fp,doCut->Fq,doPaint->FE
open Vatrko renaming searched->bf,Match->bq,limit->cF,alike->cS,replaced->cU,readParts->c5,State->dN,sum->dY,isDigit->d7,setChar->eO,other->fb,readTimes->fy,onPattern->fX,toldPiece->fY,readNumber->gL,showsAsked->gM,step->gN,readUnit->iy,members->jo,isGreat->jq,goesOn->jx,groupsOf->kK,replacementFor->lW,endsOf->me,isSmall->mi,Search->mj,does->oG,matchAt->pS,lies->pV,isChar->qX,fits->qY,chosen->qZ,readSet->rX,trimmed->r8,replacementOf->tG,isWord->tR,readItems->uP,onMatch->uV,trimsOf->uW,Call->va,wordBefore->wJ,fitting->xI,patternOf->yp,Answer->zk,isRange->BK,stretchOf->CQ,toldMatch->CS,wordAt->Dk,toldText->Ey,matchesFrom->GN,signAt->Ja,stepReplacement->K7,stepReplaceAll->LJ,MOST->Nu,stepPaintAll->Ox,stepReplace->Qz,stepPattern->QB,stepOptions->QC,stepMatches->QD,start->SL,stepFind->Wy,isGroup->ZC,signsOf->ZD,special->ZE,Text->bB,Part->hJ,alike->BO
open PySem.F renaming plainAttrs_list->bi,slot_list_append->bR,type_list_append->bS,slot_list_extend->fT,type_list_extend->fU,args_tuple_add_2->zi,entry_tuple_add->Ao,plainAttrs_dict->Ap,slot_tuple_add->BC,slot_dict_get->B3,slot_dict_setdefault->Eu,excBase_ValueError->GS,cmp_object->GT,slot_list_reverse->G5,type_list_reverse->G6,args_dict_get_3->JI,entry_dict_get->K2,slot_dict_pop->LF
open Int renaming toNat_of_nonneg->cM,toNat_natCast->lR
open Option renaming some->dm,isSome_iff_exists->du,bind_some->dv,map_eq_some_iff->dX,bind_eq_some_iff->fB,map_some->Es,isSome_map->HU,isSome_some->Qu,getD_none->UC
open PyVatrko renaming shape->ej,whole->gc,answers->uU,bound->uX,answers_asked->BH
open VatrkoNeutral renaming step->kr,encode->nu,callOf->xO
open PyFlat renaming calls->qP,call->ra,played->Dm,told->DQ,rows->HZ
open Array renaming length_toList->yX,getElem?_toList->LD,append_assoc->Qt
open Or renaming inl->CP
open PyInside renaming call->Dn,lists->ZF,calls->ZG
open PySem renaming Addr->ae,Value->ax,mainGlobals->aC,Shared->aL,sizeLine->aS,wpAny_bind->aX,Stmt->bu,wpAny_pure->bA,wpAny->bF,model->bL,starEach->bV,Program->cj,Expr->cz,sizeLine_eq->cH,World->cY,Heap->cZ,Around->dE,wpAny_truthy_bool->eY,compareOp->gu,cellsFrom->gv,DictEntry->jz,FuncData->jF,wpAny_mono->jR,backTo->jS,wpAny_Call_Name_kw->ku,sysModules->lx,wpAny_newObj_type->lK,Scope->lS,NameKind->mQ,attributeBase->oI,wpAny_typeNameOfWhole_keyiter->oM,wpAny_passesOwn->ql,binaryOp->qx,compEnvC->qy,wpAny_typeNameOf_keyiter->r9,bootBuiltins->sd,valueAt->uY,swapsWith->vb,wpAny_call_entry->vH,keywordEach->vX,sliceBounds->vY,wpAny_execs_nil->wK,pushCells->xP,wpAny_callSpecial?_slot->yy,foldedSetIterable->y1,wpAny_Call_method->y2,behindInMarks->zK,BindsTo->Ar,letOwnedTupleGo->BL,pushCells_keeps->BM,call_meets->BN,backToKw->CV,tupleKind_room_in1->DT,tupleKind->DU,getMethod->DV,Params->DW,wpAny_dictEntries->EL,assignEach->Fo,CmpOp->Fs,cLine->Ft,codeAny->FF,Keyword->FG,getItem->FI,noFill_tuple_add->GY,codeAny_mono->GZ,call_meetsIn->G0,Operator->G1,IsPart->G2,wpAny_dictEpoch->H0,seqIndex?->Ia,subscripted->Jd
def am:=@if_neg
def aq:=@if_pos
def au:=@and_assoc
def aT:=@decide_eq_true
def aV:=@decide_eq_false
def dA:=@congrArg
def eh:=@decide_eq_true_iff
def eo:=@of_decide_eq_true
def ud:=@decide_eq_true_eq
def Ab:=@if_false
def FH:=@if_true
section
namespace L2
open PySem PySem.Spec PyProof.Rows
nonrec abbrev Key:=Sum Int Str
abbrev G7:Key->ax->Bool
 | .inl k,v=>Value.isInt k v
 | .inr x,v=>Value.isStrOf x v
abbrev aob(w:cY):Key->Int
 | .inl k=>hashInt k
 | .inr x=>hashStr w x
def nB:∀{k:Key} {v:ax},G7 k v=true->(∃i t,k=Sum.inl i/\v=Value.int i t)\/(∃x t,k=Sum.inr x/\v=Value.str x t)
 | .inl i,v,h=>by let(t,e):=1 (Value.isInt_shape (k:=i) (v:=v) h);exact .inl (i,t,rfl,e)
 | .inr x,v,h=>by let(t,e):=1 (Value.isStrOf_shape (x:=x) (v:=v) h);exact .inr (x,t,rfl,e)
def adJ(i:Int)(t:Tok):G7 (.inl i) #[yZ]=true:=by simp[G7,Value.isInt]
def adK(x:Str)(t:Tok):G7 (.inr x) (.str x t)=true:=by simp[G7,Value.isStrOf]
def ajK(a b:Int):decide (#[pH]=Sum.inl b)=(a==b):=by
 rw[2146]
 ·rw[2046];simp
 ·have h:¬#[pH]=Sum.inl b:=λq=>e (Sum.inl.inj q);rw[aV h];exact(beq_eq_false_iff_ne.mpr e).symm
def ajL(a b:Str):decide (#[pG]=Sum.inr b)=decide (a=b):=by
 rw[2146]
 ·rw[2046];simp
 ·have h:¬#[pG]=Sum.inr b:=λq=>e (Sum.inr.inj q);rw[aV h,aV e]
def ajM(a:Int)(b:Str):decide (#[pH]=Sum.inr b)=false:=aV (λq=>nomatch q)
def ajN(a:Str)(b:Int):decide (#[pG]=Sum.inl b)=false:=aV (λq=>nomatch q)
abbrev gm(prog:cj)(w:cY):PySem.KeyKind prog w Key where
 is:=G7
 hash:=aob w
 inj:=λv a b g f=>by
  rcases nB g with⟨i,t,rfl,rfl⟩|⟨x,t,rfl,rfl⟩
  ·rcases nB f with⟨j,u,rfl,e⟩|⟨y,u,rfl,e⟩
   ·rw[2022];rw[c]
   ·rw[2109]
  ·rcases nB f with⟨j,u,rfl,e⟩|⟨y,u,rfl,e⟩
   ·rw[2109]
   ·rw[2022];rw[c]
 byValue:=λk v h=>by rcases nB h with⟨i,t,rfl,rfl⟩|⟨x,t,rfl,rfl⟩<;>rfl
 pyHash:=λd h=>by
  rcases nB d with⟨i,t,rfl,rfl⟩|⟨x,t,rfl,rfl⟩
  ·exact wpAny_pyHash_int h
  ·exact wpAny_pyHash_str h
 eqBool:=λl d h=>by
  rcases nB l with⟨i,t,rfl,rfl⟩|⟨x,t,rfl,rfl⟩
  ·rcases nB d with⟨j,u,rfl,rfl⟩|⟨y,u,rfl,rfl⟩
   ·rw[ajK]at h;exact wpAny_eqBool_int h
   ·rw[ajM]at h;exact SeqAt.EqAt.int_str i t y u _ _ _ _ h
  ·rcases nB d with⟨j,u,rfl,rfl⟩|⟨y,u,rfl,rfl⟩
   ·rw[ajN]at h;exact SeqAt.EqAt.str_int x t j u _ _ _ _ h
   ·rw[ajL]at h;exact wpAny_eqBool_str h
 «strs»:=λk x t v h=>by
  rcases nB h with⟨i,u,rfl,e⟩|⟨y,u,rfl,e⟩
  ·rw[2109]
  ·rw[2022];subst c;cases v<;>rfl
def ZH(prog:cj)(w:cY)(i:Int)(t:Tok):(gm prog w).is (.inl i) #[yZ]=true:=adJ i t
def ZI(prog:cj)(w:cY)(x:Str)(t:Tok):(gm prog w).is (.inr x) (.str x t)=true:=adK x t
#print L2
namespace L2
open PySem PySem.Spec PyProof.Rows
inductive V where
 |cG|bl (b:Bool)|int (i:Int)|str (x:Str)|Av (b:Array UInt8)|flt (b:UInt64)|ref (a:ae)|ty (n:String)
 deriving DecidableEq
abbrev RelV:V->ax->Prop
 | .cG,u=>u=Value.none
 | .bl b,u=>u=Value.bool b
 | .int i,u=>∃t,u=Value.int i t
 | .str x,u=>∃t,u=Value.str x t
 | .Av b,u=>∃t,u=Value.bytes b t
 | .flt b,u=>∃t,u=Value.float b t
 | .ref a,u=>u=Value.ref a
 | .ty n,u=>u=Value.type n
nonrec abbrev Vals:List V->List ax->Prop:=Paired RelV
def Vals.length{xs:List V}{us:List ax}(r:Vals xs us):xs.length=us.length:=Paired.length r
def Vals.get:∀{xs:List V} {us:List ax} {i:Nat} {x:V},Vals xs us->xs[i]?=some x->∃u,us[i]?=some u/\RelV x u
 |_,_,_,_,.nil,e=>by simp at e
 |_,_,0,_,.cons r _,e=>by simp at e;rw[2046];exact #[Ar]
 |_,_,i+1,x,.cons _ t,e=>by let(u,a,b):=21 (Vals.get (i:=i) (x:=x) t #[u1]);exact(u,by simpa using a,b)
def Vals.append:∀{xs ys:List V} {us a:List ax},Vals xs us->Vals ys a->Vals (xs++ys) (us++a):=by
 intro xs ys us a h s
 induction h with
 |nil=>exact s
 |cons r t b=>exact .cons r b
def Vals.take:∀{xs:List V} {us:List ax} (n:Nat),Vals xs us->Vals (xs.take n) (us.take n)
 |_,_,0,_=> .nil
 |_,_,_+1,.nil=> .nil
 |_,_,n+1,.cons r t=> .cons r (Vals.take n t)
def Vals.drop:∀{xs:List V} {us:List ax} (n:Nat),Vals xs us->Vals (xs.drop n) (us.drop n)
 |_,_,0,r=>r
 |_,_,_+1,.nil=> .nil
 |_,_,n+1,.cons _ t=>Vals.drop n t
abbrev wL:Option V->Option ax->Prop
 |some v,some u=>RelV v u
 |none,none=>True
 |_,_=>False
abbrev KV{a:Type}:List (a×V)->List (a×ax)->Prop:=Paired λ(p:a×V) (q:a×ax)=>p.1=q.1/\RelV p.2 q.2
abbrev kV:Key->V
 | .inl i=> .int i
 | .inr x=> .str x
inductive HO where
 |lst (xs:List V)
 |tup (xs:List V)
 |dK (o5:List (Key×V))|dT (o5:List (List Key×V))
 |set (S:Int->Bool) (n:Nat)
 |ins (C dx:ae) (fs:List (Str×V))
 |own (x:ae)
 |xd (fs:List (Str×V))
 |met (f x:ae)
 |rng (lo hi:Int)
 |jh (o:Obj) (u:HO)
 |WS (ps:Array ax)
 |ext (φ:cZ->Prop)
nonrec abbrev Hp:=ae->Option HO
abbrev upd(H:Hp)(a:ae)(o:HO):Hp:=λb=>if b=a then some o else H b
def ao{H:Hp}{a:ae}{o:HO}:upd H a o a=some o:=by unfold upd;rw[aq rfl]
def aE{H:Hp}{a b:ae}{o:HO}(h:b≠a):upd H a o b=H b:=by unfold upd;rw[am h]
def d8{H:Hp}{a:ae}{o u:HO}:upd #[ko] a u=upd H a u:=by funext b;unfold upd;split<;>rfl
def dt{H:Hp}{a b:ae}{o u:HO}(h:H a=some o)(h':H b=some u)(d:o≠u):a≠b:=by intro e;subst e;rw[h]at h';exact d (dm.inj h')
def a5{H:Hp}{a b:ae}{o:HO}(h:H a=some o)(h':H b=none):a≠b:=by intro e;subst e;rw[h]at h';cases h'
section
variable (P:cj)(w:cY)
abbrev j1(H:Hp)(h:cZ)(a:ae):HO->Prop
 | .lst xs=>xs.length<=aS/\∃(b:List ax) (n:Nat),Vals xs b/\h.get? a=some {cls:= .type "list",data:= .seq b.toArray n}
 | .tup xs=>xs.length<=aS/\∃b:List ax,Vals xs b/\IsTup h a b.toArray
 | .dK c=>c.length<=aS/\#[tW]=false/\∃vs,KV c vs/\h.DictOf #[gK] a vs
 | .dT c=>c.length<=aS/\#[tW]=false/\∃xs:List (List Key×ae×ax),Paired (λ(p:List Key×V) (q:List Key×ae×ax)=>p.1=q.1/\H q.2.1=some #[un]/\RelV p.2 q.2.2) c xs/\∃o es j,h.get? a=some o/\o.ExactDict/\o.data= .dict es j/\es.toList=xs.map (entryOfKey #[pM])/\(xs.map (·.1)).Nodup
 | .set S n=>h.SetOf (intKind P w) a S n
 | .ins C dx fs=>H dx=some #[wE]/\fs.length<=1000/\dx≠a/\h.get? a=some #[AI]/\∃d,h.Ns1 dx d/\(∀f,wL #[jU] (d f))/\PySem.Within d (fs.map (·.1))
 | .own _=>∃o,h.get? a=some o
 | .xd fs=>∃d,h.Ns1 a d/\∀f,wL #[jU] (d f)
 | .rng lo k=>∃t u v,h.get? a=some {cls:= .type "range",data:= .fields #[.int lo t,.int k u,.int 1 v]}
 | .jh o u=>h.get? a=some o/\j1 H h a u
 | .WS ps=>h.get? a=some {cls:= .none,data:= .fields ps}
 | .met f x=>h.get? a=some (HN #[bz] #[ht])
 | .ext e=>e h/\(∃o,h.get? a=some o)/\∀g i:cZ,e g->(∀o,g.get? a=some o->i.get? a=some o)->e i
abbrev ow(H:Hp)(h:cZ):Prop:=∀a o,H a=some o->j1 P w H h a o
#where
section
variable {P:cj}{w:cY}{H H':Hp}{h h':cZ}{a:ae}{o:HO}
def j1.lt(x:j1 P w H h a o):a<h.objs.size:=by
 cases o with
 |lst xs=>(let(_,b):=20 x;let(_,_,_,e):=22 b);rw[1896]
 |tup xs=>(let(_,b):=20 x;let(_,_,p):=21 b);exact p.lt
 |dK d=>(let(_,_,b):=40 x;let(_,_,c):=21 b;let(o,_,_,e,_):=23 c);rw[1896]
 |dT d=>(let(_,_,b):=40 x;let(_,_,c):=21 b;let(o,_,_,e,_):=23 c);rw[1896]
 |set S n=>(let(o,_,_,_,b):=4 x;let(e,_):=20 b);rw[1896]
 |ins C dx fs=>let(_,_,_,e,_):=80 x;rw[1896]
 |own y=>let(_,e):=1 x;rw[1896]
 |xd fs=>(let(_,b,_):=21 x;let(_,_,_,e,_):=23 b);rw[1896]
 |rng lo g=>let(_,_,_,e):=3 x;rw[1896]
 |jh ob u=>let(e,_):=20 x;rw[1896]
 |WS ps=>exact Heap.lt_size (show h.get? a=some _ from x)
 |met f y=>exact Heap.lt_size (show h.get? a=some _ from x)
 |ext i=>(let(_,b,_):=40 x;let(_,e):=1 b);rw[1896]
def Paired.agc{c d:Type}{F G:c->d->Prop}:∀{l₁:List c} {l₂:List d},Paired F l₁ l₂->(∀a b,F a b->G a b)->Paired G l₁ l₂:=by
 intro l₁ l₂ h f
 induction h with
 |nil=>exact .nil
 |cons r t e=>exact .cons (f _ _ r) e
def Paired.imp'{c d:Type}{F G:c->d->Prop}(f:∀a b,F a b->G a b){l₁:List c}{l₂:List d}(r:Paired F l₁ l₂):Paired G l₁ l₂:=Paired.agc r f
def j1.yz(x:j1 P w H h a o)(k:∀b u,(b=a\/H b=some #[wE])->h.get? b=some u->h'.get? b=some u) (B:∀b,H b=some #[wE]->H' b=some #[wE]) (D:∀b xs,H b=some #[bL]->H' b=some #[bL]):j1 P w H' h' a o:=by
 induction o with
 |lst xs=>(let(z,g):=20 x;let(l,n,r,e):=22 g);exact(z,l,n,r,k _ _ #[ay] e)
 |tup xs=>(let(z,g):=20 x;let(l,r,i):=21 g;let(ob,e,c):=21 i);exact(z,l,r,ob,k _ _ #[ay] e,c)
 |dK m=>(let(z,y,g):=40 x;let(vs,r,i):=21 g;let(ob,es,j,e,c):=23 i);exact(z,y,vs,r,ob,es,j,k _ _ #[ay] e,c)
 |dT m=>
  (let(z,y,g):=40 x;let(xs,r,i):=21 g;let(ob,es,j,e,c):=23 i)
  exact(z,y,xs,Paired.agc r λp q z=>(z.1,D _ _ z.2.1,z.2.2),ob,es,j,k _ _ #[ay] e,c)
 |set S n=>(let(ob,es,j,t,g):=4 x;let(e,c):=20 g);exact(ob,es,j,t,k _ _ #[ay] e,c)
 |ins C dx fs=>
  (let(d,z,ne,e,g):=80 x;let(s,i,r):=21 g;let(A,es,j,E,c):=23 i)
  exact(B _ d,z,ne,k _ _ #[ay] e,s,(A,es,j,k _ _ (.inr d) E,c),r)
 |own y=>let(ob,e):=1 x;exact(ob,k _ _ #[ay] e)
 |xd fs=>(let(s,g,r):=21 x;let(A,es,j,e,c):=23 g);exact(s,(A,es,j,k _ _ #[ay] e,c),r)
 |rng lo G=>let(t,u,v,e):=3 x;exact(t,u,v,k _ _ #[ay] e)
 |jh ob u F=>let(e,q):=20 x;exact(k _ _ #[ay] e,F q)
 |WS ps=>have e:h.get? a=some {cls:= .none,data:= .fields ps}:=x;show h'.get? a=some {cls:= .none,data:= .fields ps};exact k a _ #[ay] e
 |met f y=>have e:h.get? a=some #[uh]:=x;show h'.get? a=some #[uh];exact k a _ #[ay] e
 |ext I=>(let(p,g,st):=40 x;let(o,e):=1 g);exact(st _ _ p λo q=>k _ _ #[ay] q,(o,k _ _ #[ay] e),st)
def ow.lt(x:ow P w H h)(e:H a=some o):a<h.objs.size:=(x a o e).lt
def ow.fresh(x:ow P w H h)(e:h.objs.size<=a):H a=none:=by
 cases q:H a with
 |none=>rfl
 |some u=>exact absurd (dj (x.lt q) e) #[ye]
def ow.kept(x:ow P w H h)(k:∀b u,h.get? b=some u->h'.get? b=some u):ow P w H h':=λa o e=>
 (x a o e).yz (λb u _ q=>k b u q) (λ_ q=>q) λ_ _ q=>q
def ow.laid(x:ow P w H h)(k:∀b u,h.get? b=some u->h'.get? b=some u)(g:h.objs.size<=a)(new:j1 P w #[ko] h' a o):ow P w #[ko] h':=λb u e=>by
 have d:=x.fresh g;by_cases f:b=a
 ·subst f;rw[ao]at e;rw[2048];exact new
 ·rw[aE f]at e;exact(x b u e).yz (λc v _ q=>k c v q) (λc q=>by rw[aE (a5 q d)];exact q) λc xs q=>by rw[aE (a5 q d)];rw[2105]
#where
abbrev Rd(H:Hp)(a:ae)(u:HO):Prop:=H a=some u\/∃o,H a=some #[pS]
def Rd.ok{P:cj}{w:cY}{H:Hp}{h:cZ}{a:ae}{u:HO}(r:Rd H a u)(x:ow P w H h):j1 P w H h a u:=by
 rcases r with r|⟨o,r⟩
 ·exact x a u r
 ·let(_,q):=20 (x a _ r);rw[2105]
abbrev UG:Option HO->Prop
 |some (.lst _)=>True
 |some (.dK _)=>True
 |some (.dT _)=>True
 |some (.set _ _)=>True
 |some (.ins _ _ _)=>True
 |some (.ext _)=>True
 |_=>False
section
variable {P:cj}{w:cY}{H:Hp}{h h':cZ}{x e:ae}{o':HO}
def ow.write(ok:ow P w H h)(g:UG (H x))(he:e=x\/H e=some #[gS])(k:∀b u,b≠e->h.get? b=some u->h'.get? b=some u)(l:∃u,h'.get? e=some u) (new:j1 P w (upd H x o') h' x o'):ow P w (upd H x o') h':=λb u q=>by
 have d:∀c y,H c=some (.own y)->c≠x:=λc y r z=>by subst z;rw[r]at g;exact g
 have f:∀c xs,H c=some #[bL]->c≠x:=λc xs r z=>by subst z;rw[r]at g;exact g
 by_cases i:b=x
 ·subst i;rw[ao]at q;rw[2090];exact new
 ·rw[aE i]at q;by_cases a:b=e
  ·have m:H b=some #[gS]:=by
    rcases he with z|z
    ·exact absurd (a.trans z) i
    ·rw[a];exact z
   rw[q]at m;cases m;let(v,n):=1 l;exact(v,by rw[a];exact n)
  ·refine(ok b u q).yz (λc v j r=>k c v ?_ r) (λc r=>by rw[aE (d c b r)];exact r) λc xs r=>by rw[aE (f c xs r)];exact r
   rcases j with rfl|j
   ·exact a
   ·rintro rfl;rcases he with z|z
    ·exact d c b j z
    ·rw[j]at z;cases z;exact i rfl
#where
structure Un(fs ex:List ae)(H H':Hp)(h h':cZ):Prop where
 keep:∀b o,h.get? b=some o->H b=none->b∉fs->b∉ex->h'.get? b=some o
 slot:∀b o,h.get? b=some o->H b=none->b∈fs->b∉ex->∃sl,h'.get? b=some {o with slots:=sl}
 free:∀b o,h.get? b=some o->H b=none->b∉ex->H' b=none
 there:∀b o,h.get? b=some o->b∉ex->∃o',h'.get? b=some o'
 zL:∀b xs,H b=some #[bL]->H' b=some #[bL]
 zM:∀b o u,H b=some #[pS]->H' b=some #[pS]
 B4:∀b ps,H b=some (.WS ps)->∃more,H' b=some (.WS (ps++more))
section
variable {fs fs' ex ex':List ae}{H H1 H2:Hp}{h h1 h2 h':cZ}{a x e:ae}{o:HO}
def Un.any(u:Un fs ex H H1 h h1){b:ae}{ob:Obj}(q:h.get? b=some ob)(n:H b=none)(a:b∉ex):∃sl,h1.get? b=some {ob with slots:=sl}:=by
 by_cases c:b∈fs
 ·exact u.slot b ob q n c a
 ·exact(ob.slots,u.keep b ob q n c a)
def Un.kept(k:∀b u,h.get? b=some u->h'.get? b=some u):Un fs ex H H h h':=(λb ob q _ _ _=>k b ob q,λb ob q _ _ _=>(ob.slots,k b ob q),λ_ _ _ n _=>n,λb ob q _=>(ob,k b ob q),λ_ _ q=>q,λ_ _ _ q=>q,λ_ ps q=>(#[],by rw[q];simp))
def Un.refl:Un fs ex H H h h:=Un.kept λ_ _ q=>q
def Un.laid(k:∀b u,h.get? b=some u->h'.get? b=some u)(d:h.objs.size<=a)(c:H a=none):Un fs ex H #[ko] h h' where
 keep:=λb u q _ _ _=>k b u q
 slot:=λb u q _ _ _=>(u.slots,k b u q)
 free:=λb u q n _=>by rw[aE (gj (dj #[Dp,q] d))];exact n
 there:=λb u q _=>(u,k b u q)
 zL:=λb xs q=>by rw[aE (a5 q c)];rw[2105]
 zM:=λb u xs q=>by rw[aE (a5 q c)];rw[2105]
 B4:=λb ps q=>(#[],by rw[aE (a5 q c),q];simp)
def Un.write(c:UG (H x))(he:e=x\/H e=some #[gS])(k:∀b u,b≠e->h.get? b=some u->h'.get? b=some u)(d:∃u,h'.get? e=some u):Un fs ex H #[vt] h h':=by
 have f:∀b,H b=none->b≠x:=λb n z=>by subst z;rw[n]at c;exact c
 have g:∀b,H b=none->b≠e:=λb n z=>by
  subst z;rcases he with r|r
  ·exact f b n r
  ·rw[n]at r;cases r
 have hm:∀b u,H b=some u->¬UG #[vA]->b≠x:=λb u q nm z=>by subst z;rw[q]at c;exact nm c
 refine(λb u q n _ _=>k b u (g b n) q,λb u q n _ _=>(u.slots,k b u (g b n) q),λb u q n _=>by rw[aE (f b n)];exact n,λb u q _=> ?_,
  λb xs q=>by rw[aE #[lg]];exact q,λb u xs q=>by rw[aE #[lg]];exact q,λb ps q=>(#[],by rw[aE #[lg],q];simp))
 by_cases a:b=e
 ·subst a;exact d
 ·exact(u,k b u a q)
#where
abbrev trk(h:cZ)(H:Hp):List ae:=#[xw].filter λa=>(H a).isSome
abbrev JP(h:cZ)(H:Hp):cZ:=Eo h #[AD]
def adN(h:cZ)(H:Hp):#[z1].objs.size=h.objs.size:=PySem.W.hideAll_size _ _
def agd{h:cZ}{H:Hp}{b:ae}{o:Obj}(e:h.get? b=some o)(n:H b=none):#[z1].get? b=some o:=EH _ e λhm=>by have q:(H b).isSome=true:=(cT.mp hm).2;rw[n]at q;simp at q
def aiG{h:cZ}{H:Hp}{b:ae}{o:Obj}(e:#[z1].get? b=some o):h.get? b=some o/\H b=none:=by
 have a:h.get? b=some o:=Qs #[AD] e;refine(a,?_);cases q:H b with
 |none=>rfl
 |some x=>have hm:b∈trk h H:=cT.mpr (uO.mpr #[Dp,a],by simp[q]);have z:#[z1].get? b=none:=PySem.W.hideAll_none #[AD] hm;rw[z]at e;rw[2048]
abbrev aiH(g h:cZ)(L:ae):List #[H]:=#[xw].filterMap λa=>if a=L\/(g.get? a).isSome=true then none else(h.get? a).map λo=>((a),o)
abbrev rest(g h:cZ)(L d:ae):List #[H]:=(aiH g h L).filter λp=>decide (p.1≠d)
#print L2
namespace L2
open PySem PySem.Spec PyProof.Rows
structure Mod(K:aA)(mg:Str->Option ax)(base:cZ):Prop where
 WT:K.In base
 glob:base.Ns aC mg
 blt:∃mb,base.Ns builtinsNs mb/\∀x:Str,x≠"__name__"->mb x=sd x
 nolimit:base.NoLimit
structure Cx where
 prog:cj
 w:cY
 K:aA
 mg:Str->Option ax
 base:cZ
 A:dE
 N:List Str
 pW:aL
 LK:Hp
 env:Env
 outer:List Env
 stack:List Env
 ex:List ae
 fn:Str->Bool
 calm:Bool
 pn:List #[H]
 xe:ax->aL->Prop
abbrev pX(l:List Env):List ae:=l.filterMap (·.frame)
nonrec abbrev Cx.fs (X:Cx):List ae:=pX X.outer
abbrev WU(sc:lS)(x:Str):Prop:=sc.names.lookup x=some .local\/sc.names.lookup x=some .cell\/sc.names.lookup x=some .free
abbrev Loc(sc:lS)(x:Str):Prop:=sc.names.lookup x=some .local\/sc.names.lookup x=some .cell
abbrev Look(env:Env)(h:cZ)(m:Str->Option ax)(x:Str)(u:ax):Prop:=(env.kindOf x=some .local/\m x=some u)\/((env.kindOf x=some .cell\/env.kindOf x=some .free)/\∃c,env.cells.lookup x=some c/\h.IsCell c #[vA])
structure Cx.Ok(X:Cx):Prop where
 mod:Mod X.K X.mg X.base
 kind:X.env.scope.kind= .function
 glob:X.env.globals=aC
 blt:X.env.builtins=builtinsNs
 above:X.pW.heap.objs.size<=X.env.locals
 inj:∀x y c,X.env.cells.lookup x=some c->X.env.cells.lookup y=some c->x=y
 has:∀x,(X.env.kindOf x=some .cell\/X.env.kindOf x=some .free)->∃c,X.env.cells.lookup x=some c
 WV:∀x c,X.fn x=true->X.env.cells.lookup x=some c->X.pW.heap.objs.size<=c
 hd:X.calm=true->X.A.handled=none
 frames:X.A.frames=some X.stack
 stk:X.stack=X.outer\/(X.stack=X.env::X.outer/\X.env.frame=some X.env.locals)
 exf:∀b∈X.ex,b≠X.env.locals/\∀x c,X.env.cells.lookup x=some c->c≠b
 bs:∀b o,X.base.get? b=some o->X.pW.heap.get? b=some o/\X.LK b=none
 LL:X.base.objs.size<=X.pW.heap.objs.size
 O7:∀b o,X.base.get? b=some o->b∉X.ex
 O8:∀b∈X.ex,b∉X.fs
 Aw:X.pW.heap.FunFrames X.base X.outer
 QE:∀b∈X.fs,X.LK b=none
structure Inv(X:Cx)(pins:List #[H])(σ:List #[kO])(H:Hp)(s:aL):Prop where
 ok:X.Ok
 os:s.os=X.pW.os
 bare:AllBare s.gens
 base:Un X.fs X.ex X.LK H X.pW.heap s.heap
 loc:∃m,s.heap.Ns X.env.locals m/\∀(i:Nat) (x:Str) (v:V),X.N[i]?=some x->σ[i]?=some #[h8]->WU X.env.scope x->∃u,RelV v u/\Look X.env s.heap m x u
 cell:∀x c,X.env.cells.lookup x=some c->∃v,s.heap.IsCell c v
 free:H X.env.locals=none
 sM:∀x c,X.env.cells.lookup x=some c->H c=none
 pin:∀p∈X.pn++pins,s.heap.get? p.1=some p.2/\H p.1=none/\p.1≠X.env.locals/\p.1∉X.fs/\∀v,p.2.data≠ .cell v
 cQ:ow X.prog X.w H s.heap
 len:σ.length=X.N.length
section
variable {X:Cx}{pins:List (ae×Obj)}{σ:List (Option V)}{H H':Hp}{s:aL}{h':cZ}
def Cx.Ok.aoc(ok:X.Ok){b:ae}{o:Obj}(e:X.base.get? b=some o):b∉X.fs:=λa=>by have:=(ok.Aw.mem a).1;rw[e]at this;cases this
def Inv.bs(I:Inv X pins σ H s):∀b o,X.base.get? b=some o->s.heap.get? b=some o/\H b=none:=λb o e=>
 (I.base.keep b o #[kP].1 #[kP].2 (I.ok.aoc e) #[yR],I.base.free b o #[kP].1 #[kP].2 #[yR])
def Inv.bk(I:Inv X pins σ H s):∀b o,X.base.get? b=some o->s.heap.get? b=some o:=λb o e=>(I.bs b o e).1
def Inv.mod(I:Inv X pins σ H s):Mod X.K X.mg X.base:=I.ok.mod
def Inv.Ac(I:Inv X pins σ H s):X.K.In s.heap:=I.ok.mod.WT.keeps I.bk
def Inv.lt(I:Inv X pins σ H s):X.env.locals<s.heap.objs.size:=let(_,a,_):=I.loc;a.lt
def Inv.sz(I:Inv X pins σ H s):X.pW.heap.objs.size<=s.heap.objs.size:=dk I.ok.above (pE I.lt)
def Inv.aod(I:Inv X pins σ H s){a:ae}(h:s.heap.objs.size<=a):a∉X.fs:=λc=>by
 (let(_,b):=20 (I.ok.Aw.mem c);let(o,d,_):=21 b)
 exact absurd (dj #[Dp,d] (dk I.sz h)) #[ye]
def Inv.WW(I:Inv X pins σ H s):∀x c,X.env.cells.lookup x=some c->c≠X.env.locals:=λx c e z=>by
 let(v,o,f,hd):=22 #[lX]
 (let(m,a,_):=21 #[ws];let(g,es,h,b,d,_):=43 a)
 rw[z,b]at f;cases f;rw[d]at hd;cases hd
def Inv.Aw(I:Inv X pins σ H s):s.heap.FunFrames X.base X.outer:=by
 have all:∀(l:List Env),(∀b∈pX l,b∈X.fs)->X.pW.heap.FunFrames X.base l->s.heap.FunFrames X.base l:=by
  intro l
  induction l with
  |nil=>intro _ _;trivial
  |cons env r g=>
   intro hs h
   (let(i,a,hr):=40 h;let(L,o,c,j,k,hd):=62 a)
   have d:L∈X.fs:=hs L (by unfold pX;rw[yW,c];exact bg);let(sl,e):=1 (I.base.slot L o k (I.ok.QE L d) d λz=>I.ok.O8 L z d);exact(i,(L,_,c,j,e,hd),g (λb f=>hs b (by unfold pX;rw[yW,c];exact a9 _ f)) hr)
 exact all X.outer (λ_ f=>f) I.ok.Aw
def Inv.stack(I:Inv X pins σ H s):s.heap.FunFrames X.base X.stack:=by
 rw[2024]
 ·rw[e];exact I.Aw
 ·rw[e];let(m,a,_):=21 #[ws];refine .cons (by rw[I.ok.kind];decide) hf a ?_ I.Aw;exact Heap.get?_none_of_le (dk I.ok.LL I.ok.above)
def Inv.WX(I:Inv X pins σ H s):∀b∈pX X.stack,b∈X.env.locals::X.fs:=λb a=>by
 rw[2024]
 ·rw[e]at a;exact a9 _ a
 ·rw[e]at a;unfold pX at a;rw[yW,hf]at a;exact a
def Inv.SM(I:Inv X pins σ H s):∀b∈pX X.stack,H b=none:=λb a=>by
 rcases b7.mp (I.WX b a)with e|a
 ·rw[e];exact I.free
 ·(let(_,c):=20 (I.ok.Aw.mem a);let(o,d,_):=21 c)
  exact I.base.free b o d (I.ok.QE b a) λz=>I.ok.O8 b z a
def Inv.step{g':Array GenState}{t':Nat}{d':Drawn}{ch:List ae}(I:Inv X pins σ H s) (f:∀b∈ch,#[b3]/\b≠X.env.locals/\#[bb]/\∀p∈X.pn++pins,p.1≠b) (keep:∀b o,b≠X.env.locals->b∉X.fs->b∉ch->s.heap.get? b=some o->H b=none->h'.get? b=some o) (slot:∀b o,b≠X.env.locals->b∈X.fs->b∉ch->s.heap.get? b=some o->H b=none->∃sl,h'.get? b=some {o with slots:=sl}) (free:∀b o,b∉ch->s.heap.get? b=some o->H b=none->H' b=none) (there:∀b o,b∉ch->s.heap.get? b=some o->∃B,h'.get? b=some B) (zL:∀b xs,H b=some #[bL]->H' b=some #[bL]) (zM:∀b o u,H b=some #[pS]->H' b=some #[pS]) (B4:∀b ps,H b=some (.WS ps)->∃C,H' b=some (.WS (ps++C))) (ns:∀m,s.heap.Ns X.env.locals m->h'.Ns X.env.locals m) (cQ:ow X.prog X.w H' h') (M:AllBare g'):Inv X pins σ H' {s with heap:=h',gens:=g',drawn:=d',toks:=t'}:=by
 have D:∀b o,X.pW.heap.get? b=some o->b≠X.env.locals:=λb o e=>gj (dj #[a7] I.ok.above);have j:∀b o,X.pW.heap.get? b=some o->b∉X.ex->b∉ch:=λb o e a y=>by
  rcases(f b y).1 with z|z
  ·exact a z
  ·exact absurd (dj #[a7] z) #[ye]
 have g:∀x c,X.env.cells.lookup x=some c->∀v,s.heap.IsCell c v->h'.IsCell c v:=λx c e v (o,A,hd)=>by
  have h:c∉ch:=λz=>(f c z).2.2.1 x c e rfl;by_cases J:c∈X.fs
  ·let(sl,q):=1 (slot c o (I.WW x c e) J h A #[oT]);exact(_,q,hd)
  ·exact(o,keep c o (I.WW x c e) J h A #[oT],hd)
 refine(I.ok,I.os,M,(λb o e n y a=> ?_,λb o e n y a=> ?_,λb o e n a=> ?_,λb o e a=> ?_,λb xs e=>zL b xs (I.base.zL b xs e),λb o xs e=>zM b o xs (I.base.zM b o xs e),λb ps e=> ?_),?_,λx c e=> ?_,?_,λx c e=> ?_,λp K=> ?_,cQ,I.len)
 ·exact keep b o #[BV] y #[qB] (I.base.keep b o e n y a) #[iT]
 ·let(sl,t):=1 (I.base.slot b o e n y a);let(F,E):=1 (slot b _ #[BV] y #[qB] t #[iT]);exact(F,E)
 ·rw[2102];exact free b B #[qB] t #[iT]
 ·rw[2102];exact there b B #[qB] t
 ·let(N,t):=1 #[u8];let(O,E):=1 (B4 b _ t);exact(N++O,by rw[E,Qt])
 ·let(m,P,Q):=21 #[ws];refine(m,ns m P,λi x v t E R=> ?_);let(u,r,l):=21 (Q i x v t E R);refine(u,r,?_);rcases l with l|⟨k,c,e,z⟩
  ·exact .inl l
  ·exact .inr (k,c,e,g x c e _ z)
 ·let(v,z):=1 #[lX];exact(v,g x c e v z)
 ·(let(m,G,_):=21 #[ws];let(o,_,_,A,_):=23 G)
  exact free _ o (λz=>(f _ z).2.1 rfl) A I.free
 ·let(v,o,A,hd):=22 #[lX];exact free c o (λz=>(f c z).2.2.1 x c e rfl) A #[oT]
 ·let(e,n,ne,L,d):=80 #[Dx,K];have h:p.1∉ch:=λz=>(f p.1 z).2.2.2 p K rfl;exact(keep p.1 p.2 ne L h e n,free p.1 p.2 h e n,ne,L,d)
def Inv.un{t':Nat}(I:Inv X pins σ H s)(u:Un X.fs [] H H' s.heap h')(cQ:ow X.prog X.w H' h'):Inv X pins σ H' {s with heap:=h',toks:=t'}:=by
 (let(m,c,_):=21 #[yi];let(o,es,k,h,r):=23 c)
 let(sl,i):=1 (u.any h I.free #[p]);exact I.step (g':=s.gens) (d':=s.drawn) (ch:=[]) (λ_ z=>nomatch z) (λb o _ d _ e n=>u.keep b o e n d #[p]) (λb o _ d _ e n=>u.slot b o e n d #[p]) (λb o _ e n=>u.free b o e n #[p]) (λb o _ e=>u.there b o e #[p]) u.zL u.zM u.B4 (λl hm=>by let(p,f,g,a,j):=23 hm;rw[h]at a;cases a;exact(_,f,g,i,j)) cQ I.bare
def Inv.call{g':Array GenState}{t':Nat}{d':Drawn}{ch:List ae}(I:Inv X pins σ H s)(u:Un #[oE] ch H H' s.heap h')(cQ:ow X.prog X.w H' h')(l:AllBare g') (d:∀b∈ch,#[b3]/\b≠X.env.locals/\#[bb]/\∀p∈X.pn++pins,p.1≠b):Inv X pins σ H' {s with heap:=h',gens:=g',drawn:=d',toks:=t'}:=by
 (let(m,g,_):=21 #[yi];let(o,es,v,k,r):=23 g)
 let(sl,h):=1 (u.any k I.free λz=>(d _ z).2.1 rfl);exact I.step (ch:=ch) d (λb o h q a e n=>u.keep b o e n (λz=>(b7.mp (I.WX b z)).elim h q) a) (λb o _ _ a e n=>u.any e n a) (λb o a e n=>u.free b o e n a) (λb o a e=>u.there b o e a) u.zL u.zM u.B4 (λy hm=>by let(A,i,j,f,t):=23 hm;rw[k]at f;cases f;exact(_,i,j,h,t)) cQ l
def Inv.turned{t':Nat}{it:ae}(I:Inv X pins σ H s)(k:∀b o,b≠it->s.heap.get? b=some o->h'.get? b=some o)(g:H it=none)(f:it≠X.env.locals) (h:it∈X.ex\/X.pW.heap.objs.size<=it) (i:∀x c,X.env.cells.lookup x=some c->c≠it) (j:∀p∈X.pn++pins,p.1≠it):Inv X pins σ H {s with heap:=h',toks:=t'}:=by
 have d:∀b u,H b=some u->b≠it:=λb u e z=>by rw[z,g]at e;rw[2048]
 refine I.step (g':=s.gens) (d':=s.drawn) (ch:=[it]) (λb l=> ?_) (λb o _ _ a e _=>k b o (λz=>a #[jc]) e) (λb o _ _ a e _=>(o.slots,k b o (λz=>a #[jc]) e)) (λ_ _ _ _ n=>n) (λb o a e=>(o,k b o (λz=>a #[jc]) e)) (λ_ _ e=>e) (λ_ _ _ e=>e) (λb ps e=>#[qp]) (λm hm=> ?_) (λb u e=> ?_) I.bare
 ·have e:b=it:=by simpa using l
  rw[2046];exact(h,f,i,j)
 ·let(o,es,t,w,r):=23 hm;exact(o,es,t,k _ o #[Cs,f] w,r)
 ·rw[1922];rcases a with z|z
  ·rw[z];exact d b u e
  ·exact d c _ z
def Inv.tok(I:Inv X pins σ H s)(t:Nat):Inv X pins σ H {s with toks:=t}:=I.un (h':=s.heap) (t':=t) Un.refl I.cQ
def Inv.kept{t':Nat}(I:Inv X pins σ H s)(k:∀b u,s.heap.get? b=some u->h'.get? b=some u):Inv X pins σ H {s with heap:=h',toks:=t'}:=I.un (Un.kept k) (I.cQ.kept k)
def Inv.laid{a:ae}{o:HO}{t':Nat}(I:Inv X pins σ H s)(k:∀b u,s.heap.get? b=some u->h'.get? b=some u)(c:s.heap.objs.size<=a)(new:j1 X.prog X.w #[ko] h' a o):Inv X pins σ #[ko] {s with heap:=h',toks:=t'}:=I.un (Un.laid k c (I.cQ.fresh c)) (I.cQ.laid k c new)
def Inv.write{x e:ae}{o:HO}{t':Nat}(I:Inv X pins σ H s)(c:UG (H x))(he:e=x\/H e=some #[gS])(k:∀b u,b≠e->s.heap.get? b=some u->h'.get? b=some u)(a:∃u,h'.get? e=some u) (new:j1 X.prog X.w #[vt] h' x o):Inv X pins σ #[vt] {s with heap:=h',toks:=t'}:=I.un (Un.write c he k a) (I.cQ.write c he k a new)
def Inv.weak{a:List #[kO]}(I:Inv X pins σ H s)(c:a.length=σ.length)(w:∀(i:Nat) v,a[i]?=some #[h8]->σ[i]?=some #[h8]):Inv X pins a H s:=(I.ok,I.os,I.bare,I.base,let(m,d,b):=I.loc;(m,d,λi x v e f g=>b i x v e (w i v f) g),I.cell,I.free,I.sM,I.pin,I.cQ,c.trans I.len)
def Inv.aa2{a:List #[H]}(I:Inv X pins σ H s)(h:∀p∈a,s.heap.get? p.1=some p.2/\H p.1=none/\p.1≠X.env.locals/\p.1∉X.fs/\∀v,p.2.data≠ .cell v):Inv X a σ H s:=(I.ok,I.os,I.bare,I.base,I.loc,I.cell,I.free,I.sM,λp b=>(a4.mp b).elim (λz=>I.pin p (xF _ z)) (h p),I.cQ,I.len)
def O9{N:List Str}(c:N.Nodup){i j:Nat}{x:Str}(a:N[i]?=some x)(b:N[j]?=some x):i=j:=by obtain⟨f,d⟩:=iX.mp a;obtain⟨g,e⟩:=iX.mp b;exact(List.getElem_inj c).mp (d.trans e.symm)
def UH{M:Model}{A:dE}{E:ax->aL->Prop}{i:Nat}{x:Str}{v:V}{u:ax}{Q:Unit->aL->Prop}(I:Inv X pins σ H s)(hN:X.N.Nodup)(L:X.N[i]?=some x)(t:Loc X.env.scope x)(r:RelV v u) (h:∀s',Inv X pins #[n5] H s'->(∃a,Heap.SameBut a s.heap s'.heap/\(a=X.env.locals\/X.env.cells.lookup x=some a))->Q () s') (hf:X.fn x=true\/X.env.scope.names.lookup x=some .local:=by first|exact .inl rfl|exact .inr rfl|assumption):bF M A (storeName X.env x u) Q E s:=by
 let(m,Y,hl):=21 #[yi];have O:(X.env.scope.kind== .class||(X.env.scope.kind== .module&&X.env.locals !=X.env.globals))=false:=by rw[I.ok.kind];rfl
 have D:i<σ.length:=by rw[I.len];exact(iX.mp L).1
 have WW:=I.WW;have f:∀{a:ae} {h':cZ},(∃o,s.heap.get? a=some o/\H a=none)->Heap.SameBut a s.heap h'->ow X.prog X.w H h':=λ{a h'} ha hs b ob e=>by
  let(_,_,B):=21 ha;refine(I.cQ b ob e).yz (λc U l q=>(hs.2 c ?_).trans q) (λ_ q=>q) λ_ _ q=>q;rintro rfl;rcases l with rfl|l
  ·rw[B]at e;rw[2048]
  ·rw[B]at l;cases l
 rcases t with F|F
 ·refine wpAny_storeName_local F Y (λh' Z hs=> ?_) O;let(oL,_,_,hoL,_):=23 (id Y);refine h _ (I.ok,I.os,I.bare,(λb o e n G t=> ?_,λb o e n G t=> ?_,I.base.free,λb o e t=> ?_,I.base.zL,I.base.zM,I.base.B4),(_,Z,λj y v' g C e3=> ?_),λy c e=> ?_,I.free,I.sM,λp hp=> ?_,f (oL,hoL,I.free) hs,by simpa using I.len) (_,hs,.inl rfl)
  ·exact #[eg].trans #[pL]
  ·rw[2085];exact(sl,#[eg].trans g)
  ·rw[2087];exact(o',#[eg].trans g)
  ·by_cases J:j=i
   ·subst J;rw[L]at g;cases g;rw[Bz D]at C;cases C;exact(u,r,.inl (F,by simp))
   ·rw[DM #[Cs,J]]at C;rw[2054];refine #[y5];rcases q with⟨k,e⟩|⟨k,c,e,z⟩
    ·refine .inl (k,?_);have:y≠x:=λe=>J (O9 hN g (e▸L));simp[this,e]
    ·exact .inr (k,c,e,z.sameBut hs (WW y c e))
  ·let(U,z):=1 (I.cell y c e);exact(U,z.sameBut hs (WW y c e))
  ·rw[1993];exact((hs.2 p.1 ne).trans e,n,ne,nf,d)
 ·have K:X.fn x=true:=by
   rcases hf with z|z
   ·exact z
   ·rw[z]at F;cases F
  let(c,l):=1 (I.ok.has x (.inl F));let(U,z):=1 (I.cell x c l);refine wpAny_storeName_cell I.ok.kind F l z (λh' P hs=> ?_);let(oc,R,S):=21 (id z);refine h {s with heap:=h'} (I.ok,I.os,I.bare,(λb o e n G t=> ?_,λb o e n G t=> ?_,I.base.free,λb o e t=> ?_,I.base.zL,I.base.zM,I.base.B4),(m,Y.sameBut hs (Ne.symm (WW x c l)),λj y v' g C e3=> ?_),λy W e=> ?_,I.free,I.sM,λp hp=> ?_,f (oc,R,I.sM x c l) hs,by simpa using I.len) (c,hs,.inr l)
  ·exact #[c9].trans #[pL]
  ·rw[2085];exact(sl,#[c9].trans g)
  ·rw[2087];exact(o',#[c9].trans g)
  ·by_cases J:j=i
   ·subst J;rw[L]at g;cases g;rw[Bz D]at C;cases C;exact(u,r,.inr (.inl F,c,l,P))
   ·rw[DM #[Cs,J]]at C;rw[2054];refine #[y5];rcases q with q|⟨k,W,e,z'⟩
    ·rw[2118]
    ·refine .inr (k,W,e,z'.sameBut hs ?_);rintro rfl;exact J (O9 hN g (I.ok.inj _ _ _ e l▸L))
  ·by_cases T:W=c
   ·subst T;exact(_,P)
   ·let(w2,z2):=1 (I.cell y W e);exact(w2,z2.sameBut hs T)
  ·rw[1993];refine((hs.2 p.1 ?_).trans e,n,ne,nf,d);intro q;rw[q,R]at e;have q':oc=p.2:=dm.inj e;exact d U (by rw[<-q'];exact S)
def Pa{M:Model}{A:dE}{E:ax->aL->Prop}{i:Nat}{x:Str}{v:V}{u:ax}{Q:Unit->aL->Prop}(I:Inv X pins σ H s)(a:X.N.Nodup)(b:X.N[i]?=some x)(c:Loc X.env.scope x)(r:RelV v u) (h:∀s',Inv X pins #[n5] H s'->Q () s') (d:X.fn x=true\/X.env.scope.names.lookup x=some .local:=by first|exact .inl rfl|exact .inr rfl|assumption):bF M A (storeName X.env x u) Q E s:=UH I a b c r (λs' e _=>h s' e) d
def Inv.ahT{s':aL}{ch:List ae}(I:Inv X pins σ H s)(d:s'.os=s.os)(u:Un #[oE] ch H H' s.heap s'.heap)(cQ:ow X.prog X.w H' s'.heap)(f:AllBare s'.gens) (a:∀b∈ch,#[b3]/\b≠X.env.locals/\#[bb]/\∀p∈X.pn++pins,p.1≠b):Inv X pins σ H' s':=by obtain⟨h',g',d',t',g⟩:=s';have e:g=s.os:=d;subst e;exact I.call (g':=g') (t':=t') (d':=d') u cQ f a
#where
nonrec abbrev XK:=ax->Option ae->Hp->Prop
nonrec abbrev St:=List #[kO]
nonrec abbrev VK:=V->Hp->Prop
nonrec abbrev TE:=St->Hp->VK->Prop
nonrec abbrev TT:=St->Hp->#[u9]->Prop
nonrec abbrev TA:=St->Hp->(List V->Hp->Prop)->Prop
structure Ends where
 nx:St->Hp->Prop
 rt:VK
 bk:St->Hp->Prop:=λ_ _=>False
 ct:St->Hp->Prop:=λ_ _=>False
nonrec abbrev TS:=Ends->St->Hp->Prop
abbrev EP(X:Cx)(pins:List #[H])(a:St)(Q:VK)(u:ax)(s':aL):Prop:=∃v H',Inv X pins a H' s'/\RelV v u/\Q v H'
abbrev TP(X:Cx)(pins:List #[H])(a:St)(Q:Bool->Hp->Prop)(b:Bool)(s':aL):Prop:=∃H',Inv X pins a H' s'/\Q b H'
abbrev AP(X:Cx)(pins:List #[H])(a:St)(Q:List V->Hp->Prop)(us:List ax)(s':aL):Prop:=∃vs H',Inv X pins a H' s'/\Vals vs us/\Q vs H'
abbrev SP(X:Cx)(pins:List #[H])(D:Ends)(f:Flow)(s':aL):Prop:=
 match f with
 | .next=>∃a H',Inv X pins a H' s'/\D.nx a H'
 | .brk=>∃a H',Inv X pins a H' s'/\D.bk a H'
 | .cont=>∃a H',Inv X pins a H' s'/\D.ct a H'
 | .ret u=>∃v a H',Inv X pins a H' s'/\RelV v u/\D.rt v H'
abbrev PE(X:Cx)(e:cz)(t:TE):Prop:=∀(pins:List (ae×Obj)) (s:aL) (a:St) (H:Hp) (Q:VK),Inv X pins a H s->t a H Q->bF #[g] X.A #[gM] #[cL] X.xe s
abbrev PT(X:Cx)(e:cz)(t:TT):Prop:=∀(pins:List (ae×Obj)) (s:aL) (a:St) (H:Hp) (Q:Bool->Hp->Prop),Inv X pins a H s->t a H Q->bF #[g] X.A (isTrue e X.env #[gM]) #[yO] X.xe s
abbrev PW(X:Cx)(e:cz)(t:TT):Prop:=∀(a:Sem ax) (pins:List (ae×Obj)) (s:aL) (b:St) (H:Hp) (Q:Bool->Hp->Prop),Inv X pins b H s->t b H Q->bF #[g] X.A (isTrue e X.env a) (TP X pins b Q) X.xe s
def PW.pt{X:Cx}{e:cz}{t:TT}(h:PW X e t):PT X e t:=h _
abbrev PA(X:Cx)(es:List cz)(t:TA):Prop:=∀(a:Pos) (pins:List (ae×Obj)) (s:aL) (b:St) (H:Hp) (Q:List V->Hp->Prop),Inv X pins b H s->t b H Q->bF #[g] X.A (spliced (jS a #[si])) (AP X pins b Q) X.xe s
abbrev PS(X:Cx)(st:bu)(t:TS):Prop:=∀(pins:List (ae×Obj)) (s:aL) (a:St) (H:Hp) (D:Ends),Inv X pins a H s->t D a H->bF #[g] X.A (exec st X.env) #[sr] X.xe s
abbrev BS(X:Cx)(st:List bu)(t:TS):Prop:=∀(pins:List (ae×Obj)) (s:aL) (a:St) (H:Hp) (D:Ends),Inv X pins a H s->t D a H->bF #[g] X.A (execs st X.env) #[sr] X.xe s
def da{b:Type}{t:Sem b}{Q Q':b->aL->Prop}{M:Model}{A:dE}{E:ax->aL->Prop}{s:aL}(h:bF M A t Q E s)(c:∀a s,Q a s->Q' a s):bF M A t Q' E s:=jR h c λ_ _ x=>x
#print L2
namespace L2
open PySem PySem.Spec PyProof.Rows
section
variable {X:Cx}
abbrev mO(o:Option #[kO])(k:V->Prop):Prop:=o.elim False λx=>x.elim False k
def JQ{o:Option #[kO]}{k:V->Prop}(h:mO o k):∃v,o=some #[h8]/\k v:=by
 cases o with
 |none=>exact h.elim
 |some x=>cases x with
  |none=>exact h.elim
  |some v=>exact(v,rfl,h)
abbrev mB(x:V)(k:Bool->Prop):Prop:=match x with
 | .bl c=>k c
 |_=>False
def zm{x:V}{k:Bool->Prop}(h:mB x k):∃c,x= .bl c/\k c:=by cases x<;>first|exact⟨_,rfl,h⟩|exact False.elim h
abbrev mI(x:V)(k:Int->Prop):Prop:=match x with
 | .int c=>k c
 |_=>False
def G8{x:V}{k:Int->Prop}(h:mI x k):∃c,x= .int c/\k c:=by cases x<;>first|exact⟨_,rfl,h⟩|exact False.elim h
def FJ{x y:V}{k:Int->Int->Prop}(h:mI x λi=>mI y (k i)):∃i j,x= .int i/\y= .int j/\k i j:=
 have(i,e,h):=G8 h;have(j,f,h):=G8 h
 (i,j,e,f,h)
abbrev mR(x:V)(k:ae->Prop):Prop:=match x with
 | .ref c=>k c
 |_=>False
def CW{x:V}{k:ae->Prop}(h:mR x k):∃c,x= .ref c/\k c:=by cases x<;>first|exact⟨_,rfl,h⟩|exact False.elim h
def Ax{o:Option #[kO]}{k:V->Prop}:mO o k=∃v,o=some #[h8]/\k v:=propext (JQ,λ(_,e,h)=>e▸h)
def ahU{x:V}{k:Bool->Prop}:mB x k=∃c,x= .bl c/\k c:=propext (zm,λ(_,e,h)=>e▸h)
def Ay{x:V}{k:Int->Prop}:mI x k=∃c,x= .int c/\k c:=propext (G8,λ(_,e,h)=>e▸h)
def G9{x:V}{k:ae->Prop}:mR x k=∃c,x= .ref c/\k c:=propext (CW,λ(_,e,h)=>e▸h)
abbrev iK(i:Nat):TE:=λa H Q=>mO a[i]? λv=>Q v H
abbrev tC(v:V):TE:=λ_ H Q=>Q v H
def adO{i:Nat}{x:Str}{f:Pos}(k:X.N[i]?=some x)(n:WU X.env.scope x)(hd:#[v]=false:=by decide)(g:#[hg]=false:=by decide):PE X (.Name x f) (iK i):=by
 intro pins s o H Q I h;let(v,e,h):=21 (JQ h);let(m,p,q):=21 #[ws];let(u,r,l):=21 (q i x v k e n);have b:EP X pins o Q u s:=#[xN];rcases l with⟨d,hm⟩|⟨d,c,j,a⟩
 ·exact wpAny_Name (wpAny_loadName_local I.ok.kind d p hm b) hd
 ·rcases d with d|d
  ·exact wpAny_Name (wpAny_loadName_cell I.ok.kind d j a b) hd
  ·exact wpAny_Name (wpAny_loadName_free I.ok.kind d j a b g) hd
def a6{i j pos}:PE X (.Constant #[gn] j pos) (tC #[gn]):=λ_ _ _ H _ I h=>wpAny_Constant_int (.int i,H,I.tok _,#[O],h)
def xQ{b j pos}:PE X (.Constant (.bool b) j pos) (tC #[mq]):=λ_ _ _ H _ I h=>Constant_bool (.bl b,H,I,rfl,h)
def Az{j pos}:PE X (.Constant .none j pos) (tC .cG):=λ_ _ _ H _ I h=>Constant_none (.cG,H,I,rfl,h)
def rx{x j pos}:PE X (.Constant (.str x) j pos) (tC (.str x)):=λ_ _ _ H _ I h=>Calls.Constant_str (.str x,H,I.tok _,#[O],h)
abbrev Gl(X:Cx)(x:Str):Prop:=X.env.kindOf x=some .globalImplicit
def B5{E:ax->aL->Prop}{pins:List #[H]}{s:aL}{b:St}{H:Hp}{x:Str}{u:ax}{a:Pos}{Q:ax->aL->Prop}(I:Inv X pins b H s)(c:Gl X x)(hm:X.mg x=some u)(h:Q u s) (hd:#[v]=false:=by decide):bF #[g] X.A #[uP] Q E s:=Calls.Name_function_global I.ok.kind c (Calls.loadGlobal_global #[hC] hm h) hd
def Do{E:ax->aL->Prop}{pins:List #[H]}{s:aL}{b:St}{H:Hp}{x:Str}{u:ax}{a:Pos}{Q:ax->aL->Prop}(I:Inv X pins b H s)(c:Gl X x)(hm:X.mg x=none)(d:sd x=some u)(h:Q u s) (e:x≠"__name__":=by decide) (hd:#[v]=false:=by decide):bF #[g] X.A #[uP] Q E s:=by let(i,f,g):=21 (I.mod.blt);exact Calls.Name_function_global I.ok.kind c (Calls.loadGlobal_builtin #[hC] hm (by rw[I.ok.blt];exact f.keeps I.bk) ((g x e).trans d) h) hd
def Je{x:Str}{v:V}{u:ax}{a:Pos}(b:Gl X x)(hm:X.mg x=some u)(r:RelV v u)(hd:#[v]=false:=by decide):PE X #[nI] (tC v):=λ_ _ _ H _ I h=>B5 I b hm #[xN] hd
variable {a b:cz}{ta tb:TE}{pos:Pos}
abbrev PC(X:Cx)(f:Fs)(a b:cz)(t:TE):Prop:=∀(pins:List (ae×Obj)) (s:aL) (e:St) (H:Hp) (Q:VK),Inv X pins e H s->t e H Q->bF #[g] X.A #[qQ] (λv c=>bF #[g] X.A #[zF] (λu d=>bF #[g] X.A (gu f v u) (EP X pins e Q) X.xe d) X.xe c) X.xe s
def WY(b:cz){a:Fs}(h:a≠ .In)(c:a≠ .NotIn):zK a b=false:=by cases a<;>first|exact absurd rfl h|exact absurd rfl c|(cases b<;>first|rfl|(show((_&&false)&&_)=false;rw[fJ];rfl))
abbrev ajP(ta:TE):TE:=λa H Q=>ta a H λx b=>Q #[rh] b
abbrev abS(ta:TE):TE:=λa H Q=>ta a H λx b=>Q #[qi] b
def RelV.WZ{x:V}{v:ax}(r:RelV x v):(v==Value.none)=decide (x= .cG):=by
 cases x with
 |cG=>cases r;rfl
 |bl _=>cases r;rfl
 |int _=>let(t,rfl):=1 r;rfl
 |str _=>let(t,rfl):=1 r;rfl
 |Av _=>let(t,rfl):=1 r;rfl
 |flt _=>let(t,rfl):=1 r;rfl
 |ref _=>cases r;rfl
 |ty _=>cases r;rfl
def W0{j pos'}(c:PE X a ta):PC X .Is a #[qj] (ajP ta):=by intro pins s d H Q I h;refine da #[s5] λv k b=>e2_2 b λx e f g i=> ?_;exact Constant_none (is_none_gen #[lb])
def aiI{j pos'}(c:PE X a ta):PC X .IsNot a #[qj] (abS ta):=by intro pins s d H Q I h;refine da #[s5] λv k b=>e2_2 b λx e f g i=> ?_;exact Constant_none (isnot_none_gen #[lb])
abbrev tB(t:TE):TT:=λa H Q=>t a H λx b=>mB x λc=>Q c b
def LM{e:Fs}{t:TE}(h:PC X e a b t)(f:zK e b=false:=by first|exact WY _ #[c] #[c]|rfl):PT X (.Compare a [e] [b] pos) (tB t):=by intro pins s i H Q I hw;refine wpAny_isTrue_Compare1 (da #[CR,i] λv o f=>da f λu p j=>da j λc r g=>e2_2 g λx k l m n=> ?_) f;let(d,rfl,q):=21 (zm n);cases m;exact eY (k,l,q)
def dB{e:cz}{t:TE}(h:PE X e t)(he:∀a,isTrue e X.env a=(do let v<-a;standAt e.pos;holding [v] #[x7]):=by intro _;rfl):PT X e (tB t):=by intro pins s c H Q I hw;refine isTrue_plain (da #[CR,c] λv k b=>e2_2 b λx f g i j=> ?_) (he _);let(d,rfl,q):=21 (zm j);cases i;exact eY (f,g,q)
variable {tA tB':TT}{rest:List cz}
abbrev age(t u:TT):TT:=λa H Q=>t a H λc b=>if c=true then u a b Q else Q false b
abbrev tOr(t u:TT):TT:=λa H Q=>t a H λc b=>if c=true then Q true b else u a b Q
abbrev abT(t:TT):TT:=λa H Q=>t a H λc b=>Q (!c) b
def Nv(b:PT X a tA):PW X (.BoolOp .And [a] pos) tA:=by
 rw[2104];refine isTrue_and #[jb];cases c with
 |true=>exact isTrue_and_nil e
 |false=>exact e
def vI(b:PT X a tA):PW X (.BoolOp .Or [a] pos) tA:=by
 rw[2104];refine isTrue_or #[jb];cases c with
 |false=>exact isTrue_or_nil e
 |true=>exact e
def QF(j:PT X a tA)(k:PW X (.BoolOp .And (b::rest) pos) tB'):PW X (.BoolOp .And (a::b::rest) pos) (age tA tB'):=by
 rw[2103];refine isTrue_and #[il];cases c with
 |true=>exact k l pins m e f Q g i
 |false=>exact(f,g,i)
def xR(j:PT X a tA)(k:PW X #[ou] tB'):PW X #[mK] (tOr tA tB'):=by
 rw[2103];refine isTrue_or #[il];cases c with
 |true=>exact(f,g,i)
 |false=>exact k l pins m e f Q g i
def fj(b:PT X a tA):PT X #[sC] (abT tA):=by intro pins s d H Q I h;exact isTrue_not (b pins s d H (λc e=>Q (!c) e) I h)
abbrev alU(ta tb:TE):TE:=λa H Q=>ta a H λx b=>mB x λc=>if c=true then tb a b Q else Q #[fs] b
abbrev ajQ(ta tb:TE):TE:=λa H Q=>ta a H λx b=>mB x λc=>if c=true then Q #[hZ] b else tb a b Q
abbrev ahW(ta:TE):TE:=λa H Q=>ta a H λx b=>mB x λc=>Q (.bl (!c)) b
def W1{op}{t:TE}(h:PE X a t):PE X (.BoolOp op [a] pos) t:=λpins s b H Q I hw=>BoolOp_one (h pins s b H Q I hw)
def Wz(j:PE X a ta)(k:PE X #[ou] tb):PE X #[mK] (ajQ ta tb):=by
 rw[2131];refine BoolOp_or (da #[CY,j] λv l e=>e2_2 e λx g i m d=> ?_);let(c,rfl,d):=21 (zm d);cases m;rw[2058];cases c with
 |false=>exact k pins l f g Q i d
 |true=>exact(.bl true,g,i,rfl,d)
def adP(e:PE X a ta):PE X #[sC] (ahW ta):=by intro pins s f H Q I h;refine UnaryOp_ (da #[CY,e] λv k b=>e2_2 b λx g i j d=> ?_);let(c,rfl,d):=21 (zm d);cases j;exact not_of (eY (.bl (!c),g,i,rfl,d))
abbrev tIf(t:TT)(ta tb:TE):TE:=λa H Q=>t a H λc b=>if c=true then ta a b Q else tb a b Q
def wM{c:cz}(l:PT X c tA)(m:PE X a ta)(n:PE X b tb):PE X (.IfExp c a b pos) (tIf tA ta tb):=by
 rw[1986];refine wpAny_IfExp (da #[CZ,l] λd g f=>e1_1 f λi j k=> ?_);cases d with
 |true=>exact m pins g e i Q j k
 |false=>exact n pins g e i Q j k
#where
#print L2
namespace L2
open PySem PySem.Spec PyProof.Rows
abbrev a8(K:aA)(H:Hp)(a:ae)(xs:List V):Prop:=Rd H a #[ai]\/∃(o:Obj) (b:Array ax) (n:Nat),K.lookup a=some o/\o.cls= .type "list"/\o.dict=none/\o.data= .seq b n/\b.size<=aS/\Vals xs b.toList
abbrev cK(K:aA)(H:Hp)(a:ae)(xs:List V):Prop:=Rd H a #[bL]\/∃(o:Obj) (b:Array ax) (n:Nat),K.lookup a=some o/\o.cls= .type "tuple"/\o.data= .seq b n/\b.size<=aS/\Vals xs b.toList
abbrev aoe:ax->Option V
 | .none=>some .cG
 | .bool b=>some #[mq]
 | .int i _=>some #[gn]
 | .str x _=>some (.str x)
 | .bytes b _=>some (.Av b)
 | .float b _=>some (.flt b)
 | .ref a=>some #[bh]
 | .type n=>some (.ty n)
 |_=>none
def RelV.abs{x:V}{u:ax}(r:RelV x u):aoe u=some x:=by
 cases x with
 |cG=>cases r;rfl
 |bl _=>cases r;rfl
 |int _=>let(t,rfl):=1 r;rfl
 |str _=>let(t,rfl):=1 r;rfl
 |Av _=>let(t,rfl):=1 r;rfl
 |flt _=>let(t,rfl):=1 r;rfl
 |ref _=>cases r;rfl
 |ty _=>cases r;rfl
def RelV.inj{x y:V}{u:ax}(r:RelV x u)(q:RelV y u):x=y:=dm.inj (r.abs.symm.trans q.abs)
def Vals.inj:∀{xs ys:List V} {us:List ax},Vals xs us->Vals ys us->xs=ys:=by
 intro xs ys us h
 induction h generalizing ys with
 |nil=>intro q;rw[2090];rfl
 |cons r t a=>intro q;cases q with
  |cons b t'=>rw[r.inj b,a t']
section
variable {X:Cx}{pins:List (ae×Obj)}{σ:St}{H:Hp}{s:aL}{a:ae}{xs ys:List V}
def a8.of{K:aA}(h:H a=some #[ai]):a8 K H a xs:= .inl #[nG]
def cK.of{K:aA}(h:H a=some #[bL]):cK K H a xs:= .inl #[nG]
def Inv.list(I:Inv X pins σ H s)(h:a8 X.K H a xs):∃b:List ax,Vals xs b/\PlainL s.heap a b.toArray/\xs.length<=aS:=by
 rcases h with h|⟨o,b,n,d,f,hd,hs,hz,r⟩
 ·(let(z,c):=20 (h.ok I.cQ);let(b,n,r,e):=22 c)
  exact(b,r,(_,n,e,rfl,rfl,rfl),z)
 ·refine(b.toList,r,(o,n,I.Ac a o d,f,hd,by simpa using hs),?_);have e:=r.length;simp only[yX]at e
  simp_all
def Inv.tuple(I:Inv X pins σ H s)(h:cK X.K H a xs):∃b:List ax,Vals xs b/\IsTup s.heap a b.toArray/\xs.length<=aS:=by
 rcases h with h|⟨o,b,n,d,f,hs,hz,r⟩
 ·(let(z,c):=20 (h.ok I.cQ);let(b,r,p):=21 c)
  exact(b,r,p,z)
 ·refine(b.toList,r,(o,I.Ac a o d,f,n,by simpa using hs),?_);have e:=r.length;simp only[yX]at e
  lia
def Inv.FK(I:Inv X pins σ H s)(h:a8 X.K H a xs)(h':a8 X.K H a ys):xs=ys:=by
 (let(c,r,b,_):=41 (I.list h);let(o,n,e,_,_,d):=62 b)
 (let(its',g,b,_):=41 (I.list h');let(j,k,f,_,_,d'):=62 b)
 rw[e]at f;cases f;rw[d]at d';injection d' with i _;have:c=its':=by simpa using dA Array.toList i
 rw[1936];exact r.inj g
#where
nonrec abbrev Cx.Ib (X:Cx) (E:ax->aL->Prop):Cx:={X with xe:=E}
nonrec abbrev Cx.nox (X:Cx):Cx:=X.Ib λ_ _=>False
def Cx.Ok.Ib{X:Cx}(ok:X.Ok)(E:ax->aL->Prop):#[wi].Ok:=#[D]
def Cx.Ok.Dp{X:Cx}{E:ax->aL->Prop}(ok:#[wi].Ok):X.Ok:=#[D]
section
variable {X:Cx}{pins:List (ae×Obj)}{σ:St}{H:Hp}{s:aL}{E:ax->aL->Prop}
def Inv.Ib(I:Inv X pins σ H s)(E:ax->aL->Prop):Inv #[wi] pins σ H s:=(I.ok.Ib E,I.os,I.bare,I.base,I.loc,I.cell,I.free,I.sM,I.pin,I.cQ,I.len)
def Inv.Dp(I:Inv #[wi] pins σ H s):Inv X pins σ H s:=(I.ok.Dp,I.os,I.bare,I.base,I.loc,I.cell,I.free,I.sM,I.pin,I.cQ,I.len)
def SP.Dp{D:Ends}{f:Flow}{s':aL}(h:SP #[wi] pins D f s'):SP X pins D f s':=by
 cases f with
 |next=>let(a,H',I,q):=22 h;exact #[mM]
 |brk=>let(a,H',I,q):=22 h;exact #[mM]
 |cont=>let(a,H',I,q):=22 h;exact #[mM]
 |ret u=>let(v,a,H',I,r,q):=43 h;exact(v,a,H',I.Dp,r,q)
def BS.nox{st:List bu}{t:TS}(h:BS X.nox st t):BS X st t:=λpins s a H D I hw=>
 jR (h pins s a H D (I.Ib _) hw) (λ_ _ q=>q.Dp) λ_ _ z=>False.elim z
#where
section
variable {X:Cx}{st:bu}{rest:List bu}{t u:TS}{e:cz}{te:TE}{pos:Pos}
abbrev abU:TS:=λD a H=>D.nx a H
abbrev Ic(t u:TS):TS:=λD a H=>t {D with nx:=u D} a H
def bw:BS X [] abU:=λ_ _ a H _ I h=>wK #[Aq]
def aj(b:PS X st t)(c:BS X rest u):BS X (st::rest) (Ic t u):=by
 intro pins s d H D I h;refine wpAny_execs_cons (da (b pins s d H {D with nx:=u D} I h) λf e q=> ?_);cases f with
 |next=>let(a,H',g,q):=22 q;exact c pins e a H' D g q
 |ret v=>exact q
 |brk=>exact q
 |cont=>exact q
def aB(a:PS X st t):BS X [st] t:=by
 rw[1987];refine wpAny_execs_cons (da (a pins s b H D I h) λf c q=> ?_);cases f with
 |next=>exact wK q
 |ret v=>exact q
 |brk=>exact q
 |cont=>exact q
def Inv.quiet{pins:List #[H]}{a:St}{H:Hp}{s:aL}(I:Inv X pins a H s):interactive X.env=false:=by simp[interactive,I.ok.kind]
abbrev JR(te:TE):TS:=λD a H=>te a H λ_ H1=>D.nx a H1
def c9(he:PE X e te)(hs:vb e none pos.line X.env=pure false:=by rfl):PS X (.Expr e pos) (JR te):=by intro pins s b H D I h;exact wpAny_Expr_any (da #[r4] λv g a=>e2_2 a λx c d i f=>(b,c,d,f)) I.quiet hs
abbrev agf(te:TE):TS:=λD a H=>te a H D.rt
def aW(he:PE X e te):PS X (.Return (some e) pos) (agf te):=by intro pins s b H D I h;exact wpAny_Return_some (da #[r4] λv i a=>e2_2 a λx c d f g=>(x,b,c,d,f,g))
abbrev alV:TS:=λD _ H=>D.rt .cG H
abbrev agg(c:TT)(t u:TS):TS:=λD a H=>c a H λb d=>if b=true then t D a d else u D a d
def bX{c:cz}{a b:List bu}{g:TT}(m:PT X c g)(n:BS X a t)(o:BS X b u):PS X (.If c a b pos) (agg g t u):=by
 rw[2132];refine wpAny_If (da #[CZ,m] λd i f=>e1_1 f λj k l=> ?_);cases d with
 |true=>exact n pins i e j D k l
 |false=>exact o pins i e j D k l
#where
nonrec abbrev TG:=V->St->Hp->#[xE]->Prop
nonrec abbrev UI:=List V->St->Hp->#[xE]->Prop
abbrev PG(X:Cx)(a:cz)(t:TG):Prop:=∀(pins:List (ae×Obj)) (s:aL) (c:St) (H:Hp) (v:V) (u:ax) (Q:St->Hp->Prop),Inv X pins c H s->RelV v u->t v c H Q->bF #[g] X.A (assign a X.env u) (λ_ s'=>∃b H',Inv X pins b H' s'/\Q b H') X.xe s
abbrev PGs(X:Cx)(c:List cz)(t:UI):Prop:=∀(pins:List (ae×Obj)) (s:aL) (b:St) (H:Hp) (vs:List V) (us:List ax) (Q:St->Hp->Prop),Inv X pins b H s->Vals vs us->t vs b H Q->bF #[g] X.A (assignInOrder ((Fo c X.env).map (·.2)) us) (λ_ s'=>∃a H',Inv X pins a H' s'/\Q a H') X.xe s
nonrec abbrev TIp:=V->V->Hp->VK->Prop
abbrev PIp(X:Cx)(b:G1)(t:TIp):Prop:=∀(pins:List (ae×Obj)) (s:aL) (a:St) (H:Hp) (x y:V) (v u:ax) (Q:VK),Inv X pins a H s->RelV x v->RelV y u->t x y H Q->bF #[g] X.A (inplaceOp b v u) #[cL] X.xe s
section
variable {X:Cx}{pos:Pos}
abbrev sN(i:Nat):TG:=λv a H Q=>Q (a.set i #[h8]) H
def SN{i:Nat}{x:Str}(a:X.N.Nodup)(b:X.N[i]?=some x)(c:Loc X.env.scope x)(d:X.fn x=true\/X.env.scope.names.lookup x=some .local:=by first|exact .inl rfl|exact .inr rfl|assumption):PG X (.Name x pos) (sN i):=by intro pins s f H v u Q I r h;exact wpAny_assign_Name (Pa I a b c r (λs' e=>(_,H,e,h)) d)
abbrev ajS:UI:=λvs a H Q=>vs=[]/\Q a H
abbrev ahY(t:TG)(u:UI):UI:=λvs b H Q=>∃v r,vs=v::r/\t v b H λa H'=>u r a H' Q
def Nw:PGs X [] ajS:=by intro pins s a H vs us Q I r h;let(e,h):=20 h;subst e;cases r;exact assignInOrder_nil #[Aq]
def wN{e:cz}{es:List cz}{t:TG}{u:UI}(c:PG X e t)(d:PGs X es u) (hs:(Fo (e::es) X.env).map (·.2)=assign e X.env::#[sv].map (·.2):=by rfl):PGs X (e::es) (ahY t u):=by
 intro pins s f H vs us Q I r h;let(v,m,g,h):=22 h;subst g;cases r with
 |cons r i=>rw[hs];refine assignInOrder_cons (da (c pins s f H _ _ _ I r h) λ_ s1 a=> ?_);let(b,j,k,l):=22 a;exact d pins s1 b j _ _ Q k i l
abbrev aof(K:aA)(n:Nat)(t:UI):TG:=λv b H Q=>∃a xs,v= .ref a/\cK K H a xs/\xs.length=n/\t xs b H Q
def QG{es:List cz}{k:Nat}{t:UI}{n:Nat}(g:X.calm=true)(h:PGs X es t) (i:#[sv].length=n:=by rfl) (c:#[sv].findIdx? (·.1)=none:=by rfl):PG X (.Tuple es k pos) (aof X.K n t):=by intro pins s d H v u Q I r hw;let(a,xs,j,l,m,hw):=62 hw;subst j;cases r;let(p,f,q,hz):=41 #[CA,l];refine assign_Tuple_tuple #[CB,g] q (by simp[i,<-m,f.length]) c λh' w=> ?_;have x:Inv X pins d H {s with heap:=h'}:=I.kept (t':=s.toks) λb o e=>w b o (gj #[a7]) e;exact h pins _ d H xs _ Q x #[u0] hw
abbrev W2(te:TE)(g:TG):TS:=λD a H=>te a H λx b=>g x a b D.nx
def QH{i:Nat}{x:Str}{e:cz}{te:TE}{a:Pos}(c:X.N.Nodup)(d:X.N[i]?=some x)(f:Loc X.env.scope x)(he:PE X e te)(hs:vb e #[Dc,#[nI]] pos.line X.env=pure false:=by rfl)(g:X.fn x=true\/X.env.scope.names.lookup x=some .local:=by first|exact .inl rfl|exact .inr rfl|assumption):PS X (.Assign [.Name x a] e pos) (W2 te (sN i)):=by intro pins s j H D I h;refine wpAny_Assign_Name (da #[r3] λv p b=>e2_2 b λy k l m n=> ?_) hs;exact Pa l c d f m (λq o=>(_,k,o,n)) g
abbrev agh(i:Nat)(te:TE)(b:TIp):TS:=λD a H=>mO a[i]? λx=>te a H λy c=>b x y c λz d=>D.nx (a.set i (some z)) d
def ajT{i:Nat}{x:Str}{e:cz}{te:TE}{j:G1}{q:TIp}{d:Pos}(C:X.N.Nodup)(t:X.N[i]?=some x)(n:Loc X.env.scope x)(he:PE X e te)(E:PIp X j q)(F:X.fn x=true\/X.env.scope.names.lookup x=some .local:=by first|exact .inl rfl|exact .inr rfl|assumption):PS X (.AugAssign (.Name x d) j e pos) (agh i te q):=by
 intro pins s B H D I h;let(v,G,h):=21 (JQ h);let(m,J,K):=21 #[ws];have vis:WU X.env.scope x:=by rcases n with k|k;exact .inl k;exact .inr #[Ae]
 let(u,r,l):=21 (K i x v t G vis);refine wpAny_AugAssign_Name ?_;have go:bF #[g] X.A #[gM] (λw f=>bF #[g] X.A (inplaceOp j u w) (λr g=>bF #[g] X.A (storeName X.env x r) (λ_=>SP X pins D .next) X.xe g) X.xe f) X.xe s:=by refine da #[CC,B] λw L o=>e2_2 o λy M O P Q=> ?_;refine da (E pins L B M v y u w _ O r P Q) λz Y p=>e2_2 p λZ R S T U=> ?_;exact Pa S C t n T (λs3 V=>(_,R,V,U)) F
 rcases l with⟨a,hm⟩|⟨a,c,W,b⟩
 ·exact wpAny_loadName_local I.ok.kind a J hm go
 ·rcases a with a|a
  ·exact wpAny_loadName_cell I.ok.kind a W b go
  ·rcases n with k|k
   ·rw[1958];rw[k]at this;rw[1908]
   ·rw[1958];rw[k]at this;rw[1908]
abbrev ipI(f:Int->Int->Int):TIp:=λx y H Q=>mI x λi=>mI y λj=>Q #[re] H
def wO:PIp X .Add (ipI λi j=>i+j):=by intro pins s e H x y v u Q I a b h;let(i,j,c,d,q):=42 (FJ h);subst c;subst d;let(t,rfl):=1 a;let(t',rfl):=1 b;exact iadd_int #[dd]
#where
section
variable {X:Cx}{pos:Pos}
abbrev W3(c:TT)(tb:TS):TS:=λD a H=>∃W:Nat->St->Hp->Prop,(∃m,W m a H)/\∀m a H,W m a H->c a H λb e=>if b=true then∃N:St->Hp->Prop,(∀d H',N d H'->∃f,f<m/\W f d H')/\tb {D with nx:=N,ct:=N,bk:=D.nx} a e else D.nx a e
def ry{c:cz}{body:List bu}{t:TT}{tb:TS}(u:PassesOwn #[g] X.A X.env X.xe)(B:PT X c t)(C:BS X body tb):PS X (.While c body [] pos) (W3 t tb):=by
 intro pins s E H D I h
 (let(W,l,e):=21 h;let(F,G):=1 l)
 refine wpAny_While (codeAny_whileLoop (λn s'=>∃g H',Inv X pins g H' s'/\W n g H') ?_ F (E,H,I,G));rintro n J ⟨d,H1,K,L⟩;refine ql u (da (B pins J d H1 _ K (e n d H1 L)) λb M m=>e1_1 m λx y j=> ?_);cases b with
 |true=>
  let(N,z,j):=21 j;rw[1898];refine ql u (da (C pins M d x _ y j) λf O k=> ?_);cases f with
  |next=>let(a,i,o,p):=22 k;rw[2030];exact #[uC]
  |cont=>let(a,i,o,p):=22 k;rw[2030];exact #[uC]
  |brk=>exact k
  |ret v=>exact k
 |false=>rw[am cA];exact wK (d,x,y,j)
#where
structure It where
 go:Nat->Hp->Prop
 QI:Nat->Hp->V->Hp->Prop
 stop:Nat->Hp->Prop
abbrev DX(X:Cx)(pins:List #[H])(H:Hp)(b:ae):Prop:=H b=none/\b≠X.env.locals/\b∉X.fs/\#[b3]/\#[bb]/\∀p∈X.pn++pins,p.1≠b
def Inv.SO{X:Cx}{pins:List #[H]}{d:St}{H H':Hp}{s:aL}{b:ae}(I:Inv X pins d H s)(a:s.heap.objs.size<=b)(f:H' b=none):DX X pins H' b:=by
 refine(f,KY (dj I.lt a),I.aod a,.inr (dk I.sz a),λx c e z=> ?_,λp g z=> ?_)
 ·let(v,q):=1 #[lX];exact absurd (dj q.lt #[u3]) #[ye]
 ·exact absurd (dj (Heap.lt_size #[Dx,g].1) #[u3]) #[ye]
structure Turn(P:cj)(w:cY)(K:aA)(tg:cz)(J:It)(fp:List ae)(it:ae)(tn:Nat->cZ->Prop):Prop where
 mem:it∈fp
 obj:∀i h,tn i h->∀b∈fp,∃o,h.get? b=some o/\∀v,o.data≠ .cell v
 keep:∀i h h',tn i h->(∀b∈fp,∀o,h.get? b=some o->h'.get? b=some o)->tn i h'
 item:∀(X:Cx),X.prog=P->X.w=w->X.K=K->X.calm=true->∀(i:Nat) (pins:List (ae×Obj)) (s:aL) (σ:St) (H:Hp) (E:ax->aL->Prop),Inv X pins σ H s->#[o5]->tn i s.heap->J.go i H->
  bF #[qZ] X.A #[lF] (λr s1=>∃u,r=some u/\
   bF #[qZ] X.A (BL tg #[gk] u) (λ_ s2=>∃x H',Inv X pins σ H' s2/\RelV x u/\J.QI i H x H'/\tn (i+1) s2.heap/\∀b∈fp,H' b=none) E s1) E s
 done:∀(X:Cx),X.prog=P->X.w=w->X.K=K->X.calm=true->∀(i:Nat) (pins:List (ae×Obj)) (s:aL) (σ:St) (H:Hp) (E:ax->aL->Prop),Inv X pins σ H s->#[o5]->tn i s.heap->J.stop i H->
  bF #[qZ] X.A #[lF] (λr s1=>r=none/\Inv X pins σ H s1) E s
 self:∀(A:dE) (i:Nat) (s:aL) (Q:ax->aL->Prop) (E:ax->aL->Prop),tn i s.heap->Q #[gk] s->bF #[qZ] A (pyIter #[gk]) Q E s
nonrec abbrev TI:=St->Hp->(It->Hp->Prop)->Prop
abbrev PIE(X:Cx)(pins:List #[H])(f:St)(g:cz)(R:It->Hp->Prop)(a:ax)(c:aL):Prop:=∃(it:ae) (d:List ae) (e:Nat->cZ->Prop) (J:It) (H':Hp),a= .ref it/\Inv X pins f H' c/\Turn X.prog X.w X.K g J d it e/\e 0 c.heap/\(∀b∈d,DX X pins H' b)/\R J H'
abbrev PI(X:Cx)(c a:cz)(d:TI):Prop:=∀(pins:List (ae×Obj)) (s:aL) (b:St) (H:Hp) (R:It->Hp->Prop),Inv X pins b H s->d b H R->bF #[g] X.A #[qQ] (λv e=>bF #[g] X.A (pyIter v) (PIE X pins b c R) X.xe e) X.xe s
def Ny{M:Model}{A:dE}{E:ax->aL->Prop}{s:aL}{b:cz}{it:ae}{u:ax}{o:Obj}{n:String}{vs:Array ax}{Q:Unit->aL->Prop}(c:s.heap.get? it=some o)(d:o.cls= .type n)(hd:o.data= .fields vs) (e:#[a5].contains n=false) (a:Q () s):bF M A (BL b #[gk] u) Q E s:=by
 unfold BL;cases b<;>first
  |exact bA a
  |(cases u<;>first
    |exact bA a
    |(refine aX (wpAny_load c ?_)
      rw[d,hd];show bF M A (if(#[a5].contains n&&vs[0]?==some (rawInt _))=true then _ else _) Q E s;rw[am (by intro h;rw[e,ma]at h;cases h)];exact bA a))
abbrev K8(K:aA)(a:ae):It:=(λi H=>∃xs x,a8 K H a xs/\xs[i]?=some x,λi H x H'=>H'=H/\∀xs,a8 K H a xs->xs[i]?=some x,λi H=>∃xs,a8 K H a xs/\xs.length<=i)
abbrev Itr(lo:Int)(n:Nat):It:=(λi _=>i<n,λi H x H'=>H'=H/\x= .int (lo+i),λi _=>n<=i)
def adS{P:cj}{w:cY}{K:aA}{L:cz}(a it:ae):Turn P w K L #[jE] [it] it (λi h=>h.IsListIter it a i) where
 mem:=by simp
 obj:=λi h st b f=>by
  have e:b=it:=by simpa using f
  rw[2046];let(o,e,c,d):=41 st;exact #[jg]
 keep:=λi h h' st k=>st.at λo e=>k it #[p] o e
 item:=by intro X m hw n G i pins s J H E I j st q;subst m hw n;let(xs,x,l,r):=22 q;rw[2005];let(u,M,N):=21 (y.get r);rw[1998];refine wpAny_pyNext_list_item st p.isList (x:=u) (by simpa using M) λh' g Q=> ?_;have R:Inv X pins J H {s with heap:=h'}:=I.turned (t':=s.toks) (λb o f e=>(Q.2 b f).trans e) A B C D F;let(o,e,c,d):=41 (id g);exact(u,rfl,Ny (s:={s with heap:=h'}) e c d #[c] (x,H,R,N,(rfl,λys S=>by rw[I.FK S l];exact r),g,λb f=>(j b f).1))
 done:=by intro X m hw n G i pins s J H E I j st q;subst m hw n;let(xs,l,r):=21 q;rw[2005];rw[1998];have U:=y.length;exact wpAny_pyNext_list_end #[CB,G] st p.isList #[md] λh' T=>(rfl,I.turned (t':=s.toks) (λb o f e=>T b o f e) A B C D F)
 self:=λ_ _ _ _ _ st h=>wpAny_pyIter_listiter st h
def abV{P:cj}{w:cY}{K:aA}{y:cz}(it:ae)(lo:Int)(n:Nat):Turn P w K y #[tf] [it] it (λi h=>IsRangeIter h it (lo+(i:Nat)*1) ((n:Int)-(i:Nat)) 1) where
 mem:=by simp
 obj:=λi h st b a=>by
  have e:b=it:=by simpa using a
  rw[2046];exact(_,st,λv z=>by have A:Data.fields _=Data.cell v:=z;cases A)
 keep:=λi h h' st k=>k it #[p] _ st
 item:=by intro X f hw g j i pins s x H E I d st l;subst f hw g;rw[1992];have W:=Walks.range (prog:=X.prog) (w:=X.w) #[CB,j] it lo 1 n;refine W.item i s _ _ l st λv h' tk C c D=> ?_;let(t,rfl):=1 C;have F:Inv X pins x H {s with heap:=h',toks:=tk}:=I.turned (λb o a e=>D b o (by simpa using a) e) m p q r u;refine(_,rfl,Ny (s:={s with heap:=h',toks:=tk}) (n:="range_iterator") c rfl rfl #[c] (.int (lo+i),H,F,(t,?_),(rfl,rfl),c,λb a=>(d b a).1));rw[Int.mul_one]
 done:=by intro X f hw g j i pins s x H E I d st l;subst f hw g;rw[1992];exact wpAny_pyNext_range_end #[CB,j] st (by have:n<=i:=l;lia) λh' G=>(rfl,I.turned (t':=s.toks) (λb o a e=>G b o a e) m p q r u)
 self:=λ_ _ _ _ _ st h=>wpAny_pyIter_rangeiter st h
#print L2
namespace L2
open PySem PySem.Spec PyProof.Rows
section
variable {X:Cx}{tg:cz}
abbrev WA(K:aA)(tl:TE):TI:=λc H R=>tl c H λx b=>∃a,x= .ref a/\(∃xs,a8 K b a xs)/\R #[jE] b
def gX{l:cz}{tl:TE}(i:PE X l tl):PI X tg l (WA X.K tl):=by
 intro pins s j H R I h;refine da (i pins s j H _ I h) λv c f=>e2_2 f λx k d m n=> ?_
 (let(a,e,g,q):=41 n;let(xs,r):=1 g)
 rw[2046];cases m;let(t,w,p,hz):=41 (d.list r);refine wpAny_pyIter_list p.isList ?_;refine(c.heap.objs.size,[c.heap.objs.size],_,_,k,rfl,d.kept (t':=c.toks) λb o e=>Heap.get?_push_of_some _ e,adS a _,#[bs],λb u=> ?_,q);have e:b=c.heap.objs.size:=by simpa using u
 rw[2046];rw[2135]
def agi{pins:List #[H]}{c:St}{H:Hp}{s:aL}{R:It->Hp->Prop}{E:ax->aL->Prop}{lo a:Int}{t u v:Tok}{tk:Nat}(I:Inv X pins c H s)(f: -(2^62)<=lo)(g:lo<2^62)(h: -(2^62)<=a)(i:a<2^62) (q:R (Itr lo (a-lo).toNat) H):bF #[g] X.A (pyIter #[bt]) (PIE X pins c tg R) E {s with heap:=s.heap.push {cls:= .type "range",data:= .fields #[.int lo t,.int a u,.int 1 v]},toks:=tk}:=by
 refine wpAny_pyIter_range #[xF] (small_one f g h i) ?_;have d:Inv X pins c H {s with heap:=s.heap.push {cls:= .type "range",data:= .fields #[.int lo t,.int a u,.int 1 v]},toks:=tk}:=I.kept λb o e=>Heap.get?_push_of_some _ e;refine(#[aB].objs.size,[#[aB].objs.size],_,_,H,rfl,d.kept (t':=tk) λb o e=>Heap.get?_push_of_some _ e,abV _ lo (a-lo).toNat,?_,λb j=> ?_,q)
 ·have k:lo+#[h2]*1=lo:=by simp
  have l:#[ql]-#[h2]=Builtin.Range.rangeSize lo a 1:=by rw[rangeSize_one];split<;>lia
  show IsRangeIter _ _ (lo+#[h2]*1) (#[ql]-#[h2]) 1;rw[k,l];rw[2039]
 ·have e:b=#[aB].objs.size:=by simpa using j
  rw[2046];rw[2135]
abbrev alW(a:TA):TI:=λb H R=>a b H λvs c=>∃i j:Int,vs=#[ki]/\(-(2^62)<=i/\i<2^62/\-(2^62)<=j/\j<2^62)/\R (Itr i (j-i).toNat) c
def adT{a b:cz}{m:TA}{p c:Pos}(n:Gl X "range")(hm:X.mg "range"=none)(o:PA X [a,b] m)(hs:bV [a,b] X.env=#[Aw]:=by rfl)(d:bV [b] X.env=[#[gL]]:=by rfl):PI X tg (.Call (.Name "range" p) [a,b] [] c) (alW m):=by
 intro pins s u H R I h;refine Call_ (Do I n hm boot_range (PyProof.Rows.callWith_type1 (da (o c pins s u H _ I h) λus B f=>e2_2 f λvs C v w g=> ?_) (by rw[hs,d]) (by rw[d];rfl)))
 (let(i,j,e,k,q):=42 g;let(g,x,y,z):=60 k)
 rw[2046];cases w with
 |cons r l=>
  cases l with
  |cons A l=>cases l;rw[1940];let(t',rfl):=1 A;exact call_range_2 (agi v g x y z q)
abbrev ajU(e:TI)(g:TG)(tb:TS):TS:=λD a H=>e a H λJ f=>∃W:Nat->Nat->St->Hp->Prop,(∃m,W 0 m a f)/\∀i m a H,W i m a H->#[q5]\/(J.go i H/\∃N:St->Hp->Prop,(∀b H',N b H'->∃d,d<m/\W (i+1) d b H')/\∀x H',J.QI i H x H'->g x a H' λc h=>tb {D with nx:=N,ct:=N,bk:=D.nx} c h)
abbrev LN(a:List ae)(h:cZ):List #[H]:=a.filterMap λb=>(h.get? b).map λo=>((b),o)
def JS{a:List ae}{h:cZ}{b:ae}{o:Obj}(c:b∈a)(e:h.get? b=some o):((b),o)∈LN a h:=GJ.mpr (b,c,by rw[e];rfl)
def adU{a:List ae}{h:cZ}{p:ae×Obj}(c:p∈LN a h):p.1∈a/\h.get? p.1=some p.2:=by
 let(b,d,e):=21 (GJ.mp c);cases q:h.get? b with
 |none=>rw[q]at e;rw[2048]
 |some o=>rw[q]at e;have f:((b),o)=p:=dm.inj e;subst f;exact(d,q)
def Inv.pinned{pins:List #[H]}{c:St}{H:Hp}{s:aL}{a:List ae}(I:Inv X pins c H s)(h:∀b∈a,DX X pins H b)(i:∀b∈a,∃o,s.heap.get? b=some o/\∀v,o.data≠ .cell v):Inv X (pins++LN a s.heap) c H s:=I.aa2 λp j=>(a4.mp j).elim (λz=>I.pin p (jD _ z)) λz=>by let(f,e):=20 (adU z);let(k,l,m,_):=60 (h p.1 f);let(o,g,d):=21 (i p.1 f);rw[e]at g;cases g;exact(e,k,l,m,d)
def Inv.JT{pins pl:List #[H]}{a:St}{H:Hp}{s:aL}(I:Inv X (pins++pl) a H s):Inv X pins a H s:=I.aa2 λp b=>I.pin p (jD _ (xF _ b))
def iz{j:cz}{body:List bu}{wi:TI}{g:TG}{tb:TS}{P:Pos}(E:PassesOwn #[g] X.A X.env X.xe)(hc:X.calm=true)(hi:PI X tg j wi)(hg:PG X tg g)(k:BS X body tb) (hs:∀x,y1 j X.env x=pure x:=by intro _;rfl):PS X (.For tg j body [] P) (ajU wi g tb):=by
 intro pins s σ H D I h;refine wpAny_For (da (hi pins s σ H _ I h) λv s1 h1=>da h1 λitv s2 h2=> ?_) hs
 (let(it,F,tn,J,H2,Q):=5 h2;let(e,I2,T,R,f2,S):=100 Q;let(W,U,G):=21 S;let(m0,w0):=1 U)
 rw[2046];have l:∀{H':Hp},#[km]->∀b∈F,DX X pins H' b:=λhn b k=>(hn b k,(f2 b k).2);refine codeAny_forLoop_any (λn s'=>∃i p H',Inv X pins p H' s'/\tn i s'.heap/\#[km]/\W i n p H') ?_ m0 (0,σ,H2,I2,R,λb k=>(f2 b k).1,w0);rintro n s3 ⟨i,q,O,I3,K,L,w3⟩;rcases G i n q O w3 with⟨stop,qn⟩|⟨go,N,hN,step⟩
 ·refine ql E (da (T.done X rfl rfl rfl hc i pins s3 q O X.xe I3 (l L) K stop) λr s4 c=> ?_);let(hr,I4):=20 c;subst hr;exact wK (q,O,I4,qn)
 ·refine ql E (da (T.item X rfl rfl rfl hc i pins s3 q O X.xe I3 (l L) K go) λr s4 c=> ?_);let(u,hr,h4):=21 c;subst hr;refine ql E (da h4 λ_ s5 c=> ?_);let(x,H5,I5,r5,y5,C,V):=82 c;have Y:=I5.pinned (l V) (T.obj _ _ C);refine ql E (da (hg _ s5 q H5 x u _ Y r5 (step x H5 y5)) λ_ s6 c=> ?_);let(Z,H6,I6,q6):=22 c;refine ql E (da (k _ s6 Z H6 _ I6 q6) λf s7 B=> ?_);have t:∀{a:St} {y:Hp},Inv X (pins++LN F s5.heap) a y s7->N a y->∃m,m<n/\∃i p H',Inv X pins p H' s7/\tn i s7.heap/\#[km]/\W i m p H':=λ{a y} z M=>by
   let(m',hm,w7):=21 (hN a y M);refine(m',hm,i+1,a,y,z.JT,T.keep _ _ _ C λb k o e=>#[j8].1,λb k=> ?_,w7);let(o,e,d):=21 (T.obj _ _ C b k);exact #[j8].2.1
  cases f with
  |next=>let(a,y,z,M):=22 B;exact t z M
  |cont=>let(a,y,z,M):=22 B;exact t z M
  |brk=>let(a,y,z,B):=22 B;exact(a,y,z.JT,B)
  |ret v=>let(x7,a,y,z,r7,B):=43 B;exact(x7,a,y,z.JT,r7,B)
#where
def zN{K:aA}{a:ae}{xs:List V}{g:TG}{tb:TS}{D:Ends}{b:St}{H:Hp}(Pv:Nat->St->Hp->Prop)(h0:Pv 0 b H)(k:∀i b H,i<=xs.length->Pv i b H->a8 K H a xs) (hs:∀i x b H,xs[i]?=some x->Pv i b H->g x b H λc h=>tb {D with nx:=Pv (i+1),ct:=Pv (i+1),bk:=D.nx} c h) (hd:∀b H,Pv xs.length b H->D.nx b H):∃W:Nat->Nat->St->Hp->Prop,(∃m,W 0 m b H)/\∀i m b H,W i m b H->(#[jE].stop i H/\D.nx b H)\/(#[jE].go i H/\∃N:St->Hp->Prop,(∀d H',N d H'->∃j,j<m/\W (i+1) j d H')/\∀x H',#[jE].QI i H x H'->g x b H' λc h=>tb {D with nx:=N,ct:=N,bk:=D.nx} c h):=by
 refine(λi m b H=>m=xs.length-i/\i<=xs.length/\Pv i b H,#[l7],?_);rintro i m b H ⟨rfl,l,p⟩;have q:=k i b H l p;by_cases f:i<xs.length
 ·refine .inr ((xs,xs[i],q,by simp[f]),Pv (i+1),λd H' n=>(xs.length-(i+1),by omega,rfl,f,n),λx H' y=> ?_);rw[2001];rw[2046];exact hs i x b _ (y xs q) p
 ·have e:i=xs.length:=by lia
  rw[2046];exact .inl ((xs,q,be _),hd b H p)
def adV{lo:Int}{n:Nat}{g:TG}{tb:TS}{D:Ends}{a:St}{H:Hp}(Pv:Nat->St->Hp->Prop)(h0:Pv 0 a H) (hs:∀i a H,i<n->Pv i a H->g (.int (lo+i)) a H λb f=>tb {D with nx:=Pv (i+1),ct:=Pv (i+1),bk:=D.nx} b f) (hd:∀a H,Pv n a H->D.nx a H):∃W:Nat->Nat->St->Hp->Prop,#[w0]/\∀i m a H,W i m a H->(#[tf].stop i H/\D.nx a H)\/(#[tf].go i H/\∃N:St->Hp->Prop,(∀c H',N c H'->∃h,h<m/\W (i+1) h c H')/\∀x H',#[tf].QI i H x H'->g x a H' λb f=>tb {D with nx:=N,ct:=N,bk:=D.nx} b f):=by
 rw[1933];rintro i m a H ⟨rfl,k,p⟩;by_cases d:i<n
 ·refine .inr (d,Pv (i+1),λc H' j=>(n-(i+1),by lia,rfl,d,j),λx H' y=> ?_);rw[2001];subst e y;exact hs i a _ d p
 ·have e:i=n:=by lia
  rw[2046];exact .inl (be _,hd a H p)
def rz{c:TT}{tb:TS}{D:Ends}{a:St}{H:Hp}(Pv:St->Hp->Prop)(f:St->Hp->Nat)(h0:Pv a H) (hs:∀a H,Pv a H->c a H λb e=>if b=true then tb {D with nx:=λd H'=>Pv d H'/\f d H'<f a H,ct:=λd H'=>Pv d H'/\f d H'<f a H,bk:=D.nx} a e else D.nx a e) (mono:∀a H Q Q',(∀b e,Q b e->Q' b e)->c a H Q->c a H Q'):W3 c tb D a H:=by
 refine(λm a H=>m=f a H/\Pv a H,(_,rfl,h0),?_);rintro m a H ⟨rfl,p⟩;refine mono a H _ _ (λb e q=> ?_) (hs a H p);cases b with
 |true=>exact(_,λd H' (g,l)=>(_,l,rfl,g),q)
 |false=>exact q
#print L2
namespace L2
open PySem PySem.Spec PyProof.Rows
nonrec abbrev R2:=V->V->Hp->VK->Prop
abbrev pY(X:Cx)(f:ax->ax->Sem ax)(r:R2):Prop:=∀(pins:List (ae×Obj)) (s:aL) (a:St) (H:Hp) (x y:V) (v u:ax) (Q:VK),Inv X pins a H s->RelV x v->RelV y u->r x y H Q->bF #[g] X.A (f v u) #[cL] X.xe s
abbrev UnR(X:Cx)(f:ax->Sem ax)(r:V->Hp->VK->Prop):Prop:=∀(pins:List (ae×Obj)) (s:aL) (a:St) (H:Hp) (x:V) (v:ax) (Q:VK),Inv X pins a H s->RelV x v->r x H Q->bF #[g] X.A (f v) #[cL] X.xe s
abbrev Hh(X:Cx)(f:ax)(r:List V->Hp->VK->Prop):Prop:=∀(pins:List (ae×Obj)) (s:aL) (a:St) (H:Hp) (xs:List V) (us:List ax) (Q:VK),Inv X pins a H s->Vals xs us->r xs H Q->bF #[g] X.A (call f us) #[cL] X.xe s
abbrev aog(X:Cx)(r:V->Hp->#[u9]->Prop):Prop:=∀(pins:List (ae×Obj)) (s:aL) (a:St) (H:Hp) (x:V) (v:ax) (Q:Bool->Hp->Prop),Inv X pins a H s->RelV x v->r x H Q->bF #[g] X.A #[x7] #[yO] X.xe s
abbrev Hk(r:R2)(b tb:TE):TE:=λa H Q=>b a H λx c=>tb a c λy d=>r x y d Q
abbrev tUn(r:V->Hp->VK->Prop)(a:TE):TE:=λb H Q=>a b H λx c=>r x c Q
abbrev rI(C:Int->Int->Prop)(g:Int->Int->V):R2:=λx y H Q=>mI x λi=>mI y λj=>C i j/\Q #[iM] H
abbrev BU(g:Int->Int->V):R2:=λx y H Q=>mI x λi=>mI y λj=>Q #[iM] H
abbrev rU(g:Int->V):V->Hp->VK->Prop:=λx H Q=>mI x λi=>Q (g i) H
section
variable {X:Cx}{a b c:cz}{ta tb tc:TE}{pos:Pos}
def agj(m:PE X a ta)(n:PE X b tb){pins:List #[H]}{s:aL}{c:St}{H:Hp}{R:V->V->Hp->Prop}(I:Inv X pins c H s) (h:ta c H λx j=>tb c j λy d=>R x y d) {Q:ax->aL->Prop} {f:ax->ax->Sem ax} (o:∀v u i x y d,Inv X pins c d i->RelV x v->RelV y u->R x y d->bF #[g] X.A (f v u) Q X.xe i):bF #[g] X.A #[qQ] (λv e=>bF #[g] X.A #[zF] (λu g=>bF #[g] X.A (f v u) Q X.xe g) X.xe e) X.xe s:=by refine da #[CE,m] λv p k=>e2_2 k λx j q r t=> ?_;refine da (n pins p c j _ q t) λu i l=>e2_2 l λy d z B C=> ?_;exact o v u i x y d z r B C
def cV{c:G1}{r:R2}(d:pY X (qx c) r)(e:PE X a ta)(f:PE X b tb):PE X (.BinOp a c b pos) #[hs]:=by intro pins s g H Q I h;exact wpAny_BinOp #[dY]
def EM{c:UnaryOp}{r:V->Hp->VK->Prop}(e:UnR X (unaryOp c) r)(f:PE X a ta):PE X (.UnaryOp c a pos) (tUn r ta):=by intro pins s d H Q I h;exact UnaryOp_ (da #[s1] λv g b=>e2_2 b λx i j k l=>e pins g d i x v Q j k l)
def opI{f:ax->ax->Sem ax}{C:Int->Int->Prop}{g:Int->Int->Int} (a:∀(i j:Int) (t u:Tok) (s:aL) (Q:ax->aL->Prop) (E:ax->aL->Prop),C i j->Q #[uw] {s with toks:=s.toks+1}->bF #[g] X.A #[hN] Q E s):pY X f (rI C λi j=> .int #[iM]):=by intro pins s e H x y v u Q I b c h;let(i,j,rfl,rfl,d,q):=62 (FJ h);let(t,rfl):=1 b;let(t',rfl):=1 c;exact a i j t t' s _ _ d #[la]
def W4{f:ax->ax->Sem ax}{g:Int->Int->Int} (a:∀(i j:Int) (t u:Tok) (s:aL) (Q:ax->aL->Prop) (E:ax->aL->Prop),Q #[uw] {s with toks:=s.toks+1}->bF #[g] X.A #[hN] Q E s):pY X f (BU λi j=> .int #[iM]):=by intro pins s d H x y v u Q I b c h;let(i,j,rfl,rfl,q):=42 (FJ h);let(t,rfl):=1 b;let(t',rfl):=1 c;exact a i j t t' s _ _ #[la]
def abW{f:ax->ax->Sem ax}{g:Int->Int->Bool} (a:∀(i j:Int) (t u:Tok) (s:aL) (Q:ax->aL->Prop) (E:ax->aL->Prop),Q (.bool #[iM]) s->bF #[g] X.A #[hN] Q E s):pY X f (BU λi j=> .bl #[iM]):=by intro pins s d H x y v u Q I b c h;let(i,j,rfl,rfl,q):=42 (FJ h);let(t,rfl):=1 b;let(t',rfl):=1 c;exact a i j t t' s _ _ (.bl #[iM],H,I,rfl,q)
abbrev SQ(i j:Int):Prop:=(-(2^64)<i/\i<2^64)\/(-(2^64)<j/\j<2^64)
def SQ.ok{i j:Int}(h:SQ i j):IntMulOk i j:=by
 rcases h with⟨a,b⟩|⟨a,b⟩
 ·exact .of_left #[tI]
 ·exact .of_right #[tI]
def abX(k:Nat):(0:Int)<=2^k:=by rw[two_pow_cast];exact Int.natCast_nonneg _
def rA:pY X #[vC] (BU λi j=> .int (i+j)):=W4 λ_ _ _ _ _ _ _ q=>add_int q
def ji:pY X (qx .Sub) (BU λi j=> .int (i-j)):=W4 λ_ _ _ _ _ _ _ q=>sub_int q
def QJ:pY X (qx .Mult) (rI SQ λi j=> .int (i*j)):=opI λ_ _ _ _ _ _ _ a q=>mul_int q a.ok
def W5:pY X (qx .RShift) (rI (λ_ j=>0<=j) λi j=> .int (i/2^j.toNat)):=opI λi j _ _ _ _ _ a q=>
 rshift_int a (by rw[Int.fdiv_eq_ediv_of_nonneg i (abX _)];exact q)
def AA:pY X (qx .BitAnd) (BU λi j=> .int (Builtin.bitAnd i j)):=W4 λ_ _ _ _ _ _ _ q=>and_int q
def ah0:pY X (qx .BitOr) (BU λi j=> .int (Builtin.bitOr i j)):=W4 λ_ _ _ _ _ _ _ q=>or_int q
def ajY:pY X (qx .BitXor) (BU λi j=> .int (Builtin.bitXor i j)):=W4 λ_ _ _ _ _ _ _ q=>xor_int q
def unI{f:ax->Sem ax}{g:Int->Int} (a:∀(i:Int) (t:Tok) (s:aL) (Q:ax->aL->Prop) (E:ax->aL->Prop),Q (.int (g i) s.toks) {s with toks:=s.toks+1}->bF #[g] X.A (f #[yZ]) Q E s):UnR X f (rU λi=> .int (g i)):=by intro pins s c H x v Q I b h;let(i,rfl,q):=21 (G8 h);let(t,rfl):=1 b;exact a i t s _ _ (.int (g i),H,I.tok _,#[O],q)
def AB:UnR X (unaryOp .USub) (rU λi=> .int (-i)):=unI λ_ _ _ _ _ q=>neg_int q
#where
abbrev LO:V->V->Bool
 | .cG,.cG=>true| .cG,.int _=>true| .int _,.cG=>true| .cG,.bl _=>true| .bl _,.cG=>true| .cG,.str _=>true| .str _,.cG=>true
 | .int _,.int _=>true| .bl _,.bl _=>true| .str _,.str _=>true| .Av _,.Av _=>true
 | .int _,.str _=>true| .str _,.int _=>true| .bl _,.str _=>true| .str _,.bl _=>true
 |_,_=>false
abbrev rEq:R2:=λx y H Q=>LO x y=true/\Q #[tl] H
abbrev rNe:R2:=λx y H Q=>LO x y=true/\Q #[sB] H
def aa7{i j:Int}:decide (V.int i=V.int j)=(i==j):=by rw[dr];simp
def adW{i j:Bool}:decide (V.bl i=V.bl j)=(i==j):=by rw[dr];simp
def aa8{i j:Str}:decide (V.str i=V.str j)=(i==j):=by rw[dr];simp
def aa9{i j:Array UInt8}:decide (V.Av i=V.Av j)=(i.toList==j.toList):=by rw[dr];cases i;cases j;simp
section
variable {X:Cx}{a b c:cz}{ta tb tc:TE}{pos:Pos}
def gy{pins:List #[H]}{a:St}{H:Hp}{s:aL}{Q:VK}{k b:Bool}(I:Inv X pins a H s)(q:Q (.bl k) H)(e:k=b):EP X pins a Q (.bool b) s:=by subst e;exact(.bl k,H,I,rfl,q)
def gf:pY X (gu .Eq) rEq:=by
 rw[2019];rw[2126];cases x with
 |cG=>
  cases b;cases y with
  |cG=>cases a;exact PySem.EqNone.eq_none_none #[as]
  |bl j=>cases a;exact PySem.EqNone.eq_none_bool #[as]
  |int j=>let(t',rfl):=1 a;exact PySem.EqNone.eq_none_int #[as]
  |str j=>let(t',rfl):=1 a;exact PySem.EqNone.eq_none_str #[as]
  |_=>exact absurd (show false=true from hs) cA
 |bl i=>
  cases b;cases y with
  |cG=>cases a;exact PySem.EqNone.eq_bool_none #[as]
  |bl j=>cases a;exact eq_bool (gy I q adW)
  |str j=>let(t',rfl):=1 a;exact PySem.EqMixed.eq_bool_str #[as]
  |_=>exact absurd (show false=true from hs) cA
 |int i=>
  rw[1910];cases y with
  |cG=>cases a;exact PySem.EqNone.eq_int_none #[as]
  |int j=>let(t',rfl):=1 a;exact eq_int (gy I q aa7)
  |str j=>let(t',rfl):=1 a;exact PySem.EqMixed.eq_int_str #[as]
  |_=>exact absurd (show false=true from hs) cA
 |str i=>
  rw[1910];cases y with
  |cG=>cases a;exact PySem.EqNone.eq_str_none #[as]
  |bl j=>cases a;exact PySem.EqMixed.eq_str_bool #[as]
  |int j=>let(t',rfl):=1 a;exact PySem.EqMixed.eq_str_int #[as]
  |str j=>let(t',rfl):=1 a;exact eq_str (gy I q aa8)
  |_=>exact absurd (show false=true from hs) cA
 |Av i=>
  rw[1910];cases y with
  |Av j=>let(t',rfl):=1 a;exact PySem.W.eq_bytes (gy I q aa9)
  |_=>exact absurd (show false=true from hs) cA
 |_=>cases y<;>exact absurd (show false=true from hs) cA
def xS:pY X (gu .NotEq) rNe:=by
 rw[2019];rw[2126];cases x with
 |cG=>
  cases b;cases y with
  |cG=>cases a;exact PySem.EqNone.ne_none_none #[as]
  |bl j=>cases a;exact PySem.EqNone.ne_none_bool #[as]
  |int j=>let(t',rfl):=1 a;exact PySem.EqNone.ne_none_int #[as]
  |str j=>let(t',rfl):=1 a;exact PySem.EqNone.ne_none_str #[as]
  |_=>exact absurd (show false=true from hs) cA
 |bl i=>
  cases b;cases y with
  |cG=>cases a;exact PySem.EqNone.ne_bool_none #[as]
  |bl j=>cases a;exact ne_bool #[CH,adW]
  |str j=>let(t',rfl):=1 a;exact PySem.EqMixed.ne_bool_str #[as]
  |_=>exact absurd (show false=true from hs) cA
 |int i=>
  rw[1910];cases y with
  |cG=>cases a;exact PySem.EqNone.ne_int_none #[as]
  |int j=>let(t',rfl):=1 a;exact ne_int #[CH,aa7]
  |str j=>let(t',rfl):=1 a;exact PySem.EqMixed.ne_int_str #[as]
  |_=>exact absurd (show false=true from hs) cA
 |str i=>
  rw[1910];cases y with
  |cG=>cases a;exact PySem.EqNone.ne_str_none #[as]
  |bl j=>cases a;exact PySem.EqMixed.ne_str_bool #[as]
  |int j=>let(t',rfl):=1 a;exact PySem.EqMixed.ne_str_int #[as]
  |str j=>let(t',rfl):=1 a;exact ne_str #[CH,aa8]
  |_=>exact absurd (show false=true from hs) cA
 |Av i=>
  rw[1910];cases y with
  |Av j=>let(t',rfl):=1 a;exact PySem.W.ne_bytes #[CH,aa9]
  |_=>exact absurd (show false=true from hs) cA
 |_=>cases y<;>exact absurd (show false=true from hs) cA
def zo:pY X (gu .Lt) (BU λi j=> .bl (decide (i<j))):=abW λ_ _ _ _ _ _ _ q=>lt_int q
def kN:pY X (gu .LtE) (BU λi j=> .bl (decide (i<=j))):=abW λ_ _ _ _ _ _ _ q=>le_int q
def CY:pY X (gu .Gt) (BU λi j=> .bl (decide (j<i))):=abW λ_ _ _ _ _ _ _ q=>gt_int q
def alX:pY X (gu .GtE) (BU λi j=> .bl (decide (j<=i))):=abW λ_ _ _ _ _ _ _ q=>ge_int q
def QK(b:cz){a:Fs}(h:a≠ .In:=by decide)(c:a≠ .NotIn:=by decide):zK a b=false:=WY b h c
def SR{c:Fs}{r:R2}(d:pY X (gu c) r)(e:PE X a ta)(f:PE X b tb)(hm:zK c b=false):PE X (.Compare a [c] [b] pos) #[hs]:=by intro pins s g H Q I h;exact wpAny_Compare1 #[dY] hm
abbrev Nz(t:TE):TT:=λa H Q=>t a H λx H'=>mB x λk=>Q k H'
def NA{d:Fs}{r:R2}(m:pY X (gu d) r)(n:PE X a ta)(o:PE X b tb)(hm:zK d b=false):PT X (.Compare a [d] [b] pos) (Nz #[hs]):=by
 rw[2131];refine wpAny_isTrue_Compare1 (da #[CY,n] λv p g=>e2_2 g λx q t w A=>da (o pins p f q _ t A) λu B i=>e2_2 i λy C D E F=>
  da (m pins B f C x y v u _ D w E F) λc L j=>e2_2 j λz G J K l=> ?_) hm
 let(k,e,l):=21 (zm l);rw[2046];cases K;exact eY (G,J,l)
abbrev W6(r c:R2)(ta tb tc:TE):TE:=λa H Q=>ta a H λx d=>tb a d λy e=>r x y e λz b=>mB z λk=>
 (if k=true then tc a b λf g=>c y f g Q else Q #[fs] b)
def zO{j f:Fs}{r q:R2}(B:pY X (gu j) r)(l:pY X (gu f) q)(C:PE X a ta)(D:PE X b tb)(E:PE X c tc) (hm:lastMarks [j,f] [b,c]=false:=by with_unfolding_all rfl):PE X #[n0] (W6 r q ta tb tc):=by
 rw[1985];refine Compare_chain (da #[CX,C] λv F m=>e2_2 m λx G J K L=>chain_link (da (D pins F g G _ J L) λu M n=>e2_2 n λy N O t P=>
  da (B pins M g N x y v u _ O K t P) λd R o=>e2_2 o λz w A S i=> ?_)) hm
 rw[2064];rw[2046];cases S;rw[2058];cases k with
 |false=>exact ite_ff (.bl false,w,A,rfl,i)
 |true=>exact ite_tt (chain_last (da (E pins R g w _ A i) λT U p=>e2_2 p λV W Y Z q4=>l pins U g W y V u T Q Y t Z q4))
def JU{j f:Fs}{r w:R2}(D:pY X (gu j) r)(l:pY X (gu f) w)(E:PE X a ta)(F:PE X b tb)(G:PE X c tc) (hm:lastMarks [j,f] [b,c]=false:=by with_unfolding_all rfl):PT X #[n0] (Nz (W6 r w ta tb tc)):=by
 rw[1985];refine isTrue_chain (da #[CX,E] λv J m=>e2_2 m λx K L M N=>test_link (da (F pins J g K _ L N) λu O n=>e2_2 n λy P R A S=>
  da (D pins O g P x y v u _ R M A S) λd T o=>e2_2 o λz B C U i=> ?_)) hm
 rw[2064];rw[2046];cases U;rw[2058];cases k with
 |false=>let(k',V,W):=21 (zm i);cases V;exact ite_ff (B,C,W)
 |true=>refine ite_tt (test_last (da (G pins T g B _ C i) λY Z p=>e2_2 p λz' H4 I4 r4 q4=>da (l pins Z g H4 y z' u Y _ I4 A r4 q4) λd' s5 q=>e2_2 q λz2 H5 I5 r5 t=> ?_));let(k2,e2,t):=21 (zm t);subst e2;cases r5;exact eY (H5,I5,t)
abbrev agk(K:aA)(x:V)(H:Hp)(k:Bool):Prop:=
 match x with
 | .cG=>k=false
 | .bl b=>k=b
 | .int i=>k=(i !=0)
 | .str y=>y.length<=aS/\k=((y.length:Int) !=0)
 | .Av y=>y.size<=aS/\k=((y.size:Int) !=0)
 | .ref p=>(∃xs,a8 K H p xs/\k= !xs.isEmpty)\/(∃xs,cK K H p xs/\k= !xs.isEmpty)\/∃a,H p=some (.dK a)/\k= !a.isEmpty
 |_=>False
def abY{b:Type}{a:List (b×V)}{vs:List (b×ax)}(r:KV a vs):(!vs.isEmpty)= !a.isEmpty:=by cases r<;>rfl
def QL{xs:List V}{a:List ax}(r:Vals xs a):(!a.toArray.isEmpty)= !xs.isEmpty:=by cases r<;>simp
def QM:(aS:Nat)<2^63:=by rw[cH];decide
def aj1:aog X (λx H Q=>∃k,agk X.K x H k/\Q k H):=by
 intro pins s o H x v Q I f h;let(k,e,q):=21 h;have u:=QM;rw[1980];cases x with
 |cG=>cases f;have a:k=false:=e;subst a;exact truthy_none #[vi]
 |bl b=>cases f;have a:k=b:=e;subst a;exact eY #[vi]
 |int i=>let(t,rfl):=1 f;have a:k=(i !=0):=e;subst a;exact PySem.P.truthy_int #[vi]
 |str y=>let(t,rfl):=1 f;obtain⟨l,a⟩:y.length<=aS/\k=((y.length:Int) !=0):=e;subst a;exact PySem.P.truthy_str #[f] #[vh]
 |Av y=>let(t,rfl):=1 f;obtain⟨l,a⟩:y.size<=aS/\k=((y.size:Int) !=0):=e;subst a;exact PySem.W.truthy_bytes #[f] #[vh]
 |ref p=>
  cases f;have a:(∃xs,a8 X.K H p xs/\k= !xs.isEmpty)\/(∃xs,cK X.K H p xs/\k= !xs.isEmpty)\/∃c,H p=some (.dK c)/\k= !c.isEmpty:=e;rcases a with⟨xs,g,a⟩|⟨xs,g,a⟩|⟨c,g,a⟩
  ·subst a;let(j,r,pl,hz):=41 (I.list g);have d:=r.length;exact wpAny_truthy_list pl.isList #[rz] #[kh]
  ·subst a;let(j,r,pl,hz):=41 #[CA,g];have d:=r.length;exact truthy_tuple pl #[rz] #[kh]
  ·subst a;obtain⟨hz,n,vs,r,m⟩:c.length<=aS/\(p==lx)=false/\∃vs,KV c vs/\s.heap.DictOf #[eh] p vs:=I.cQ p _ g;have d:c.length=vs.length:=Paired.length r;exact wpAny_truthy_dict n m #[f] (H,I.tok _,by rw[abY r];exact q)
 |_=>exact(show False from e).elim
def Pb(e:PE X a ta)(he:∀b,isTrue a X.env b=(do let v<-b;standAt a.pos;holding [v] #[x7])):PT X a (λc H Q=>ta c H λx H'=>∃k,agk X.K x H' k/\Q k H'):=by intro pins s c H Q I h;exact isTrue_plain (da #[CE,e] λv f d=>e2_2 d λx g i j l=>aj1 pins f c g x v Q i j l) (he _)
def vals1{x:V}{us:List ax}(r:Vals [x] us):∃u,us=[u]/\RelV x u:=by
 cases r with
 |cons a b=>cases b;exact(_,rfl,a)
def vals2{x y:V}{us:List ax}(r:Vals [x,y] us):∃u a,us=[u,a]/\RelV x u/\RelV y a:=by
 cases r with
 |cons b c=>
  cases c with
  |cons d e=>cases e;exact(_,_,rfl,b,d)
def UJ(d:X.calm=true):Hh X (.builtin "min") (λxs H Q=>∃i j,xs=#[ki]/\Q (.int #[rt]) H):=by
 intro pins s e H xs us Q I r h;let(i,j,rfl,q):=22 h
 (let(u,f,rfl,b,c):=42 (vals2 r);let(t',rfl):=1 c;let(t,rfl):=1 b)
 refine min_two_ints #[CB,d] λh' tk k=>(_,H,I.kept k,?_,q);by_cases a:j<i
 ·rw[2077];exact #[O]
 ·rw[2078];exact #[O]
#where
#print L2
namespace L2
open PySem PySem.Spec PyProof.Rows
structure Pc(h:cZ)(x dx C:ae)(mA:Str->Option ax):Prop where
 obj:h.get? x=some #[AI]
 ns:h.Ns1 dx mA
 ne:dx≠x
def adX{h:cZ}{dx:ae}{c:Str->Option ax}(n:h.Ns1 dx c):∃d,h.get? dx=some d/\∀name,GK name d=some (c name):=by
 let(o,es,k,f,hd,g,_,hm):=83 n;refine(o,f,λname=> ?_);have e:=hm name;unfold nsFind findBy at e;rw[<-Array.find?_toList]at e;unfold GK;rw[hd];rw[1897];split
 ·rename_i y q;rw[q]at e;exact dA some e
 ·rename_i q;rw[q]at e;have a:es.toList.any (·.refKey)=false:=by rw[BB];intro y i;let(z,t,b):=2 (g y (Array.mem_toList_iff.mp i));simp[DictEntry.refKey,b]
  have j:¬es.toList.any (·.refKey)=true:=by rw[a];exact cA
  rw[am j];exact dA some e
def Pc.look{h:cZ}{x dx C:ae}{b:Str->Option ax}(I:Pc h x dx C b):∃a,PySem.W.InstAt h x #[AI] C (some a)/\∀name,GK name a=some (b name):=
 let(a,c,d):=adX I.ns
 (a,(I.obj,rfl,rfl,c),d)
section
variable {prog:cj}{w:cY}{A:dE}{E:ax->aL->Prop}{s:aL}{K:aA}{x dx C f:ae}{mA:Str->Option ax}{name:Str}{v:ax}
def get_map{a:Bool}{Q:ax->aL->Prop}(X:K.In s.heap)(I:Pc s.heap x dx C mA)(c:CO K C name=true)(d:HP K C=true) (e:br K #[dz] name=some none) (f:mA name=some v) (b:UB v=true) (h:Q v {s with toks:=s.toks+1}):bF #[au] A (getAttr #[ht] name a) Q E s:=by let(i,J,g):=21 (I.look);exact PySem.W.get_value X J (EI c).1 (PySem.W.findObj_own d e rfl (by rw[g,f])) b h
def agl{pl:Sem Bool}{Q:ax×List ax->aL->Prop}(X:K.In s.heap)(I:Pc s.heap x dx C mA)(a:CO K C name=true) (b:br K #[dz] name=some #[i6]) (c:SB K #[bz]=true) (d:mA name=none) (h:Q ((.ref f),#[vk]) s):bF #[au] A (DV #[ht] name pl) Q E s:=by let(e,J,g):=21 (I.look);exact PySem.W.method_fn X J (EI a).1 (EI a).2 b (beq_iff_eq.mp c) (by show(GK name e).map (·.isSome)=some false;rw[g,d];rfl) h
def aiJ{ns:List Str}{Q:Unit->aL->Prop}(X:K.In s.heap)(I:Pc s.heap x dx C mA) (hs:br K #[dz] "__setattr__"=some #[jz]) (j:SC K C=true) (k:Lo K C name=some none) (l:HP K C=true) (hw:PySem.Within mA ns) (hsz:ns.length<=aS) (h:∀h',Pc h' x dx C (λy=>if y=name then some v else mA y)->Heap.SameBut dx s.heap h'->Q () {s with heap:=h',toks:=s.toks+2}):bF #[au] A (setAttr #[ht] name v) Q E s:=by let(q,J,t):=21 (I.look);refine PySem.W.set_plain X J hs (PySem.W.osa_open (s:={s with toks:=s.toks+1}) (r:=none) X J j k λb=> ?_);let(u,m,e):=21 (PySem.W.any_some l);have n:s.heap.get? x=some (.ref C,some dx,.plain,#[]):=I.obj;refine aX (bA (aX (aX (wpAny_loadPart n (aX (PySem.W.Looks.here (s:={s with toks:=s.toks+1}) (PySem.W.looks_clsIn X m) ?_))))));rw[e];refine bA (a:=some dx) (aX (bA (aX ?_)));refine wpAny_nsSet1 (s:={s with toks:=s.toks+1}) I.ns λh' c d=> ?_;let(z,o,p,f,g,i):=43 (c.count (PySem.Within.cons name v hw));refine aX (wpAny_lookBehind f (by rw[g];exact pastItsLine_dict (dk i #[pq])) ?_);exact bA (h _ ((d.2 _ #[Cs,I.ne]).trans I.obj,c,I.ne) d)
def agm{R:Result->aL->Prop}{vs:List ax}{a:List #[nA]}(X:K.In s.heap)(hm:Wu K C=true) (b:br K #[dz] "__init__"=some #[i6]) (c:PySem.W.typeIn K #[bz]=some (.type "function")) (h:FF #[au] (A.under (.builtin "type.__call__" (.ref C::vs,a))) (.call #[bz] (.ref #[t]::vs,a)) (PySem.W.InitBack #[t] R) {s with heap:=#[e9].push #[fe]}):FF #[au] A (.call #[dz] (vs,a)) R s:=by obtain⟨e,g,d,t,os⟩:=s;exact PySem.W.make_core (PySem.W.makes_of X hm) (PySem.W.looks_findIn X b) (λself=>PySem.W.bind_fn X self c) #[ay] h
#where
abbrev c7(f:Str)(v:V):List #[o]->List #[o]
 |[]=>[((f),v)]
 |((g),x)::r=>if g=f then((g),v)::r else((g),x)::c7 f v r
def Oy(f g:Str)(v:V):∀fs:List (Str×V),#[qU].lookup g=if g=f then some v else fs.lookup g
 |[]=>by
  show qV g [((f),v)]=_;by_cases h:g=f
  ·have a:(g==f)=true:=beq_iff_eq.mpr h;simp only[qV,a,aq h]
  ·have a:(g==f)=false:=beq_eq_false_iff_ne.mpr h;simp only[qV,a,am h]
 |((k),x)::r=>by
  have c:=Oy f g v r;rw[1927];by_cases b:k=f
  ·rw[aq b];by_cases h:g=k
   ·rw[2000];simp only[qV,a,aq (h.trans b)]
   ·rw[1956];simp only[qV,a,am (λe:g=f=>h (e.trans b.symm))]
  ·rw[am b];by_cases h:g=k
   ·rw[2000];simp only[qV,a,am (λe:g=f=>b (h.symm.trans e))]
   ·rw[1956];simp only[qV,a];exact c
def LP(f:Str)(v:V):∀fs:List (Str×V),f∈#[qU].map (·.1)/\∀g,g∈fs.map (·.1)->g∈#[qU].map (·.1)
 |[]=>(by simp[c7],λg h=>by simp at h)
 |((k),x)::r=>by
  let(b,c):=20 (LP f v r);rw[1927];by_cases a:k=f
  ·rw[aq a];subst a;exact(by simp,λg h=>by simpa using h)
  ·rw[am a];refine(?_,λg h=> ?_)
   ·rw[cB];exact a9 _ b
   ·rw[cB]at h ⊢;rcases b7.mp h with e|e
    ·exact b7.mpr #[oY]
    ·exact a9 _ (c g e)
def Oz(f:Str)(v:V):∀fs:List (Str×V),#[qU].length<=fs.length+1
 |[]=>by simp[c7]
 |((k),x)::r=>by
  have b:=Oz f v r;rw[1927];by_cases a:k=f
  ·rw[aq a,ak,ak];lia
  ·rw[am a,ak,ak];lia
def wL.some_of{v:V}{o:Option ax}(r:wL #[h8] o):∃u,o=some u/\RelV v u:=by
 cases o with
 |none=>exact(show False from r).elim
 |some u=>exact(u,rfl,r)
def wL.none_of{o:Option ax}(r:wL none o):o=none:=by
 cases o with
 |none=>rfl
 |some u=>exact(show False from r).elim
def adY{v:V}{u:ax}(r:RelV v u):UB u=true:=by
 cases v with
 |cG=>cases (show u=Value.none from r);rfl
 |bl b=>cases (show u=Value.bool b from r);rfl
 |int i=>let(t,e):=1 (show∃t,u=Value.int i t from r);rw[2048];rfl
 |str x=>let(t,e):=1 (show∃t,u=Value.str x t from r);rw[2048];rfl
 |Av b=>let(t,e):=1 (show∃t,u=Value.bytes b t from r);rw[2048];rfl
 |flt b=>let(t,e):=1 (show∃t,u=Value.float b t from r);rw[2048];rfl
 |ref a=>cases (show u=Value.ref a from r);rfl
 |ty n=>cases (show u=Value.type n from r);rfl
section
variable {P:cj}{w:cY}{H H':Hp}{h h':cZ}{a C dx:ae}{fs fs':List (Str×V)}
def SS(cQ:ow P w H h)(e:H a=some #[x]):∃b,Pc h a dx C b/\(∀f,wL #[jU] (b f))/\PySem.Within b (fs.map (·.1))/\fs.length<=1000/\H dx=some #[wE]:=by
 (let(d,z,ne,ob,c):=80 (show j1 P w H h a #[x]from cQ a _ e);let(b,n,r,q):=41 c)
 exact(b,(ob,n,ne),r,q,z,d)
#where
structure ka(K:aA)(C:ae):Prop where
 pg:CO K C Str.empty=true
 hd:HP K C=true
 po:SC K C=true
 sa:br K #[dz] "__setattr__"=some #[jz]
def ka.get{K:aA}{C:ae}(c:ka K C)(f:Str):CO K C f=true:=c.pg
abbrev cD(K:aA)(C:ae)(f:Str):Prop:=br K #[dz] f=some none
def cD.alY{K:aA}{C:ae}{f:Str}(n:cD K C f):Lo K C f=some none:=by unfold Lo;rw[show br K #[dz] f=some none from n];rfl
structure Meth(K:aA)(C:ae)(m:Str)(f:ae):Prop where
 at_:br K #[dz] m=some #[i6]
 fn:SB K #[bz]=true
 kp:md K #[bz]=true
section
variable {X:Cx}{pins:List (ae×Obj)}{σ:St}{H:Hp}{s:aL}{a C dx:ae}{fs:List (Str×V)}{f:Str}{v:V}{A:dE}{E:ax->aL->Prop}
def QN{b:Bool}{Q:ax->aL->Prop}(I:Inv X pins σ H s)(e:H a=some #[x])(c:ka X.K C)(n:cD X.K C f)(l:fs.lookup f=some v) (h:∀u s',Inv X pins σ H s'->RelV v u->Q u s'):bF #[g] A (getAttr #[bh] f b) Q E s:=by let(g,O,r,_,_,_):=81 #[wq];let(u,i,d):=21 (wL.some_of (v:=v) (o:=g f) (by rw[<-l];exact r f));exact get_map I.Ac O (c.get f) c.hd n i (adY d) (h u _ #[su] d)
def QO{m:Str}{g:ae}{pl:Sem Bool}{Q:ax×List ax->aL->Prop}(I:Inv X pins σ H s)(e:H a=some #[x])(c:ka X.K C)(k:Meth X.K C m g)(l:fs.lookup m=none) (h:Q ((.ref g),#[jv]) s):bF #[g] A #[Dy,#[bh]] Q E s:=by let(b,O,r,_,_,_):=81 #[wq];have d:b m=none:=wL.none_of (by rw[<-l];exact r m);exact agl I.Ac O (c.get m) k.at_ k.fn d h
def QP{y:V}{u:ax}{Q:Unit->aL->Prop}(I:Inv X pins σ H s)(e:H a=some #[x])(c:ka X.K C)(n:cD X.K C f)(B:fs.length<1000)(l:RelV y u) (h:∀s',Inv X pins σ #[x4] s'->Q () s'):bF #[g] A (setAttr #[bh] f u) Q E s:=by
 let(i,O,r,j,_,k):=81 #[wq];have hz:(fs.map (·.1)).length<=aS:=by rw[aD,cH];lia
 refine aiJ I.Ac O c.sa c.po n.alY c.hd j hz λh' d m=>h _ ?_;have hd:∃o,h'.get? dx=some o:=let(o,_,_,p,_):=d.ns;(o,p);refine I.write (x:=a) (e:=dx) #[dO] #[Ac] (λb q t z=>(m.2 b t).trans z) hd ?_;refine(by rw[aE O.ne];exact k,?_,O.ne,d.obj,_,d.ns,λg=> ?_,λg v=> ?_)
 ·have:=Oz f y fs;lia
 ·show wL ((c7 f y fs).lookup g) #[m1];rw[Oy];by_cases q:g=f
  ·rw[aq q,aq q];exact l
  ·rw[am q,am q];exact r g
 ·by_cases q:g=f
  ·rw[q];exact(LP f y fs).1
  ·refine(LP f y fs).2 g (j g λz=>v ?_);show #[m1]=none;rw[am q];exact z
def Inv.made(I:Inv X pins σ H s):Inv X pins σ (upd (upd H s.heap.objs.size (.own #[t])) #[t] (.ins C s.heap.objs.size []))
  {s with heap:=#[e9].push #[fe]}:=by
 have c:#[e9].get? s.heap.objs.size=some lQ:=Heap.get?_push_size s.heap rfl;have d:(#[e9].push #[fe]).get? #[t]=some #[fe]:=by
  have:=Heap.get?_push_size #[e9] (o:=qv C s.heap.objs.size) rfl
  rwa [Heap.size_push]at this
 have f:#[e9].Ns s.heap.objs.size (λ_=>none):=(lQ,#[],_,c,rfl,(λe he=>absurd he #[p]),λ_=>rfl);have g:=I.laid (a:=s.heap.objs.size) (o:= .own #[t]) (h':=s.heap.push lQ) (t':=s.toks) (λb u q=>Heap.get?_push_of_some _ q) #[gw] (_,c);refine g.laid (a:=s.heap.objs.size+1) (o:= .ins C s.heap.objs.size []) (t':=s.toks) (λb u q=>Heap.get?_push_of_some _ q) (KZ (Heap.size_push _ _)) ?_;have ne:s.heap.objs.size≠s.heap.objs.size+1:=gj (yn _);refine(by rw[aE ne,ao],dR _,ne,d,λ_=>none,(Heap.Ns1.of_empty f).at λo q=>Heap.get?_push_of_some _ q,λ_=>True.intro,λy h=>absurd rfl h)
def aiK{prog:cj}{w:cY}{env:Env}{e:cz}{f:Str}{b:Pos}{s:aL}{Q:ax->aL->Prop}(c:oI e f env #[C0,e]=eval e env) (h:bF #[au] A #[C0,e] (λo a=>bF #[au] A (getAttr o f true) Q E a) E s):bF #[au] A (eval (.Attribute e f b) env) Q E s:=Attribute_any_ h (by rw[arm_eval_Attribute,c])
#where
abbrev JV(K:aA)(c:TE)(f:Str):TE:=λd H Q=>c d H λx b=>mR x λa=>∃C dx fs,b a=some #[x]/\ka K C/\cD K C f/\∃v,fs.lookup f=some v/\Q v b
abbrev LQ(K:aA)(d e:TE)(f:Str):TS:=λD b H=>e b H λy g=>d b g λx c=>mR x λa=>∃C dx fs,c a=some #[x]/\ka K C/\cD K C f/\fs.length<1000/\D.nx b (upd c a #[iZ])
abbrev agn(X:Cx)(b:G1)(c:V->V->Hp->VK->Prop):Prop:=∀(pins:List (ae×Obj)) (s:aL) (a:St) (H:Hp) (x y:V) (u v:ax) (Q:VK),Inv X pins a H s->RelV x u->RelV y v->c x y H Q->bF #[g] X.A (inplaceOp b u v) #[cL] X.xe s
abbrev aba(K:aA)(h i:TE)(j:V->V->Hp->VK->Prop)(f:Str):TS:=λD d H=>h d H λx e=>∃a C dx fs v,x= .ref a/\e a=some #[x]/\ka K C/\cD K C f/\fs.lookup f=some v/\i d e λy k=>j v y k λz g=>∃c b,g a=some (.ins C c b)/\b.length<1000/\D.nx d (upd g a #[sA])
section
variable {X:Cx}{o e value:cz}{f:Str}{pos pos' aj2:Pos}{ta tv:TE}
def y3(he:PE X e ta)(i:oI e f X.env #[gM]=eval e X.env):PE X #[tm] #[BO]:=by
 rw[2130];refine aiK i (da #[r3] λu y b=>e2_2 b λx k m o p=> ?_)
 (let(a,ex,d):=21 (CW p);let(C,dx,fs,r,c,n,g):=63 d;let(v,l,q):=21 g)
 rw[2076];obtain rfl:u=Value.ref a:=o;exact QN m r c n l λz A t w=>(v,k,t,w,q)
def W7(i:PE X o ta)(j:PE X value tv)(hs:vb value #[nR] pos.line X.env=pure false):PS X #[i0] (LQ X.K ta tv f):=by
 rw[1987];refine plainObj_wpAny_Assign_Attribute (da (j pins s b H _ I h) λu k d=>e2_2 d λy m p r q=>da (i pins k b m _ p q) λt F e=>e2_2 e λx G v w z=> ?_) hs
 (let(a,ex,g):=21 (CW z);let(C,dx,fs,A,c,n,l,B):=83 g)
 rw[2076];obtain rfl:t=Value.ref a:=w;exact QP v A c n l r λJ E=>(b,_,E,B)
def LR{m:G1}{p:V->V->Hp->VK->Prop}(r:PE X o ta)(t:PE X value tv)(g:agn X m p):PS X (.AugAssign (.Attribute o f aj2) m value pos) (aba X.K ta tv p f):=by
 rw[2132];refine wpAny_AugAssign_AttributeAny (da #[CZ,r] λw s1 b=> ?_)
 (let(x,A,B,E,d):=42 b;let(a,C,dx,fs,v,i):=5 d;let(ex,F,c,n,l,q):=100 i)
 rw[2076];obtain rfl:w=Value.ref a:=E;refine QN B F c n l λu G J L=>da (t pins G e A _ J q) λM N j=>e2_2 j λy O P Q R=>da (g pins N e O v y u M _ P L Q R) λw4 s4 b=> ?_
 (let(z,H3,S,T,d):=42 b;let(U,W,k,Y,Z):=42 d)
 exact QP S k c n Y T λs5 I5=>(e,_,I5,Z)
abbrev abZ:V->V->Hp->VK->Prop:=λx y H Q=>mI x λi=>mI y λj=>Q #[uv] H
abbrev aoh:V->V->Hp->VK->Prop:=λx y H Q=>∃i j,x= .int i/\y= .int j/\Q (.int (i-j)) H
def adZ:agn X .Add abZ:=by rintro pins s c H x y u v Q I a b h;let(i,j,rfl,rfl,q):=42 (FJ h);let(t,rfl):=1 (show∃t,u=Value.int i t from a);let(t',rfl):=1 (show∃t',v=Value.int j t' from b);exact PyProof.Rows.iadd_int (.int (i+j),H,I.tok _,#[O],q)
def aj3:agn X .Sub aoh:=by rintro pins s c H x y u v Q I a b ⟨i,j,rfl,rfl,q⟩;let(t,rfl):=1 (show∃t,u=Value.int i t from a);let(t',rfl):=1 (show∃t',v=Value.int j t' from b);exact PyProof.Rows.isub_int (.int (i-j),H,I.tok _,#[O],q)
#where
section
variable {X:Cx}{pins:List (ae×Obj)}{σ:St}{H:Hp}{s:aL}{A:dE}{E:ax->aL->Prop}{Q:ax->aL->Prop}{c:ax}{b:Bool}
#where
#print L2
namespace L2
open PySem PySem.Spec PyProof.Rows
structure jA(k:Nat)(A:dE):Prop where
 hd:A.handled=none
 dp:A.depth+3*k+5<recursionLimit
 un:A.units+16*k+200<Ft
def jA.mono{j k:Nat}{A:dE}(r:jA k A)(h:j<=k):jA j A:=(r.hd,by have:=r.dp;lia,by have:=r.un;lia)
def jA.deeper{k:Nat}{A:dE}(r:jA (k+1) A)(env:Env):jA k (A.deeper env):=(r.hd,by have:=r.dp;show A.depth+1+3*k+5<_;lia,by have:=r.un;show A.units+3+16*k+200<_;lia)
def ab0{A:dE}{C:ae}{us:List ax}{a:List #[nA]}:#[aE].depth=A.depth+1:=by
 first|rfl|simp[Around.under,Code.weight,Code.isCreation,Code.isGuard,Code.isCaller,Code.frames,Code.isFrame,guardIds]
def ab1{A:dE}{C:ae}{us:List ax}{a:List #[nA]}:#[aE].units=A.units+1:=by
 first|rfl|simp[Around.under,Code.cUnits,Code.frames,Code.isFrame]
def jA.make{k:Nat}{A:dE}(r:jA (k+1) A)(C:ae)(us:List ax)(a:List #[nA]):jA k #[aE]:=(r.hd,by have:=r.dp;rw[ab0];lia,by have:=r.un;rw[ab1];lia)
def jA.depth{k:Nat}{A:dE}(r:jA k A):A.depth<recursionLimit:=by have:=r.dp;lia
def jA.units{k:Nat}{A:dE}(r:jA k A):A.units+64<Ft:=by have:=r.un;lia
abbrev vd:TA:=λ_ H Q=>Q [] H
abbrev o8(b:TE)(c:TA):TA:=λa H Q=>b a H λx d=>c a d λxs e=>Q (x::xs) e
section
variable {X:Cx}{e:cz}{es:List cz}{te:TE}{t:TA}{pos:Pos}
def aw:PA X [] vd:=λ_ _ _ _ H Q I h=>Calls.spliced_nil ([],H,I,.nil,h)
def ag(f:PE X e te)(hr:PA X es t)(hs:bV (e::es) X.env=#[A]::bV es X.env:=by rfl):PA X (e::es) (o8 te t):=by intro a pins s d H Q I h;rw[hs];show bF _ _ (spliced (#[A]::jS a #[si])) _ _ s;refine Calls.spliced_cons (da #[s1] λu g b=>e2_2 b λx i j k l=> ?_);exact da (hr a pins g d i _ j l) λus q c=>e2_2 c λxs m n o p=>(x::xs,m,n,.cons k o,p)
abbrev aj4(t:TA):TE:=λb H Q=>t b H λxs a=>xs.length<=aS/\∀p,a p=none->Q #[aI] #[xX]
abbrev ago(t:TA):TE:=λb H Q=>t b H λxs a=>xs.length<=aS/\∀p,a p=none->Q #[aI] #[xY]
def lY{g}(h:PA X es t):PE X (.Tuple es g pos) (aj4 t):=by intro pins s i H Q I j;refine wpAny_Tuple_spliced (da (h pos pins s i H _ I j) λus a c=>e2_3 c λxs d f r z q=>#[kf]);have k:d a.heap.objs.size=none:=f.cQ.fresh #[gw];refine(.ref a.heap.objs.size,upd d a.heap.objs.size #[bL],f.laid (t':=a.toks) (λb u e=>Heap.get?_push_of_some _ e) #[gw] ?_,rfl,q _ k);exact(z,us,r,(_,Heap.get?_push_size _ rfl,rfl,_,rfl))
def cf(h:PA X es t):PE X (.List es pos) (ago t):=by intro pins s g H Q I i;refine wpAny_List_spliced (da (h pos pins s g H _ I i) λus a c=>e2_3 c λxs d f r z q=>#[kf]);have j:d a.heap.objs.size=none:=f.cQ.fresh #[gw];refine(.ref a.heap.objs.size,upd d a.heap.objs.size #[ai],f.laid (t':=a.toks) (λb u e=>Heap.get?_push_of_some _ e) #[gw] ?_,rfl,q _ j);exact(z,us,0,r,Heap.get?_push_size _ rfl)
#where
nonrec abbrev Sp:=List V->Hp->VK->XK->Prop
nonrec abbrev Hl:=List Env->Hp->aL->XK->ax->aL->Prop
structure Pd(P:cj)(w:cY)(K:aA)(mg:Str->Option ax)(base:cZ)(A:dE)(outer:List Env)(s:aL)(H:Hp):Prop where
 frames:A.frames=some outer
 mod:Mod K mg base
 bs:∀b o,base.get? b=some o->s.heap.get? b=some o/\H b=none
 LL:base.objs.size<=s.heap.objs.size
 Aw:s.heap.FunFrames base outer
 QE:∀b∈pX outer,H b=none
 cQ:ow P w H s.heap
 bare:AllBare s.gens
abbrev CE(outer:List Env)(P:cj)(w:cY)(H:Hp)(s:aL)(Q:VK)(u:ax)(s':aL):Prop:=∃v H',s'.os=s.os/\AllBare s'.gens/\Un (pX outer) [] H H' s.heap s'.heap/\ow P w H' s'.heap/\RelV v u/\Q v H'
abbrev CR(CX:Hl)(outer:List Env)(P:cj)(w:cY)(H:Hp)(s:aL)(Q:VK)(E:XK)(r:Result)(s':aL):Prop:=
 match r with
 | .ok (.ret u)=>CE outer P w H s Q u s'
 | .ok _=>False
 | .error e=>CX outer H s E e s'
structure ff(P:cj)(w:cY)(K:aA)(mg:Str->Option ax)(base:cZ)(CX:Hl)(k:Nat)(f:ae)(fd:jF)(ps:List Str)(sp:Sp):Prop where
 len:∀vs H Q E,sp vs H Q E->vs.length=ps.length
 run:∀(A:dE) (outer:List Env) (s:aL) (H:Hp) (args:Args) (us:List ax) (vs:List V) (Q:VK) (E:XK),jA k A->Pd P w K mg base A outer s H->Ar s fd args #[ff]->Vals vs us->sp vs H Q E->
  FF #[qZ] A (.call #[bz] args) (CR CX outer P w H s Q E) s
def Pd.make{P:cj}{w:cY}{K:aA}{mg:Str->Option ax}{base:cZ}{A:dE}{outer:List Env}{s:aL}{H:Hp}(e:Pd P w K mg base A outer s H)(C:ae)(us:List ax)(a:List #[nA]):Pd P w K mg base #[aE] outer s H:=(by first|exact e.frames|(simpa [Around.under,Code.envs,Code.isFrame,pushEnvs]using e.frames),e.mod,e.bs,e.LL,e.Aw,e.QE,e.cQ,e.bare)
section
variable {X:Cx}{pins:List (ae×Obj)}{σ:St}{H:Hp}{s s':aL}
def Inv.aj5(I:Inv X pins σ H s):Pd X.prog X.w X.K X.mg X.base X.A X.stack s H:=(I.ok.frames,I.ok.mod,I.bs,dk I.ok.LL I.sz,I.stack,I.SM,I.cQ,I.bare)
def Inv.after{Q:VK}{u:ax}(I:Inv X pins σ H s)(h:CE X.stack X.prog X.w H s Q u s'):EP X pins σ Q u s':=by
 (let(v,H',a):=2 h;let(os,bare,un,cQ,r,q):=100 a)
 obtain⟨e,g,d,t,c⟩:=s';obtain rfl:c=s.os:=os;exact(v,H',I.call (h':=e) (g':=g) (d':=d) (t':=t) (ch:=[]) un cQ bare (λb z=>absurd z #[p]),r,q)
#where
abbrev CZ(sp:Sp)(a:List V)(E:XK)(t:TA):TE:=λb H Q=>t b H λvs c=>sp (vs++a) c Q E
abbrev NB(C:ae)(m:Str)(sp:Sp)(b:List V)(E:XK)(e:TE)(t:TA):TE:=λc H Q=>e c H λx d=>mR x λa=>∃dx fs,d a=some #[x]/\fs.lookup m=none/\t c d λvs f=>sp (x::(vs++b)) f Q E
abbrev QQ(C:ae)(sp:Sp)(a:List V)(E:XK)(t:TA):TE:=λc H Q=>t c H λvs b=>∀x dx,b x=none->b dx=none->dx≠x->sp (.ref x::(vs++a)) (upd #[CV,b] x #[iY]) (λv d=>v= .cG/\Q #[ht] d) E
abbrev Binds(K:aA)(b:jF)(ps:List Str)(a:List ax):Prop:=∀(s:aL) (us:List ax),K.In s.heap->(us++a).length=ps.length->Ar s b #[dE] (ps.zip (us++a))
def Binds.all{K:aA}{a:jF}{ps:List Str}(h:∀us:List ax,us.length=ps.length->bindArgs a #[dE]=pure #[ff]):Binds K a ps []:=λs us _ b=>by rw[ah]at b ⊢;exact .of_eq (h us b)
abbrev Passes(CX:Hl)(X:Cx)(E:XK):Prop:=∀(pins:List (ae×Obj)) (a:St) (H:Hp) (s:aL) (e:ax) (s':aL),Inv X pins a H s->CX X.stack H s E e s'->X.xe e s'
section
variable {X:Cx}{CX:Hl}{k:Nat}{f C:ae}{fd:jF}{ps:List Str}{sp:Sp}{ue:List V}{ds:List ax}{E:XK}{x m:Str}{p pos apos:Pos}{e o:cz}{es:List cz}{ta:TE}{t:TA}
def LS{pins:List #[H]}{b:St}{H:Hp}{s:aL}{Q:VK}{us:List ax}{vs:List V}(F:ff X.prog X.w X.K X.mg X.base CX k f fd ps sp)(hr:jA k X.A)(d:Binds X.K fd ps ds)(hd:Vals ue ds)(g:Passes CX X E) (I:Inv X pins b H s) (r:Vals vs us) (h:sp #[oB] H Q E):bF #[g] X.A (call #[bz] us) #[yV] X.xe s:=by
 have c:Vals #[oB] (us++ds):=r.append hd;have i:(us++ds).length=ps.length:=by rw[<-c.length];exact F.len _ _ _ _ h
 refine wpAny_call (GZ (F.run X.A X.stack s H #[dE] (us++ds) #[oB] Q E hr I.aj5 (d s us I.Ac i) c h) λr s' a=> ?_);cases r with
 |error e=>exact g pins b H s e s' I a
 |ok j=>
  cases j with
  |ret u=>exact I.after a
  |next=>exact False.elim a
  |brk=>exact False.elim a
  |cont=>exact False.elim a
def fV(F:ff X.prog X.w X.K X.mg X.base CX k f fd ps sp)(hr:jA k X.A)(g:Gl X x)(hm:X.mg x=some #[bz])(i:md X.K #[bz]=true)(j:Binds X.K fd ps ds)(hd:Vals ue ds)(l:Passes CX X E) (m:PA X (e::es) t) (a:#[v]=false:=by decide) (he:bV (e::es) X.env=#[A]::bV es X.env:=by rfl) (b:#[aO].any (·.1)=false:=by rfl):PE X #[af] (CZ sp ue E t):=by intro pins s n H Q I h;refine ku #[xG];refine z9 (h₀:=X.base) I.ok.mod.WT i (da (m pos pins s n H _ I h) λus o c=>e2_2 c λvs u d r q=>#[An]) he b;exact LS F hr j hd l d r q
def W8(F:ff X.prog X.w X.K X.mg X.base CX k f fd ps sp)(hr:jA k X.A)(b:Gl X x)(hm:X.mg x=some #[bz])(c:md X.K #[bz]=true)(d:Binds X.K fd ps ds)(hd:Vals ue ds)(e:Passes CX X E) (a:#[v]=false:=by decide):PE X #[gp] (CZ sp ue E vd):=by intro pins s g H Q I h;refine ku #[xH];exact EJ I.Ac c (LS (us:=[]) F hr d hd e I .nil h)
def aiL{pl:Sem Bool}(he:PE X o ta)(c:ka X.K C)(hm:Meth X.K C m f)(F:ff X.prog X.w X.K X.mg X.base CX k f fd ps sp)(hr:jA k X.A)(z:Binds X.K fd ps ds)(hd:Vals ue ds)(B:Passes CX X E)(D:PA X (e::es) t) (b:bV (e::es) X.env=#[A]::bV es X.env:=by rfl) (d:#[aO].any (·.1)=false:=by rfl) (G:eval #[bc] X.env=(do
   let n<-eval o X.env
   standAt apos.atName
   let #[vX]<-holding [n] #[Dy,n]
   callWith pos f first #[zy] #[fG]):=by rfl):
  PE X #[bc] (NB C m sp ue E ta t):=by
 rw[1984];refine LB (pl:=pl) (da #[r2] λu J g=>e2_2 g λx L v M N=> ?_) G
 (let(a,ex,i):=21 (CW N);let(dx,fs,O,l,q):=42 i)
 rw[2076];rw[2074];refine QO v O c hm l ?_;refine z9 (first:=#[jv]) (h₀:=X.base) I.ok.mod.WT hm.kp (da (D pos pins J p L _ v q) λus R j=>e2_2 j λvs S y r P=>(y.Ac,?_)) b d;exact LS (us:= .ref a::us) (vs:= .ref a::vs) F hr z hd B y (.cons rfl r) P
def Pf{pl:Sem Bool}(he:PE X o ta)(c:ka X.K C)(hm:Meth X.K C m f)(F:ff X.prog X.w X.K X.mg X.base CX k f fd ps sp)(hr:jA k X.A)(i:Binds X.K fd ps ds)(hd:Vals ue ds)(j:Passes CX X E) (n:eval #[bH] X.env=(do
   let g<-eval o X.env
   standAt apos.atName
   let #[vX]<-holding [g] #[Dy,g]
   callWith pos f first #[jq] #[fG]):=by rfl):
  PE X #[bH] (NB C m sp ue E ta vd):=by
 rw[1984];refine LB (pl:=pl) (da #[r2] λu y b=>e2_2 b λx z d r t=> ?_) n
 (let(a,ex,e):=21 (CW t);let(dx,fs,v,l,q):=42 e)
 rw[2076];obtain rfl:u=Value.ref a:=r;refine QO d v c hm l ?_;exact EJ (first:=#[jv]) d.Ac hm.kp (LS (us:=#[jv]) (vs:=#[jv]) F hr i hd j d (.cons rfl .nil) q)
structure Mk(K:aA)(C f:ae):Prop where
 makes:Wu K C=true
 init:br K #[dz] "__init__"=some #[i6]
 fn:SB K #[bz]=true
 kp:md K #[dz]=true
def W9{pins:List #[H]}{c:St}{H:Hp}{s:aL}{Q:VK}{us:List ax}{vs:List V}(M:Mk X.K C f)(F:ff X.prog X.w X.K X.mg X.base CX k f fd ps sp)(hr:jA (k+1) X.A)(i:Binds X.K fd ps ds)(hd:Vals ue ds) (j:Passes CX X E) (I:Inv X pins c H s) (r:Vals vs us) (h:∀x dx,H x=none->H dx=none->dx≠x->sp #[yY] #[my] (λv l=>v= .cG/\Q #[ht] l) E):bF #[g] X.A (call #[dz] us) #[yU] X.xe s:=by
 have d:=h #[t] s.heap.objs.size #[ud] #[cz] (gj (yn _));have b:=Inv.made (C:=C) I;have g:Vals (V.ref #[t]::#[oB]) #[oP]:= .cons rfl (r.append hd);have m:(Value.ref #[t]::us++ds).length=ps.length:=by have e:=g.length;rw[F.len _ _ _ _ d]at e;exact e.symm
 refine wpAny_call (agm (f:=f) I.Ac M.makes M.init (beq_iff_eq.mp M.fn) (GZ (F.run _ X.stack _ _ (Value.ref #[t]::us,[]) #[oP] _ _ E (hr.make C us []) (b.aj5.make C us []) (i _ (Value.ref #[t]::us) b.Ac m) g d) λr s' a=> ?_));cases r with
 |error e=>exact j pins c _ _ e s' b a
 |ok n=>
  cases n with
  |ret u=>let(v,H',o,p,q,t):=62 (b.after a);subst q;exact(p,(V.ref #[t],H',o,rfl,t))
  |next=>exact False.elim a
  |brk=>exact False.elim a
  |cont=>exact False.elim a
def aiM(M:Mk X.K C f)(F:ff X.prog X.w X.K X.mg X.base CX k f fd ps sp)(hr:jA (k+1) X.A)(g:Gl X x)(hm:X.mg x=some #[dz])(i:Binds X.K fd ps ds)(hd:Vals ue ds)(j:Passes CX X E) (l:PA X (e::es) t) (a:#[v]=false:=by decide) (he:bV (e::es) X.env=#[A]::bV es X.env:=by rfl) (b:#[aO].any (·.1)=false:=by rfl):PE X #[af] (QQ C sp ue E t):=by intro pins s m H Q I h;refine ku #[xG];refine z9 (h₀:=X.base) I.ok.mod.WT M.kp (da (l pos pins s m H _ I h) λus n c=>e2_2 c λvs o d r q=>#[An]) he b;exact W9 M F hr i hd j d r q
def agp(M:Mk X.K C f)(F:ff X.prog X.w X.K X.mg X.base CX k f fd ps sp)(hr:jA (k+1) X.A)(b:Gl X x)(hm:X.mg x=some #[dz])(c:Binds X.K fd ps ds)(hd:Vals ue ds)(d:Passes CX X E) (a:#[v]=false:=by decide):PE X #[gp] (QQ C sp ue E vd):=by intro pins s e H Q I h;refine ku #[xH];exact EJ I.Ac M.kp (W9 (us:=[]) M F hr c hd d I .nil h)
#where
section
variable {X:Cx}{CX:Hl}{k:Nat}{f C:ae}{fd:jF}{ps ks:List Str}{sp:Sp}{E:XK}{x m:Str}{p pos apos atB:Pos}{e o:cz}{es:List cz}{kws:List FG}{te ta:TE}{t tk:TA}{nm:Option Str}
variable {g:List ax->List ax->List ax}{gV:List V->List V->List V}
#where
structure aY(N P:List Str)(sc:lS):Prop where
 kind:sc.kind= .function
 co:sc.isCoroutine=false
 gen:sc.isGenerator=false
 nd:N.Nodup
 pre:N.take P.length=P
 par:∀x∈P,sc.names.lookup x=some .local\/sc.names.lookup x=some .cell
 aj6:∀y∈sc.names,y.2≠ .free
def UK{a:Str->Option mQ}{x:Str}:∀{binds:List (Str×ax)} {m:Str->Option ax},#[sN]->bindL a binds m x=m x
 |[],_,_=>rfl
 |((n),v)::r,m,h=>by
  unfold bindL;rw[UK λw hw=>h w (a9 _ hw)];split
  ·have:x≠n:=by rintro rfl;exact h v bg
   simp[this]
  ·rfl
def UL{a:Str->Option mQ}{x:Str}:∀{binds:List (Str×ax)} {m:Str->Option ax},#[sN]->bindC a binds m x=m x
 |[],_,_=>rfl
 |((n),v)::r,m,h=>by
  unfold bindC;rw[UL λw hw=>h w (a9 _ hw)];split
  ·rfl
  ·have:x≠n:=by rintro rfl;exact h v bg
   simp[this]
def UM{a:Str->Option mQ}{x:Str}{v:ax}:∀{P:List Str} {vs:List ax} {i:Nat} {m:Str->Option ax},P.Nodup->P[i]?=some x->vs[i]?=some v->a x=some .local->bindL a (P.zip vs) m x=some v
 |[],_,_,_,_,h,_,_=>by simp at h
 |_::_,[],_,_,_,_,h,_=>by simp at h
 |p::P,w::vs,0,m,nd,b,c,d=>by simp at b c;subst b;subst c;show bindL a #[i1] m p=_;unfold bindL;rw[UK λv e=>#[s2].1 (Ep e).1,aq d];simp
 |p::P,w::vs,i+1,m,nd,b,c,d=>by show bindL a #[i1] m x=_;unfold bindL;exact UM (i:=i) #[s2].2 #[ic] #[fA] d
def UN{a:Str->Option mQ}{x:Str}{v:ax}:∀{P:List Str} {vs:List ax} {i:Nat} {m:Str->Option ax},P.Nodup->P[i]?=some x->vs[i]?=some v->a x≠some .local->bindC a (P.zip vs) m x=some v
 |[],_,_,_,_,h,_,_=>by simp at h
 |_::_,[],_,_,_,_,h,_=>by simp at h
 |p::P,w::vs,0,m,nd,b,c,d=>by simp at b c;subst b;subst c;show bindC a #[i1] m p=_;unfold bindC;rw[UL λv e=>#[s2].1 (Ep e).1,am d];simp
 |p::P,w::vs,i+1,m,nd,b,c,d=>by show bindC a #[i1] m x=_;unfold bindC;exact UN (i:=i) #[s2].2 #[ic] #[fA] d
abbrev start(N:List Str)(vs:List V):St:=vs.map some++xG #[td] none
abbrev yA(CX:Hl)(P:cj)(w:cY)(K:aA)(mg:Str->Option ax)(base:cZ)(N:List Str)(b:Str)(a:lS)(f:ae)(d:ax)(A:dE)(outer:List Env)(s:aL)(H:Hp)(E:XK):Cx where
 prog:=P
 w:=w
 K:=K
 mg:=mg
 base:=base
 A:=A.deeper #[eW]
 N:=N
 pW:=s
 LK:=H
 env:=envOfC b a s.heap.objs.size f d
 outer:=outer
 stack:=envOfC b a s.heap.objs.size f d::outer
 ex:=[]
 calm:=true
 fn:=λ_=>true
 pn:=[]
 xe:=λe s'=>bF #[qZ] (A.deeper #[eW]) (leaving #[eW] e) (λ_ c=>CX outer H s E e c) (λg c=>CX outer H s E g c) s'
def Xa{sc:lS}{n:Nat}{x:Str}(h:sc.names.lookup x=some .cell):∃c,(gv n sc.names []).lookup x=some c:=by have q:=K0 sc.names n [] #[nG];exact du.mp q
def ad0{CX:Hl}{P:cj}{w:cY}{K:aA}{mg:Str->Option ax}{base:cZ}{N ps:List Str}{g:Str}{d:lS}{f:ae}{C:ax}{A:dE}{outer:List Env}{s G:aL}{H:Hp}{E:XK}{us:List ax}{vs:List V} (S:aY N ps d) (hd:A.handled=none) (l:Pd P w K mg base A outer s H) (Q:vs.length=ps.length) (r:Vals vs us) (x:InCallC s s.heap.objs.size (bindL #[lh].kindOf #[ff] λ_=>none) (gv #[t] d.names []) (bindC #[lh].kindOf #[ff] λ_=>none) G):Inv #[hH] [] #[fV] H G:=by
 have L:ps.length<=N.length:=by have:=dA pR S.pre;rw[bE]at this;lia
 let(D,tk,rfl,I):=22 (x.done);have m:∀b:ae,b∉#[hH].ex:=λb z=>absurd (show b∈#[tZ]from z) #[p];refine((l.mod,S.kind,rfl,rfl,be _,λy z c D j=> ?_,λy o=> ?_,λy c _ h=> ?_,λ_=>hd,Around.frames_deeper l.frames,.inr (rfl,rfl),λb z=>absurd z (m b),l.bs,l.LL,λb _ _=>m b,λb z=>absurd z (m b),l.Aw,l.QE),
  rfl,l.bare,Un.kept I,(_,x.toInCall.ns,λi y v D j R=> ?_),λy c h=>(_,x.cell y c h),l.cQ.fresh #[gw],λy c h=> ?_,λp t=>absurd (show p∈#[q1]from t) #[p],l.cQ.kept I,?_)
 ·exact name_of_addr x.apart #[Cg,D] #[Cg,j]
 ·have o:d.names.lookup y=some .cell\/d.names.lookup y=some .free:=o;rcases o with o|o
  ·exact Xa o
  ·exact absurd rfl (S.aj6 _ #[Cg,o])
 ·exact pE #[jO]
 ·have F:i<vs.length:=by
   unfold start at j;by_cases F:i<vs.length
   ·exact F
   ·rw[fh #[u2]]at j;rw[JH]at j;split at j<;>cases j
  have M:vs[i]?=some v:=by
   unfold start at j;rw[oO #[u2],bz]at j;cases e:vs[i]? with
   |none=>rw[e]at j;cases j
   |some a=>rw[e]at j;cases j;rfl
  let(u,J,O):=21 (r.get M);have t:ps[i]?=some y:=by rw[<-S.pre,List.getElem?_take_of_lt #[f]];exact D
  have B:ps.Nodup:=by rw[<-S.pre];exact S.nd.sublist (HQ _ _)
  refine(u,O,?_);rcases S.par y (bO t)with k|k
  ·exact .inl (k,UM B t J k)
  ·let(c,e):=1 (Xa (n:=s.heap.objs.size+1) k);refine .inr (.inl k,c,e,?_);have q:=x.cell y c e;rw[UN B t J (by show d.names.lookup y≠_;rw[k];decide)]at q;rw[2105]
 ·exact l.cQ.fresh (pE #[jO])
 ·unfold start;show _=N.length;rw[aM,aD,LC]
  lia
def ah1{CX:Hl}{P:cj}{w:cY}{K:aA}{mg:Str->Option ax}{base:cZ}{k:Nat}{f:ae}{name c:Str}{d:Arguments}{body:List bu}{a:lS}{D kV doc F gn ct O:ax}{G R:Option ae}
  {p:Array #[iR]} {N ps:List Str} {sp:Sp} (lk:K.lookup f=some (O,R,.func #[jm],p)) (z:GL K gn c=true) (S:aY N ps a)
  (len:∀vs H Q E,sp vs H Q E->vs.length=ps.length)
  (h:∀(A:dE) (outer:List Env) (s:aL) (H:Hp) (vs:List V) (Q:VK) (E:XK),jA k (A.deeper (envOfC c a s.heap.objs.size f gn))->sp vs H Q E->∃t,BS #[cA] body t/\t {nx:=λ_ H'=>Q .cG H',rt:=Q} #[fV] H):
  ff P w K mg base CX (k+1) f #[jm] ps sp:=by
 refine(len,λA outer s H args us vs Q E hr j T r l=> ?_);have U:=len _ _ _ _ l;have L:K.In s.heap:=j.mod.WT.keeps λb o e=>(j.bs b o e).1;have B:s.heap.NoLimit:=j.mod.nolimit.keeps λb o e=>(j.bs b o e).1;have i:∀y∈ps.zip us,a.names.lookup y.1=some .local\/(a.names.lookup y.1=some .cell/\((gv #[t] a.names []).lookup y.1).isSome=true):=λ(n,v) X=>by
  rcases S.par n (Ep X).1 with q|q
  ·rw[2118]
  ·exact .inr (q,K0 _ _ _ #[l4])
 refine codeAny_call_function hr.depth (L _ _ lk) rfl S.co S.gen rfl (PySem.W.codeRec_of L z) (T _ _ _ _ ?_);refine wpAny_newFunctionEnv_cells S.kind i λenv he M x=> ?_;subst he;refine(B.keeps x.toInCall.keep,codeAny_func ?_);let(t,Y,Z):=21 (h A outer s H vs Q E (hr.deeper _) l);have I:Inv #[cA] [] #[fV] H M:=ad0 S hr.hd j U r x;refine jR (Y [] M #[fV] H _ I Z) (λfl s' hs=> ?_) λe s' hs=>hs;have m:∀{g:St} {H':Hp} {v:V} {u:ax},Inv #[cA] [] g H' s'->RelV v u->Q v H'->CE outer P w H s Q u s':=λ{g H' v u} J C q=>(v,H',J.os,J.bare,J.base,J.cQ,C,q);cases fl with
 |ret u=>let(v,g,H',J,C,q):=43 hs;exact m J C q
 |next=>let(g,H',J,q):=22 hs;exact m (v:=V.cG) (u:=Value.none) J rfl q
 |brk=>let(_,_,_,q):=22 hs;exact False.elim q
 |cont=>let(_,_,_,q):=22 hs;exact False.elim q
#print L2
namespace L2
open PySem PySem.Spec PyProof.Rows
section
variable {X:Cx}{x:Str}{p pos:Pos}{e:cz}{es:List cz}{t:TA}{id T:String}{r:List V->Hp->VK->Prop}
abbrev tCB(r:List V->Hp->VK->Prop)(t:TA):TE:=λa H Q=>t a H λvs b=>r vs b Q
def wQ(f:Hh X #[e2] r)(g:Gl X x)(hm:X.mg x=none)(i:sd x=some #[e2])(j:PA X (e::es) t)(k:x≠"__name__":=by decide)(a:#[v]=false:=by decide) (he:bV (e::es) X.env=#[A]::bV es X.env:=by rfl) (b:#[aO].any (·.1)=false:=by rfl):PE X #[af] (tCB r t):=by intro pins s d H Q I h;refine ku #[th];exact PyProof.Rows.callWith_builtin1 #[cq] he b
def ad2(f:Hh X #[wy] r)(g:Gl X x)(hm:X.mg x=none)(i:sd x=some #[wy])(j:PA X (e::es) t)(k:x≠"__name__":=by decide)(a:#[v]=false:=by decide) (he:bV (e::es) X.env=#[A]::bV es X.env:=by rfl) (b:#[aO].any (·.1)=false:=by rfl):PE X #[af] (tCB r t):=by intro pins s d H Q I h;refine ku #[th];exact PyProof.Rows.callWith_type1 #[cq] he b
#where
#print L2
namespace HT
open PySem PyProof.Rows
section
open PySem.SeqAt
open PySem.AutoSeq1 (wpAny_loadPart')
open PySem.MeetsSeq PySem.MeetsSeq2 PySem.MeetsSeq3
#where
section
variable {prog:cj}{w:cY}{A:dE}{E:ax->aL->Prop}{s:aL}
def aiN{t b:ae}{vs a:List ax}{Q:ax->aL->Prop}(r:IsTup s.heap t vs.toArray)(u:IsTup s.heap b a.toArray)(m:vs≠[]) (v:a=[]->Q #[z6] s) (x:a≠[]->Q #[bt] {s with heap:=s.heap.push {cls:= .type "tuple",data:= .seq (vs++a).toArray}}) (hsz:vs.length+a.length<=aS):bF #[au] A (qx .Add #[z6] #[nE]) Q E s:=by
 (let(d,k,o,f):=41 (id r);let(n,hd):=1 f;obtain⟨cls,dd,data,sl⟩:=d)
 (let(d,c,g,f):=41 (id u);let(p,h):=1 f;obtain⟨q,i,l,j⟩:=d)
 simp only at o hd g h;subst o hd g h;have e:vs.toArray++a.toArray=(vs++a).toArray:=by simp
 by_cases hw:a=[]
 ·exact concat_meets #[As] #[At] GY seq_tuple_add BC Ao (zi _ _) (tuple_addW1 t b vs.toArray a.toArray n p dd i sl j #[uY] (by simp[hw])) (k,c,v hw)
 ·refine concat_meets #[As] #[At] GY seq_tuple_add BC Ao (zi _ _) (tuple_addW2 t b vs.toArray a.toArray n p dd i sl j #[uY] #[lo] (by rw[bI,bI];exact hsz)) (k,c,?_);rw[e];exact x hw
abbrev gO(n d:Nat):Option Int->Nat
 |none=>d
 |some v=>if v<0 then(v+(n:Int)).toNat else min v.toNat n
def Xb(n d:Nat):gO n d none=d:=rfl
def Ad(n d k:Nat):gO n d #[zi]=min k n:=by show(if(k:Int)<0 then((k:Int)+(n:Int)).toNat else min (k:Int).toNat n)=min k n;rw[am #[f],lR]
def aj7(n d:Nat)(hd:d<=n)(o:Option Int):gO n d o<=n:=by
 cases o with
 |none=>exact hd
 |some v=>
  show #[g5]<=n;by_cases a:v<0
  ·rw[aq a];lia
  ·rw[am a];exact Nat.min_le_right _ _
def abb(v:Int)(n d:Nat):#[gJ]=((gO n d #[h8]:Nat):Int):=by
 show #[gJ]=((#[g5]:Nat):Int);by_cases a:v<0
 ·simp only[aq a];lia
 ·simp only[am a];lia
def ab2(lo a:Option Int)(n:Nat):Builtin.Slice.sliceAdjust lo a 1 (n:Int)=((#[gs]),#[tn]):=by
 have b:¬((1:Int)<0):=by lia
 unfold Builtin.Slice.sliceAdjust;simp only[b,Ab];refine Prod.ext ?_ ?_
 ·cases lo with
  |none=>rfl
  |some v=>exact abb v n 0
 ·cases a with
  |none=>rfl
  |some v=>exact abb v n n
def ab3(i j:Nat):Builtin.Slice.slicePlaces (i:Int) (j:Int) 1=j-i:=by
 unfold Builtin.Slice.slicePlaces;have a:(1:Int)>0:=by lia
 simp only[a,FH,Int.ediv_one];split<;>lia
def QR{v:ax}{o:Option Int}{Q:Option Int->aL->Prop}(p:G2 v o)(h:Q o s):bF #[au] A (Builtin.Slice.slicePartIndex v) Q E s:=by
 cases p with
 |none=>exact slicePart_none h
 |int i t=>exact slicePart_int h
def Pg{sl:ae}{d e:ax}{lo a:Option Int}{n:Nat}{Q:Int×Int×Nat->aL->Prop}(hs:s.heap.IsSliceOf sl d e .none)(pl:G2 d lo)(f:G2 e a) (h:Q ((#[gs]),1,gO n n a-gO n 0 lo) s):bF #[au] A (Builtin.Slice.sliceApplied #[pO] (pure (n:Int))) Q E s:=by let(os,b,g,c):=41 (id hs);unfold Builtin.Slice.sliceApplied Builtin.Slice.sliceFields;refine aX (aX (wpAny_field b c (x:=d) rfl (aX (wpAny_field b c (x:=e) rfl (aX (wpAny_field b c (x:= .none) rfl #[js]))))));refine aX (slicePart_none ?_);show bF _ _ (if((1:Int)==0)=true then _ else _) _ _ s;rw[am #[c]];refine aX (QR pl (aX (QR f (aX #[js]))));show bF _ _ (match Builtin.Slice.sliceAdjust lo a 1 (n:Int)with|((lo),a)=>pure ((lo),(1:Int),Builtin.Slice.slicePlaces lo a 1)) _ _ s;rw[ab2 lo a n];show bF _ _ (pure ((#[gs]),(1:Int),Builtin.Slice.slicePlaces #[gs] #[tn] 1)) _ _ s;rw[ab3];exact bA h
def agq(xs:Array ax)(i k:Nat):((cw k).filterMap λ(m:Nat)=>xs[#[lw].toNat]?).toArray=((xs.toList.drop i).take k).toArray:=by
 have e:(λ(m:Nat)=>xs[#[lw].toNat]?)=λm=>xs[i+m]?:=by
  funext m;have:#[lw].toNat=i+m:=by lia
  rw[1924]
 rw[e];have:=pick_run xs i k;rw[List.filterMap_map]at this;have a:((λx=>xs[x]?)∘λx=>i+x)=λm=>xs[i+m]?:=rfl;rw[a]at this;rw[1924]
def N2{t sl:ae}{items:Array ax}{i j:ax}{lo b:Option Int}{Q:ax->aL->Prop}(c:IsTup s.heap t items)(hs:s.heap.IsSliceOf sl i j .none)(pl:G2 i lo)(k:G2 j b) (hw:¬(gO items.size 0 lo=0/\gO items.size items.size b=items.size)) (h:Q #[bt] {s with heap:=s.heap.push {cls:= .type "tuple",data:= .seq #[Z].toArray}}) (hsz:items.size<=aS):bF #[au] A (FI #[z6] #[pO]) Q E s:=by
 have a:sizeOk (.seq #[Z].toArray):=by
  show #[Z].toArray.size<=aS;rw[bI,bE,bN,yX]
  lia
 have n:gO items.size items.size b<=items.size:=aj7 _ _ #[gw] b;let(os,d,e,l):=41 (id hs);have f:s.TypeIs #[pO] "slice":=(os,d,e);unfold FI
 try with_reducible refine wpAny_holding ?_
 first|refine aX #[js]|skip
 refine aX (wpAny_sequenceKey c.typeIs #[c] ?_);refine aX (yy (name:=Str.ofString "__getitem__") c.typeIs PyProof.Rows.slot_tuple_getitem (vH PyProof.Rows.slot_tuple_getitem c.typeIs entry_tuple_getitem ?_ (args_tuple_getitem _ _)));show bF _ _ (Builtin.Tuple.tupleItemsOf #[z6]>>=_) _ _ s;refine aX (tupleItemsOf_ c ?_);refine aX (wpAny_typeOf f ?_);rw[aq #[c]];refine aX (Pg hs pl k ?_);have g:¬(#[bE]=true):=by intro q;rw[bK,bK]at q;have o:((gO items.size 0 lo:Nat):Int)=0:=eq_of_beq q.1.1;have p:gO items.size items.size b-gO items.size 0 lo=items.size:=eq_of_beq q.2;exact hw #[tr]
 show bF _ _ (if #[bE]=true then _ else _) _ _ s;rw[am g,agq]
 first
  |exact aX (m:=Builtin.Tuple.tupleExact _) (lK #[ge] a)
  |exact aX (m:=Builtin.Tuple.tupleExact _) (lK (aX (bA #[ge])) a)
  |exact aX (aX (m:=Builtin.Tuple.tupleExact _) (lK (bA #[ge]) a))
  |exact aX (aX (m:=Builtin.Tuple.tupleExact _) (lK #[ge] a))
#where
#print HT
namespace L2
open PySem PySem.Spec PyProof.Rows
nonrec abbrev TO:=St->Hp->(Option Int->Hp->Prop)->Prop
abbrev PO(X:Cx)(e:Option cz)(t:TO):Prop:=∀(pins:List (ae×Obj)) (s:aL) (a:St) (H:Hp) (Q:Option Int->Hp->Prop),Inv X pins a H s->t a H Q->bF #[g] X.A (evalPart e X.env) (λu s'=>∃o H',Inv X pins a H' s'/\G2 u o/\Q o H') X.xe s
abbrev SU:TO:=λ_ H Q=>Q none H
abbrev ab4(t:TE):TO:=λa H Q=>t a H λx b=>mI x λi=>Q (some i) b
section
variable {X:Cx}{e:cz}{te:TE}{lo hi:Option cz}{tl th:TO}{pos p2:Pos}
def Fu:PO X none SU:=by intro pins s a H Q I h;rw[evalPart_none];exact bA (none,H,I,.none,h)
def pZ(h:PE X e te):PO X (some e) (ab4 te):=by intro pins s b H Q I hw;rw[evalPart_some];refine da #[CR,b] λu j a=>e2_2 a λx c d f g=> ?_;let(i,rfl,q):=21 (G8 g);let(t,rfl):=1 f;exact(some i,c,d,.int i t,q)
abbrev SlR(X:Cx)(r:V->Option Int->Option Int->Hp->VK->Prop):Prop:=∀(pins:List (ae×Obj)) (s:aL) (a:St) (H:Hp) (x:V) (v b c:ax) (lo hi:Option Int) (sl:ae) (Q:VK),Inv X pins a H s->RelV x v->s.heap.IsSliceOf sl b c .none->G2 b lo->G2 c hi->r x lo hi H Q->∃T id,typeLookup #[wy] "__getitem__"=pure #[Dc,#[e2]]/\s.TypeIs v T/\bF #[g] X.A (FI v #[pO]) #[cL] X.xe s
abbrev tSl(r:V->Option Int->Option Int->Hp->VK->Prop)(te:TE)(tl th:TO):TE:=λa H Q=>te a H λx b=>tl a b λl c=>th a c λu d=>r x l u d Q
def tJ{r:V->Option Int->Option Int->Hp->VK->Prop}(hr:SlR X r)(he:PE X e te)(m:PO X lo tl)(n:PO X hi th):PE X (.Subscript e #[rI] pos) (tSl r te tl th):=by intro pins s c H Q I h;refine Subscript_ (da #[CC,c] λv o g=>e2_2 g λx p t y z=> ?_);refine wpAny_Slice (da (m pins o c p _ t z) λd B i=>e2_2 i λl C D pl E=>da (n pins B c C _ D E) λf a j=>e2_2 j λu k F G J=> ?_);rw[evalPart_none];refine bA ?_;have K:Inv X pins c k {a with heap:=a.heap.push {cls:= .type "slice",data:= .fields #[d,f,.none]}}:=F.kept (t':=a.toks) λb ob q=>Heap.get?_push_of_some _ q;let(T,id,L,M,N):=42 (hr pins {a with heap:=a.heap.push {cls:= .type "slice",data:= .fields #[d,f,.none]}} c k x v d f l u a.heap.objs.size Q K y (Heap.IsSliceOf.new ..) pl G J);show bF #[g] X.A (subscriptTail e #[rI] v #[rc]) #[yU] X.xe {a with heap:=a.heap.push {cls:= .type "slice",data:= .fields #[d,f,.none]}};exact tail_any (ops:=[.ref a.heap.objs.size,v]) M L N (by with_unfolding_all rfl)
abbrev tK(xs:List V)(lo hi:Option Int):List V:=(xs.drop #[jt]).take (HT.gO xs.length xs.length hi-HT.gO xs.length 0 lo)
def OA(xs:List V)(lo hi:Option Int):#[AE].length<=xs.length:=by
 unfold tK;rw[bE,bN]
 lia
abbrev agr(K:aA):V->Option Int->Option Int->Hp->VK->Prop:=λx lo hi H Q=>∃a xs,x= .ref a/\cK K H a xs/\¬(HT.gO xs.length 0 lo=0/\HT.gO xs.length xs.length hi=xs.length)/\∀p,H p=none->Q #[aI] (upd H p (.tup #[AE]))
def ad3:SlR X (agr X.K):=by
 intro pins s k H x v l m lo d sl Q I g hs pl i h;let(a,xs,rfl,j,hw,q):=62 h;cases g;let(e,r,f,hz):=41 #[CA,j];have c:e.toArray.size=xs.length:=by rw[bI];exact r.length.symm
 refine("tuple",_,PyProof.Rows.slot_tuple_getitem.lookup,f.typeIs,?_);refine HT.N2 f hs pl i (by rw[c];exact hw) ?_ (by rw[c];exact hz);rw[c];refine(.ref s.heap.objs.size,_,I.laid (t':=s.toks) (o:= .tup (tK xs lo d)) (λb ob q=>Heap.get?_push_of_some _ q) #[gw] ?_,rfl,q _ #[cz]);exact(dk (OA xs lo d) hz,_,#[zn].take #[gR],IsTup.new _ _)
abbrev alZ(K:aA):R2:=λx y H Q=>∃a b xs ys,x= .ref a/\y= .ref b/\cK K H a xs/\cK K H b ys/\xs≠[]/\xs.length+ys.length<=aS/\(ys=[]->Q #[bh] H)/\(ys≠[]->∀p,H p=none->Q #[aI] (upd H p (.tup (xs++ys))))
def Vals.NC{xs:List V}{us:List ax}(r:Vals xs us):us=[]↔xs=[]:=by
 cases r with
 |nil=>simp
 |cons _ _=>simp
def aiO:pY X #[vC] (alZ X.K):=by
 intro pins s A H x y v u Q I g i h
 (let(a,b,xs,ys,d):=4 h;let(rfl,rfl,j,k,l,hz,m,n):=140 d)
 cases g;cases i;let(p,e,r,_):=41 #[CA,j];let(f,c,t,_):=41 #[CA,k];refine HT.aiN r t (λz=>l (e.NC.mp z)) (λz=>(.ref a,H,I,rfl,m (c.NC.mp z))) (λz=> ?_) (by rw[<-e.length,<-c.length];exact hz);refine(.ref s.heap.objs.size,_,I.laid (t':=s.toks) (o:= .tup (xs++ys)) (λb ob q=>Heap.get?_push_of_some _ q) #[gw] ?_,rfl,n (λw=>z (c.NC.mpr w)) _ #[cz]);exact(by rw[aM];exact hz,_,e.append c,IsTup.new _ _)
#where
#print L2
namespace L2
open PySem PySem.Spec PyProof.Rows
abbrev OB(n:Nat)(i:Int):Option Nat:=if 0<=i then(if i<n then some i.toNat else none)else if-(n:Int)<=i then some (i+n).toNat else none
abbrev uZ{a:Type}(xs:List a)(i:Int):Option a:=(OB xs.length i).bind λj=>xs[j]?
def abc{n:Nat}{i:Int}{j:Nat}(h:OB n i=some j):Ia i n=some j/\j<n/\-(n:Int)<=i/\i<n:=by
 unfold OB at h;by_cases h0:0<=i
 ·rw[aq h0]at h;by_cases a:i<n
  ·rw[aq a]at h;have e:i.toNat=j:=dm.inj h;exact(by rw[seqIndex_of h0 a,e],by lia,by lia,a)
  ·rw[am a]at h;rw[1914]
 ·rw[am h0]at h;by_cases a: -(n:Int)<=i
  ·rw[aq a]at h;have e:(i+n).toNat=j:=dm.inj h;exact(by rw[seqIndex_neg #[f] a,e],by lia,a,by lia)
  ·rw[am a]at h;rw[1914]
def abd{a:Type}{xs:List a}{i:Int}{v:a}(h:uZ xs i=some v):∃j,Ia i xs.length=some j/\xs[j]?=some v/\j<xs.length/\-#[o8]<=i/\i<xs.length:=by
 unfold uZ at h;cases e:OB xs.length i with
 |none=>rw[e]at h;rw[1914]
 |some j=>rw[e]at h;let(b,c,d,f):=60 (abc e);exact(j,b,h,c,d,f)
def oq{a:Type}{xs:List a}{j:Nat}{v:a}(h:xs[j]?=some v):uZ xs (j:Int)=some v:=by
 have b:j<xs.length:=(iX.mp h).1;have e:OB xs.length (j:Int)=some j:=by unfold OB;rw[aq #[f],aq #[f]];simp
 unfold uZ;rw[e];exact h
def JW{a:Type}(xs:List a)(v:a):uZ #[rT] (-1)=some v:=by
 have b:#[rT].length=xs.length+1:=by simp
 have e:OB #[rT].length (-1)=some xs.length:=by
  unfold OB;rw[b,am #[c],aq #[f]];congr 1
  lia
 unfold uZ;rw[e];show #[rT][xs.length]?=some v;simp
abbrev SV(b:cz):Prop:=∀o i,Jd b false o i=operate [o,i] (FI o i)
abbrev IxR(X:Cx)(r:R2):Prop:=∀(value a:cz) (pins:List (ae×Obj)) (s:aL) (b:St) (H:Hp) (x y:V) (v u:ax) (Q:VK),Inv X pins b H s->RelV x v->RelV y u->r x y H Q->Jd a false v u=operate [v,u] (FI v u)->bF #[g] X.A (subscriptTail value a v u) #[yV] X.xe s
abbrev MtR(X:Cx)(id:String)(r:V->List V->Hp->VK->Prop):Prop:=∀(pins:List (ae×Obj)) (s:aL) (a:St) (H:Hp) (x:V) (xs:List V) (v:ax) (us:List ax) (Q:VK),Inv X pins a H s->RelV x v->Vals xs us->r x xs H Q->bF #[g] X.A #[s4] #[cL] X.xe s
section
variable {X:Cx}{a b:cz}{ta tb:TE}{pos:Pos}
def WB{r:R2}(hr:IxR X r)(c:PE X a ta)(d:PE X b tb)(hs:SV b):PE X #[kV] #[hs]:=by intro pins s e H Q I h;exact Subscript_ (agj c d I h λv u f x y g i j k q=>hr a b pins f e g x y v u Q i j k q (hs _ _))
abbrev SW(K:aA):R2:=λx y H Q=>mR x λp=>mI y λi=>∃xs,a8 K H p xs/\∃v,uZ xs i=some v/\Q v H
abbrev LU(K:aA):R2:=λx y H Q=>mR x λp=>mI y λi=>∃xs,cK K H p xs/\∃v,uZ xs i=some v/\Q v H
def SX:IxR X (SW X.K):=by
 intro value c pins s l H x y v u Q I n o h hs;rw[2043]
 (let(i,rfl,d):=21 (G8 h);let(xs,A,e):=21 d;let(z,he,q):=21 e)
 cases n;let(t,rfl):=1 o;let(f,r,pl,hz):=41 (I.list A);let(j,b,B,E,C,h5):=81 (abd he);let(w,m,g):=21 (r.get B);have D:=r.length;have F:=QM;have a:EP X pins l Q w s:=(z,H,I,g,q);by_cases h0:0<=i
 ·have k:i.toNat=j:=by rw[seqIndex_of h0 h5]at b;exact dm.inj b
  exact item_listR pl.isList h0 #[f] #[p9] a hs
 ·have k:(i+(f.toArray.size:Int)).toNat=j:=by
   rw[seqIndex_neg #[f] C]at b;rw[bI,<-D];exact dm.inj b
  exact subscriptTail_builtinR (x:=w) pl.isList.typeIs slot_list_getitem.lookup (wpAny_getItem_list_neg (Q:=λr s'=>r=w/\EP X pins l Q r s') pl.isList #[f] #[v9] #[f] #[p9] (rfl,a)) hs
def akc:IxR X (LU X.K):=by
 intro value a pins s f H x y v u Q I g k h hs;rw[2043]
 (let(i,rfl,b):=21 (G8 h);let(xs,l,c):=21 b;let(z,he,q):=21 c)
 cases g;rw[2124];let(m,r,pl,hz):=41 #[CA,l];let(j,n,o,C,D,h5):=81 (abd he);let(w,A,d):=21 (r.get o);have B:=r.length;have E:=QM;have e:EP X pins f Q w s:=(z,H,I,d,q);exact subscriptTail_builtinR (x:=w) pl.typeIs slot_tuple_getitem.lookup (getItem_tuple (j:=j) (Q:=λr s'=>r=w/\EP X pins f Q r s') pl #[f] #[f] (by rw[bI,<-B];exact n) (by simpa using A) (rfl,e)) hs
def Xc(lo a:Option Int)(n:Nat):#[n7].1=((HT.gO n 0 lo:Nat):Int)/\#[n7].2.1=((HT.gO n n a:Nat):Int)/\#[n7].2.2=1:=by
 refine(?_,?_,rfl)
 ·cases lo with
  |none=>simp[vY,HT.gO]
  |some i=>
   rw[1947];by_cases h:i<0
   ·rw[2147]
   ·rw[2148]
 ·cases a with
  |none=>simp[vY,HT.gO]
  |some i=>
   rw[1947];by_cases h:i<0
   ·rw[2147]
   ·rw[2148]
def Vv(a:List ax)(lo b:Option Int):slicePick a.toArray lo b none=((a.drop (HT.gO a.length 0 lo)).take (HT.gO a.length a.length b-HT.gO a.length 0 lo)).toArray:=by let(c,d,e):=40 (Xc lo b a.toArray.size);unfold slicePick;rw[c,d,e];simp only[sliceRange_one,pick_run,bI]<;>rfl
abbrev ab5(K:aA):V->Option Int->Option Int->Hp->VK->Prop:=λx lo b H Q=>∃a xs,x= .ref a/\a8 K H a xs/\∀p,H p=none->Q #[aI] #[f3]
def Ae:SlR X (ab5 X.K):=by intro pins s k H x v l m lo d sl Q I f hs pl g h;let(a,xs,rfl,i,q):=42 h;cases f;let(j,r,e,hz):=41 (I.list i);have c:=r.length;refine("list",_,slot_list_getitem.lookup,e.isList.typeIs,?_);refine wpAny_getItem_list_slice e.isList hs pl g .none #[p] ?_ #[v9];rw[Vv,<-c];refine(.ref s.heap.objs.size,_,I.laid (t':=s.toks) (o:= .lst (tK xs lo d)) (λb ob q=>Heap.get?_push_of_some _ q) #[gw] ?_,rfl,q _ #[cz]);exact(dk (OA xs lo d) hz,_,0,#[zn].take #[gR],Heap.get?_push_size _ rfl)
abbrev EN:V->Bool
 | .cG=>true
 | .bl _=>true
 | .int _=>true
 | .str _=>true
 |_=>false
abbrev QS:V->V->Bool
 | .cG,.cG=>true
 | .bl a,.bl b=>a==b
 | .bl a,.int b=>(if a then 1 else 0)==b
 | .int a,.bl b=>a==(if b then 1 else 0)
 | .int a,.int b=>a==b
 | .str a,.str b=>a==b
 |_,_=>false
def akd{A:dE}{s:aL}{y x:V}{u v:ax}(d:RelV y u)(c:RelV x v)(f:EN y=true)(e:EN x=true):SeqAt.EqAt A s u v (QS y x):=by
 cases y with
 |cG=>
  cases d;cases x with
  |cG=>cases c;exact SeqAt.EqAt.same _
  |bl b=>cases c;exact SeqAt.EqAt.none_bool b
  |int b=>let(t,rfl):=1 c;exact SeqAt.EqAt.none_int b t
  |str b=>let(t,rfl):=1 c;exact SeqAt.EqAt.none_str b t
  |_=>exact absurd (show false=true from e) cA
 |bl a=>
  cases d;cases x with
  |cG=>cases c;exact SeqAt.EqAt.bool_none a
  |bl b=>cases c;exact SeqAt.EqAt.bool_bool a b
  |int b=>let(t,rfl):=1 c;exact SeqAt.EqAt.bool_int a b t
  |str b=>let(t,rfl):=1 c;exact SeqAt.EqAt.bool_str a b t
  |_=>exact absurd (show false=true from e) cA
 |int a=>
  rw[2115];cases x with
  |cG=>cases c;exact SeqAt.EqAt.int_none a t'
  |bl b=>cases c;exact SeqAt.EqAt.int_bool a t' b
  |int b=>let(t,rfl):=1 c;exact SeqAt.EqAt.int_int a t' b t
  |str b=>let(t,rfl):=1 c;exact SeqAt.EqAt.int_str a t' b t
  |_=>exact absurd (show false=true from e) cA
 |str a=>
  rw[2115];cases x with
  |cG=>cases c;exact SeqAt.EqAt.str_none a t'
  |bl b=>cases c;exact SeqAt.EqAt.str_bool a t' b
  |int b=>let(t,rfl):=1 c;exact SeqAt.EqAt.str_int a t' b t
  |str b=>let(t,rfl):=1 c;exact SeqAt.EqAt.str_str a t' b t
  |_=>exact absurd (show false=true from e) cA
 |_=>exact absurd (show false=true from f) cA
abbrev QU(x:V)(u:ax):Bool:=match u with
 | .none=>QS .cG x
 | .bool b=>QS #[mq] x
 | .int i _=>QS #[gn] x
 | .str z _=>QS (.str z) x
 |_=>false
def ad4{x y:V}{u:ax}(r:RelV y u)(f:EN y=true):QU x u=QS y x:=by
 cases y with
 |cG=>cases r;rfl
 |bl b=>cases r;rfl
 |int i=>let(t,rfl):=1 r;rfl
 |str z=>let(t,rfl):=1 r;rfl
 |_=>exact absurd (show false=true from f) cA
def abe{x:V}:∀{xs:List V} {us:List ax},Vals xs us->xs.all EN=true->us.any (QU x)=xs.any λy=>QS y x:=by
 intro xs us h
 induction h with
 |nil=>intro _;rfl
 |cons r t a=>intro f;rw[I0,bK]at f;rw[nI,nI,ad4 r f.1,a f.2]
def Xd{A:dE}{s:aL}{x:V}{v:ax}(b:RelV x v)(c:EN x=true):∀{xs:List V} {us:List ax},Vals xs us->xs.all EN=true->∀u∈us,SeqAt.EqAt A s u v (QU x u):=by
 intro xs us h
 induction h with
 |nil=>intro _ u a;cases a
 |cons r t d=>
  intro f e a;rw[I0,bK]at f;rw[1929]
  ·rw[ad4 r f.1];exact akd r b f.1 c
  ·exact d f.2 e a
abbrev Xe(x:V)(xs:List V):Bool:=xs.any λy=>QS y x
abbrev rIn(K:aA)(a:Bool):R2:=λx y H Q=>∃p xs,y= .ref p/\(a8 K H p xs\/cK K H p xs)/\EN x=true/\xs.all EN=true/\Q (.bl (if a then !Xe x xs else Xe x xs)) H
def LV:pY X (gu .In) (rIn X.K false):=by
 intro pins s f H x y v u Q I c e h;let(p,xs,rfl,b,d,fs,q):=82 h;rw[2048];rcases b with b|b
 ·let(a,r,pl,hz):=41 (I.list b);refine SeqAt.in_listAt (QU x) pl.isList (λw hw=>Xd c d r fs w #[lo]) #[rm];rw[1932];rw[2105]
 ·let(a,r,pl,hz):=41 #[CA,b];refine SeqAt.in_tupleAt (QU x) pl (λw hw=>Xd c d r fs w #[lo]) #[rm];rw[1932];rw[2105]
def LW:Hh X (.builtin "len") (λxs H Q=>∃p ys,xs=#[qq]/\#[fB]/\Q #[ot] H):=by
 intro pins s f H xs us Q I r h;let(p,ys,rfl,b,q):=42 h;let(u,rfl,e):=21 (vals1 r);rw[2048];have g:=QM;rcases b with b|b
 ·let(c,d,pl,hz):=41 (I.list b);have a:=d.length;exact Calls.call_len_list pl.isList #[eP] #[fc]
 ·let(c,d,pl,hz):=41 #[CA,b];have a:=d.length;exact len_tuple pl #[eP] #[fc]
def Xf:Hh X #[z4] (λxs H Q=>∃p ys,xs=#[qq]/\#[fB]/\∀l,H l=none->Q #[co] #[x1]):=by
 intro pins s v H xs us Q I r h;let(p,ys,rfl,g,q):=42 h;let(u,rfl,x):=21 (vals1 r);cases x;have i:∀(a:List ax),Vals ys a->ys.length<=aS->∀(h':cZ) (c:Nat),(∀b t,s.heap.get? b=some t->h'.get? b=some t)->h'.get? s.heap.objs.size=some {cls:= .type "list",dict:=none,data:= .seq a.toArray c,slots:= #[]}->EP X pins v Q #[bt] {s with heap:=h'}:=λa d hz h' c kp e=>
  (.ref s.heap.objs.size,_,I.laid (t':=s.toks) kp #[gw] (show j1 X.prog X.w _ h' _ #[pP]from(hz,a,c,d,e)),rfl,q _ #[cz])
 rcases g with g|g
 ·let(a,d,pl,hz):=41 (I.list g);have j:=d.length
  (let(o,k,m,f):=41 (pl.isList);let(n,hd):=1 f)
  exact call_list_seq p #[ay] k m hd (λh' c kp e=>i a d hz h' c kp e) #[eP]
 ·let(a,d,pl,hz):=41 #[CA,g];have j:=d.length
  (let(o,k,m,f):=41 pl;let(n,hd):=1 f)
  exact call_list_seq p #[fR] k m hd (λh' c kp e=>i a d hz h' c kp e) #[eP]
abbrev tyV(K:aA)(T:String)(x:V)(H:Hp):Prop:=match x with
 | .str _=>T="str"
 | .int _=>T="int"
 | .ref p=>(T="list"/\∃xs,a8 K H p xs)\/(T="tuple"/\∃o,K.lookup p=some o/\o.cls= .type "tuple"/\o.dict=none)\/(T="dict"/\((∃a,H p=some (.dK a))\/∃a,H p=some (.dT a)))\/(T="set"/\∃S n,H p=some (.set S n))
 |_=>False
def ad5{pins:List #[H]}{j:St}{H:Hp}{s:aL}{T:String}{x:V}{v:ax}(I:Inv X pins j H s)(r:RelV x v)(ty:tyV X.K T x H):s.TypeIs v T/\∀a,v= .ref a->∃ob,s.heap.get? a=some ob/\ob.dict=none:=by
 cases x with
 |str z=>let(t,rfl):=1 r;cases (show T="str" from ty);exact(typeIs_str s z t,λ_ e=>nomatch e)
 |int i=>let(t,rfl):=1 r;cases (show T="int" from ty);exact(typeIs_int s i t,λ_ e=>nomatch e)
 |ref p=>
  cases r;rcases ty with⟨rfl,xs,k⟩|⟨rfl,o,b,l,hd⟩|⟨rfl,b⟩|⟨rfl,S,n,b⟩
  ·let(m,_,pl,_):=41 (I.list k);refine(pl.isList.typeIs,λa e=> ?_);rw[2048];let(o,n,e,c,hd,_):=62 pl;exact(o,e,hd)
  ·refine((o,I.Ac p o b,l),λa e=> ?_);rw[2048];exact(o,I.Ac _ o b,hd)
  ·have z:∃o,s.heap.get? p=some o/\o.ExactDict:=by
    rcases b with⟨g,b⟩|⟨g,b⟩
    ·(let(_,_,d):=40 #[ue];let(_,_,f):=21 d;let(o,_,_,e,ex,_):=43 f)
     exact(o,e,ex)
    ·(let(_,_,d):=40 #[ue];let(_,_,f):=21 d;let(o,_,_,e,ex,_):=43 f)
     exact(o,e,ex)
   let(o,e,ex):=21 z;refine #[k9];rw[1914];exact #[wX]
  ·let(o,_,_,_,e,ex,_):=44 #[ue];refine #[k9];rw[1914];exact #[wX]
 |_=>exact False.elim ty
abbrev ab6(K:aA)(T:String)(r:V->List V->Hp->VK->Prop)(b:TE):TE:=λc H Q=>b c H λx a=>tyV K T x a/\r x [] a Q
abbrev tBM(K:aA)(T:String)(r:V->List V->Hp->VK->Prop)(c:TE)(t:TA):TE:=λa H Q=>c a H λx b=>tyV K T x b/\t a b λxs d=>r x xs d Q
variable {o e:cz}{es:List cz}{to:TE}{t:TA}{name:Str}{apos lD:Pos}{T id:String}{r:V->List V->Hp->VK->Prop}
def Xg(i:PlainAttrs T)(slot:Slot T name id)(c:typeOf #[e2]=pure #[os])(hm:MtR X id r)(j:PE X o to) (a:oI o name X.env #[iN]=eval o X.env:=by rfl) (b:#[dj]=true:=by rfl):PE X (.Call #[qk] [] [] lD) (ab6 X.K T r to):=by intro pins s e H Q I h;refine wpAny_Call_method0_late a b (da #[ef] λv k d=> ?_);let(x,l,f,g,ty,m):=62 d;let(n,p):=20 (ad5 f g ty);exact(T,id,i,slot,c,n,p,Calls.callWith_builtin rfl (PySem.evalArgs_none (hm pins k e l x [] v [] Q f g .nil m)))
def hR(n:PlainAttrs T)(slot:Slot T name id)(f:typeOf #[e2]=pure #[os])(hm:MtR X id r)(p:PE X o to)(q:PA X (e::es) t) (b:oI o name X.env #[iN]=eval o X.env:=by rfl) (d:((jS lD #[me]).all (λx=> !x.1)&&#[j4].all (λx=>x.1.isSome)
   &&decide ((e::es).length+#[t0].length+#[dN]<30))=true:=by rfl)
  (c:#[dj]=true:=by rfl) (hs:bV (e::es) X.env=#[A]::bV es X.env:=by rfl) (a:#[jS].any (·.1)=false:=by rfl):
  PE X (.Call #[qk] (e::es) [] lD) (tBM X.K T r to t):=by
 rw[1985];refine wpAny_Call_method_late b d c rfl (da #[CX,p] λv u i=> ?_);let(x,w,k,l,ty,y):=62 i;let(z,A):=20 (ad5 k l ty);refine(T,id,n,slot,f,z,A,?_);have m:=q lD pins u g w _ k y;rw[hs]at m ⊢;refine Calls.callWith_builtin (by show(false||(jS lD (bV es X.env)).any (·.1))=false;rw[a]<;>rfl) (Calls.evalArgs_plain ?_)
 exact da m λus B j=>e2_2 j λvs C D E F=>hm pins B g C x vs v us Q D l E F
#where
#print L2
namespace L2
open PySem PySem.Spec PyProof.Rows
abbrev MtM(X:Cx)(id:String)(r:V->List V->Hp->VK->Prop):Prop:=∀(pins:List (ae×Obj)) (s:aL) (a:St) (H:Hp) (x:V) (xs:List V) (v:ax) (us:List ax) (Q:VK),Inv X pins a H s->RelV x v->Vals xs us->r x xs H Q->bF #[g] X.A #[s4] #[cL] X.xe s
def Vals.one:∀{x:V} {us:List ax},Vals [x] us->∃u,us=[u]/\RelV x u:=by
 intro x us h;cases h with
 |cons r t=>cases t;exact #[Ar]
def Vals.two:∀{x y:V} {us:List ax},Vals [x,y] us->∃u v,us=[u,v]/\RelV x u/\RelV y v:=by
 intro x y us h;cases h with
 |cons r t=>let(v,e,q):=21 (Vals.one t);exact(_,v,by rw[e],r,q)
def Vals.zero:∀{us:List ax},Vals [] us->us=[]
 |_,.nil=>rfl
def Vals.eraseIdx:∀{xs:List V} {us:List ax} (i:Nat),Vals xs us->Vals (xs.eraseIdx i) (us.eraseIdx i)
 |_,_,_,.nil=> .nil
 |_,_,0,.cons _ t=>t
 |_,_,i+1,.cons r t=> .cons r (Vals.eraseIdx i t)
def Vals.reverse{xs:List V}{us:List ax}(h:Vals xs us):Vals xs.reverse us.reverse:=by
 induction h with
 |nil=>exact .nil
 |cons r t a=>rw[HR,HR];exact Vals.append a #[Ag]
def UO{a:Type}:∀(l:List a) (i:Nat),(l.eraseIdx i).length<=l.length
 |[],_=>be _
 |_::_,0=>qW _
 |_::r,i+1=>Nat.succ_le_succ (UO r i)
section
variable {X:Cx}{pins:List (ae×Obj)}{σ:St}{H:Hp}{s:aL}{l b:ae}{xs ys zs:List V}
def Inv.SY{a its':List ax}{n:Nat}{f:Array ax->Array ax}{t':Nat}(I:Inv X pins σ H s)(b:H l=some #[ai]) (e:s.heap.get? l=some {cls:= .type "list",data:= .seq a.toArray n}) (c:f a.toArray=its'.toArray) (d:Vals ys its') (hz:ys.length<=aS):Inv X pins σ #[x1] {s with heap:=s.heap.update l #[zZ],toks:=t'}:=by have q:=PySem.IsL.update e f;rw[c]at q;refine I.write (x:=l) (e:=l) (by rw[b];exact trivial) #[ay] (λi u g h=>(Heap.get?_update_other s.heap #[zZ] #[Cs,g]).trans h) (_,q) ?_;exact(hz,its',_,d,q)
def Inv.aoi{a:List ax}{t':Nat}(I:Inv X pins σ H s)(b:Vals ys a)(hz:ys.length<=aS):Inv X pins σ (upd H s.heap.objs.size #[pP]) {s with heap:=s.heap.push {cls:= .type "list",data:= .seq a.toArray},toks:=t'}:=I.laid (λ_ _ q=>Heap.get?_push_of_some _ q) #[gw] (hz,a,0,b,Heap.get?_push_size _ rfl)
def Inv.fresh(I:Inv X pins σ H s):H s.heap.objs.size=none:=I.cQ.fresh #[gw]
def Inv.JX(I:Inv X pins σ H s)(c:H l=some #[ai]):xs.length<=aS/\∃(a:List ax) (n:Nat),Vals xs a/\xs.length=a.length/\s.heap.get? l=some {cls:= .type "list",data:= .seq a.toArray n}:=by
 (let(z,b):=20 (I.cQ l _ c);let(a,n,r,e):=22 b)
 exact(z,a,n,r,r.length,e)
def Xh{n:Nat}(h:n<=aS):Builtin.List.listTooLong n=false:=by unfold Builtin.List.listTooLong;exact aV #[f]
#where
section
variable {X:Cx}
abbrev Jf:V->List V->Hp->VK->Prop:=λx vs H Q=>∃l xs y,x= .ref l/\vs=[y]/\H l=some #[ai]/\xs.length<aS/\Q .cG #[x3]
def fE:MtM X "list.append" Jf:=by
 intro pins s i H x vs v us Q I d f h;let(l,xs,y,rfl,rfl,c,hz,q):=83 h;cases d;let(u,rfl,g):=21 (f.one)
 (let(z,b):=20 (I.JX c);let(a,n,r,j,e):=42 b)
 refine BN F.slot_list_append #[fZ] F.entry_list_append (F.args_list_append_2 _ _) (PySem.list_append l a.toArray n u #[hR]) #[sI];refine(.cG,_,I.SY (its':=a++[u]) c e #[p] (r.append (.cons g .nil)) ?_,rfl,q);rw[aM,List.length_singleton]
 lia
abbrev SZ:V->List V->Hp->VK->Prop:=λx vs H Q=>∃l b xs a,x= .ref l/\vs=#[y9]/\H l=some #[ai]/\H b=some #[z8]/\xs.length+a.length<=aS/\Q .cG #[eO]
def Dq:MtM X "list.extend" SZ:=by
 intro pins s y H x vs v us Q I i j h
 (let(l,b,xs,A,c):=4 h;let(rfl,rfl,g,k,hz,q):=100 c)
 cases i;let(u,rfl,m):=21 (j.one);cases m
 (let(z,c):=20 (I.JX g);let(d,n,r,B,e):=42 c)
 (let(z2,c):=20 (I.JX k);let(a,o,p,t,w):=42 c)
 have hsz:d.toArray.size+a.toArray.size<=aS:=by rw[bI,bI];lia
 have f:¬#[dc]=true:=by rw[Xh hsz,fJ];exact cA
 refine BN F.slot_list_extend #[fZ] F.entry_list_extend #[oU] (AutoSeq1.list_extend_list_list_0 l d.toArray n b a.toArray o f #[hR] #[f]) (e,w,?_);refine(.cG,_,I.SY (its':=d++a) g e #[p] (r.append p) ?_,rfl,q);rw[aM]
 lia
abbrev ad6:V->List V->Hp->VK->Prop:=λx vs H Q=>∃l xs i k y,x= .ref l/\vs=[.int i]/\H l=some #[ai]/\-(2^63)<=i/\i<2^63/\Ia i xs.length=some k/\xs[k]?=some y/\Q y #[lC]
def ags:MtM X "list.pop" ad6:=by
 intro pins s C H x vs v us Q I f g h
 (let(l,xs,i,k,y,b):=5 h;let(rfl,rfl,d,j,m,o,p,q):=140 b)
 cases f;let(u,rfl,A):=21 (g.one);let(t,rfl):=1 A
 (let(z,b):=20 (I.JX d);let(a,n,r,B,e):=42 b)
 let(w,hw,c):=21 (r.get p);refine BN F.slot_list_pop #[fZ] F.entry_list_pop (F.args_list_pop_2 _ _) (MeetsSeq.list_pop_at l a.toArray n i t k w (fitsIndex_both j m) (by rw[bI,<-B];exact o) (by rw[<-LD];exact hw) #[hR]) #[sI];refine(y,_,I.SY (its':=a.eraseIdx k) d e ?_ (r.eraseIdx k) ?_,c,q)
 ·show a.toArray.eraseIdxIfInBounds k=(a.eraseIdx k).toArray;rw[List.eraseIdxIfInBounds_toArray]
 ·have:=UO xs k
  lia
abbrev B6:V->List V->Hp->VK->Prop:=λx vs H Q=>∃l xs,x= .ref l/\vs=[]/\H l=some #[ai]/\Q .cG #[x2]
def QV:MtM X "list.reverse" B6:=by
 intro pins s i H x vs v us Q I f g h;let(l,xs,rfl,rfl,d,q):=62 h;cases f;have b:=g.zero;subst b
 (let(z,c):=20 (I.JX d);let(a,n,r,j,e):=42 c)
 refine BN F.slot_list_reverse #[fZ] F.entry_list_reverse (F.args_list_reverse_1 _) (AutoSeq1.list_reverse_list_0 l a.toArray n #[hR]) #[sI];refine(.cG,_,I.SY (its':=a.reverse) d e #[p] r.reverse ?_,rfl,q);rw[fK]
 lia
abbrev akf:R2:=λx y H Q=>∃l b xs a,x= .ref l/\y= .ref b/\H l=some #[ai]/\H b=some #[z8]/\xs.length+a.length<=aS/\∀p,H p=none->Q #[aI] #[p3]
def LX:pY X #[vC] akf:=by
 intro pins s t H x y v u Q I f g h
 (let(l,b,xs,w,a):=4 h;let(rfl,rfl,i,j,hz,q):=100 a)
 cases f;cases g
 (let(z,a):=20 (I.JX i);let(d,n,r,A,e):=42 a)
 (let(z2,a):=20 (I.JX j);let(c,B,k,m,o):=42 a)
 refine PySem.P.add_list e o ?_ (by rw[bI,bI];lia);have p:d.toArray++c.toArray=(d++c).toArray:=by simp
 rw[p];exact(.ref _,_,I.aoi (t':=s.toks) (r.append k) (by rw[aM];lia),rfl,q _ I.fresh)
#where
section
variable {prog:cj}{w:cY}{A:dE}{E:ax->aL->Prop}{s:aL}
#where
section
variable {X:Cx}
#where
#print L2
namespace L2
open PySem PySem.Spec PyProof.Rows
def Vals.bls:∀{bs:List Bool} {us:List ax},Vals #[sh] us->us=bs.map Value.bool
 |[],us,h=>by rw[K1]at h;rw[1914];rfl
 |b::bs,us,h=>by
  rw[cB]at h;cases h with
  |cons r t=>cases r;rw[Vals.bls t,cB]
def Vals.agt{a:ae}{us:List ax}(r:Vals #[vj] us):us=[Value.ref a]:=by
 cases r with
 |cons r t=>cases t;cases r;rfl
section
variable {prog:cj}{w:cY}{A:dE}{E:ax->aL->Prop}{s:aL}{l:ae}{its:List ax}{ns:List Int}{Q:ax->aL->Prop}
#where
section
variable {X:Cx}
#where
section
variable {X:Cx}
#where
section
variable {X:Cx}
#where
def Xi{prog:cj}{w:cY}{A:dE}{E:ax->aL->Prop}{s:aL}{l:ae}{items:Array ax}{Q:ax->aL->Prop}(b:s.heap.IsList l items) (h:∀a:aL,a={s with heap:=s.heap.push {cls:= .type "list_iterator",data:= .fields #[.ref l,.int 0 0]}}->(a.heap.IsListIter s.heap.objs.size l 0/\a.heap.IsList l items)->l≠s.heap.objs.size->Q #[bt] a):bF #[au] A (pyIter #[co]) Q E s:=by
 have c:l<s.heap.objs.size:=by let(_,e,_):=21 b;rw[1896]
 exact wpAny_pyIter_list b (h _ rfl ((_,Heap.get?_push_size _ rfl,rfl,rfl),b.push _) (gj c))
def OC{prog:cj}{w:cY}{A:dE}{bs:List Bool}{a:List ax}(e:a=bs.map Value.bool):TruthOf prog w A (λi v=>a.toArray[i]?=some v) (λi=>bs.getD i false):=λi v s Q E f g=>by
 have c:a[i]?=some v:=by simpa using f
 rw[e,bz]at c;let(b,h,rfl):=21 (dX.mp c);have j:bs.getD i false=b:=by rw[ei,h]<;>rfl
 have d:Q (bs.getD i false) s:=g;rw[j]at d;exact eY d
def any_range:∀bs:List Bool,#[zI].any (λi=>bs.getD i false)=bs.any id
 |[]=>rfl
 |b::bs=>by
  rw[ak,BD,nI,List.any_map,nI,<-any_range bs]
  all_goals rfl
def all_range:∀bs:List Bool,#[zI].all (λi=>bs.getD i false)=bs.all id
 |[]=>rfl
 |b::bs=>by
  rw[ak,BD,I0,vF,I0,<-all_range bs]
  all_goals rfl
section
variable {X:Cx}
abbrev aoj(K:aA):List V->Hp->VK->Prop:=λvs H Q=>∃(a:ae) (bs:List Bool),vs=#[vj]/\a8 K H a #[sh]/\Q (.bl (bs.any id)) H
abbrev uf(K:aA):List V->Hp->VK->Prop:=λvs H Q=>∃(a:ae) (bs:List Bool),vs=#[vj]/\a8 K H a #[sh]/\Q (.bl (bs.all id)) H
def akh(j:X.calm=true):Hh X (.builtin "any") (aoj X.K):=by
 rw[2045];rw[2038];rw[2055];rw[2143];have f:=k.bls;refine call_any_walk #[mi];subst m;refine #[bY];refine #[cM]
 ·rcases b7.mp c with p|c
  ·rw[2106]
  ·cases c
 ·show Value.bool _=Value.bool _;rw[<-any_range,f,bI,aD]
def ad7(j:X.calm=true):Hh X (.builtin "all") (uf X.K):=by
 rw[2045];rw[2038];rw[2055];rw[2143];have f:=k.bls;refine call_all_walk #[mi];subst m;refine #[bY];refine #[cM]
 ·rcases b7.mp c with p|c
  ·rw[2106]
  ·cases c
 ·show Value.bool _=Value.bool _;rw[<-all_range,f,bI,aD]
#where
section
variable {X:Cx}{pins:List (ae×Obj)}{σ:St}{H:Hp}{s:aL}
#where
section
variable {X:Cx}
#where
#print L2
namespace L2
open PySem PySem.Spec PyProof.Rows
nonrec abbrev ad8 (h:cZ) (c:ae) (v:Option ax):Prop:=h.IsCell c v
abbrev aok(a sc:lS):lS:={a with names:=a.names.map λ((n),k)=>if(k== .free&&sc.kind== .function&&sc.names.lookup n==some .cell)then((n),.cell)else((n),k)}
abbrev jr(cells:List #[bK]):List (Str×mQ)->List #[bK]->List #[bK]
 |[],acc=>acc
 |((n),k)::r,acc=>if k== .free then jr cells r (#[oc]::acc)else jr cells r acc
def LY(env:Env)(f:Str×mQ->List #[bK]->Sem (ForInStep (List #[bK]))) (d:∀n k c,f ((n),k) c=if k== .free then(do let a<-cellOf env n;pure (.yield (((n),a)::c)))else pure (.yield c)):∀(names:List (Str×mQ)) (acc:List (Str×ae)),(∀y∈names,y.2= .free->∃c,env.cells.lookup y.1=some c)->forIn names acc f=pure (jr env.cells names acc)
 |[],acc,_=>by rw[List.forIn_nil];rfl
 |((n),k)::r,acc,h=>by
  rw[List.forIn_cons,d];have g:=λacc=>LY env f d r acc λy j=>h y (a9 _ j);unfold jr;by_cases b:(k==NameKind.free)=true
  ·rw[aq b,aq b];let(c,i):=1 (h ((n),k) bg #[ic]);have e:cellOf env n=pure c:=by unfold cellOf;rw[i]
   rw[e];have l:(env.cells.lookup n).getD 0=c:=by rw[i];rfl
   rw[l];exact g _
  ·rw[am b,am b];exact g _
def ab7{a:lS}{env:Env}(h:∀y∈a.names,y.2= .free->∃c,env.cells.lookup y.1=some c):closureFor a env=pure (jr env.cells a.names []):=by simp only[closureFor];rw[LY env _ (λn k c=>rfl) a.names [] h];rfl
def mem_lookup{a:Type}:∀{l:List (Str×a)} {n:Str} {c:a},((n),c)∈l->∃b,l.lookup n=some b
 |((k),v)::r,n,c,h=>by
  rw[ro];cases d:n==k with
  |true=>exact #[O]
  |false=>
   rw[1979]
   ·rw[2048];simp at d
   ·exact mem_lookup h
def C0{cells:List #[bK]}:∀{names:List (Str×mQ)} {acc:List (Str×ae)} {n:Str} {c:ae},((n),c)∈jr cells names acc->((n),c)∈acc\/(((n),.free)∈names/\c=(cells.lookup n).getD 0)
 |[],_,_,_,h=> .inl h
 |((m),k)::r,acc,n,c,h=>by
  unfold jr at h;split at h
  ·rename_i a;have a:k= .free:=by simpa using a
   rcases C0 h with h|⟨b,d⟩
   ·rcases b7.mp h with e|h
    ·rw[2048];exact .inr (a▸bg,rfl)
    ·rw[2061]
   ·exact .inr #[y7]
  ·rcases C0 h with h|⟨b,d⟩
   ·rw[2061]
   ·exact .inr #[y7]
def Ie{cells:List #[bK]}:∀{names:List (Str×mQ)} {acc:List (Str×ae)} {p:Str×ae},p∈acc->p∈jr cells names acc
 |[],_,_,h=>h
 |((m),k)::r,acc,p,h=>by
  unfold jr;split
  ·exact Ie #[zT]
  ·exact Ie h
def Ig{cells:List #[bK]}:∀{names:List (Str×mQ)} {acc:List (Str×ae)} {n:Str},((n),.free)∈names->#[oc]∈jr cells names acc
 |((m),k)::r,acc,n,h=>by
  unfold jr;rw[1979]
  ·rw[2048];exact Ie bg
  ·split
   ·exact Ig h
   ·exact Ig h
def Dr:∀{names:List (Str×mQ)} {h:cZ} {acc:List (Str×ae)} {x:Str} {c:ae},((x),c)∈gv h.objs.size names acc->((x),c)∈acc\/(((x),.cell)∈names/\h.objs.size<=c/\ad8 (xP h names) c none)
 |[],_,_,_,_,h=> .inl h
 |((n),k)::r,h,acc,x,c,hm=>by
  unfold gv at hm;unfold xP;split at hm
  ·rename_i a;rw[aq a];have a:k= .cell:=by simpa using a
   rw[<-Heap.size_push h {cls:= .type "cell",data:= .cell none}]at hm;rcases Dr hm with hm|⟨d,b,f⟩
   ·rcases b7.mp hm with e|hm
    ·rw[2048];exact .inr (a▸bg,be _,_,BM r _ _ _ (Heap.get?_push_size _ rfl),rfl)
    ·exact .inl hm
   ·rw[Heap.size_push]at b;exact .inr (a9 _ d,BE b,f)
  ·rename_i a;rw[am a];rcases Dr hm with hm|⟨d,b,f⟩
   ·exact .inl hm
   ·exact .inr (a9 _ d,b,f)
def Hm:∀{names:List (Str×mQ)} {n:Nat} {acc:List (Str×ae)} {p:Str×ae},p∈acc->p∈gv n names acc
 |[],_,_,_,h=>h
 |((m),k)::r,n,acc,p,h=>by
  unfold gv;split
  ·exact Hm #[zT]
  ·exact Hm h
def LZ:∀{names:List (Str×mQ)} {n:Nat} {acc:List (Str×ae)} {x:Str},((x),.cell)∈names->∃c,((x),c)∈gv n names acc
 |((m),k)::r,n,acc,x,h=>by
  unfold gv;rw[1979]
  ·rw[2048];exact(n,Hm bg)
  ·split
   ·exact LZ h
   ·exact LZ h
def L0:∀{names:List (Str×mQ)} {h:cZ} {acc:List (Str×ae)} {x y:Str} {c:ae},(∀p∈acc,p.2<h.objs.size)->(∀x y c,((x),c)∈acc->((y),c)∈acc->x=y)->((x),c)∈gv h.objs.size names acc->((y),c)∈gv h.objs.size names acc->x=y
 |[],_,_,_,_,_,_,g,f,d=>g _ _ _ f d
 |((n),k)::r,h,acc,x,y,c,i,g,f,d=>by
  unfold gv at f d;split at f
  ·rename_i j;rw[aq j]at d;rw[<-Heap.size_push h {cls:= .type "cell",data:= .cell none}]at f d;refine L0 (h:=h.push _) (λp l=> ?_) (λx y c a b=> ?_) f d
   ·rw[Heap.size_push];rcases b7.mp l with rfl|l
    ·exact yn _
    ·exact HS (i p l)
   ·rcases b7.mp a with e|a<;>rcases b7.mp b with m|b
    ·rw[2048];cases m;rfl
    ·rw[2048];exact absurd (i _ b) #[ye]
    ·cases m;exact absurd (i _ a) #[ye]
    ·exact g _ _ _ a b
  ·rename_i j;rw[am j]at d;exact L0 i g f d
def ZJ{M:Model}{A:dE}{E:ax->aL->Prop}{s:aL}{a:lS}{e:ae}{b:List #[bK]}{g:Str}{i:Option ae}{code:ax}{f:Env}{d:ae}{Q:Env->aL->Prop} (h:Q (newEnv a s.heap.objs.size e (gv #[t] a.names b) g i code (some f) d) {s with heap:=xP #[K] a.names}):bF M A (newFunctionEnv a e b [] g i code (some f) d) Q E s:=by simp only[newFunctionEnv,Qu,FH];refine aX (wpAny_alloc ?_);refine aX (wpAny_layCells _ (λn k c=>rfl) a.names b _ _ ?_);rw[show({s with heap:=s.heap.push {cls:= .type "dict",data:= .dict #[]}}:aL).heap.objs.size=s.heap.objs.size+1 from Heap.size_push ..];rw[List.forIn_nil];exact aX (bA (bA h))
def Ih{sc:lS}:∀{names:List (Str×mQ)} {x:Str} {k:mQ},(names.map λ((n),k)=>if(k==NameKind.free&&sc.kind== .function&&sc.names.lookup n==some .cell)then #[vL]else((n),k)).lookup x=some k->∃d,names.lookup x=some d/\(k=d\/(d= .free/\k= .cell))
 |[],_,_,h=>by simp at h
 |((n),a)::r,x,k,h=>by
  have e:= @Ih sc r x k;have h':qV x ((if #[aY]=true then #[vL]else((n),a))::(r.map _))=some k:=h;cases c:x==n with
  |true=>
   simp only[ro,c];rw[2152]
   ·rw[aq b]at h';rw[1952];cases h';simp only[bK,beq_iff_eq]at b;exact(a,rfl,.inr (b.1.1,rfl))
   ·rw[am b]at h';rw[1952];cases h';exact(_,rfl,.inl rfl)
  |false=>
   simp only[ro,c];rw[2152]
   ·rw[aq b]at h';rw[1952];exact e h'
   ·rw[am b]at h';rw[1952];exact e h'
structure QW(N:List Str)(sc scope:lS)(own:List #[kN]):Prop where
 kind:scope.kind= .function
 uniq:∀y∈scope.names,scope.names.lookup y.1=some y.2
 ix:∀p∈own,N[p.2]?=some p.1
 free:∀y∈scope.names,y.2= .free->sc.names.lookup y.1=some .cell\/sc.names.lookup y.1=some .free
 own:∀y∈scope.names,y.2= .local\/y.2= .cell->y.1∈own.map (·.1)\/y.1∉N
abbrev wipe(a:St):List Nat->St
 |[]=>a
 |v::vs=>#[qu].set v none
def Ii(a:St):∀vs:List Nat,#[qu].length=a.length
 |[]=>rfl
 |v::vs=>by unfold wipe;rw[Er,Ii a vs]
def L1{a:St}{i:Nat}{x:V}:∀{vs:List Nat},#[qu][i]?=some #[zh]->a[i]?=some #[zh]/\i∉vs
 |[],h=>(h,by simp)
 |v::vs,h=>by
  unfold wipe at h;by_cases b:v=i
  ·subst b;by_cases c:v<#[qu].length
   ·rw[Bz c]at h;rw[1914]
   ·rw[eT #[fA]]at h;rw[1914]
  ·rw[DM b]at h;let(d,f):=20 (L1 h);exact(d,by simp only[b7,not_or];exact(λe=>b e.symm,f))
nonrec abbrev Cx.AC (X:Cx) (s:aL) (H:Hp) (a:lS) (b:Env) (c:List ae):Cx:={X with pW:=s,LK:=H,env:=b,outer:=X.stack,ex:=c,fn:=λx=>a.names.lookup x==some .cell,pn:=[],xe:=λ_ _=>False}
section
variable {X:Cx}{pins:List (ae×Obj)}{σ:St}{H:Hp}{s:aL}
def ZK{d:lS}{own:List #[kN]}{T:List ae}(I:Inv X pins σ H s)(ok:QW X.N X.env.scope d own)(hN:X.N.Nodup)(l:∀b∈T,DX X pins H b/\b<s.heap.objs.size):Inv (X.AC s H d (qy d #[qF] s.heap.objs.size X.env) T) [] (wipe σ (own.map (·.2))) H {s with heap:=xP #[K] d.names}:=by
 have F:∀y∈d.names,y.2= .free->∃c,X.env.cells.lookup y.1=some c:=λy v e=>by
  rcases ok.free y v e with k|k
  ·rw[2136]
  ·rw[2137]
 generalize g:qy d #[qF] s.heap.objs.size X.env=f;have kp:∀b o,s.heap.get? b=some o->#[vp].get? b=some o:=λb o e=>BM _ _ _ _ #[nZ];have Q:f.locals=s.heap.objs.size:=by rw[<-g];rfl
 have j:f.cells=gv #[t] d.names #[g4]:=by rw[<-g];rfl
 have G:f.scope=aok d X.env.scope:=by rw[<-g];rfl
 rw[<-Heap.size_push s.heap {cls:= .type "dict",data:= .dict #[]}]at j;have M:∀{y c},((y),c)∈jr X.env.cells d.names []->X.env.cells.lookup y=some c/\c<s.heap.objs.size:=λ{y c} hm=>by
  rcases C0 hm with hm|⟨h,rfl⟩
  ·cases hm
  ·let(c,Y):=1 (F _ h rfl);rw[Y];let(w,z):=1 (I.cell _ _ Y);exact(rfl,z.lt)
 have mem:∀{y c},f.cells.lookup y=some c->(X.env.cells.lookup y=some c/\c<s.heap.objs.size)\/(s.heap.objs.size+1<=c/\ad8 #[vp] c none):=λ{y c} e=>by
  rw[j]at e;rcases Dr (PySem.mem_of_lookup e)with hm|⟨_,x,h3⟩
  ·exact .inl (M hm)
  ·rw[2122];exact .inr (x,h3)
 have look:∀{y},d.names.lookup y=some .free->∃c,f.cells.lookup y=some c/\X.env.cells.lookup y=some c:=λ{y} R=>by
  have v:((y),NameKind.free)∈d.names:=PySem.mem_of_lookup R;let(S,t):=1 (mem_lookup (Hm (names:=d.names) (n:=#[K].objs.size) (Ig (cells:=X.env.cells) (acc:=[]) v)));rw[<-j]at t;refine(S,t,?_);rw[j]at t;rcases Dr (PySem.mem_of_lookup t)with hm|⟨h,_,_⟩
  ·exact(M hm).1
  ·have:=ok.uniq _ h;rw[R]at this;rw[1908]
 have U:(X.AC s H d f T).Ok:=by
  refine(I.ok.mod,by show f.scope.kind=_;rw[G];exact ok.kind,by show f.globals=_;rw[<-g];exact I.ok.glob,by show f.builtins=_;rw[<-g];exact I.ok.blt,by show s.heap.objs.size<=f.locals;rw[Q];exact be _,
   λy z c B C=> ?_,λy v=> ?_,λy c z e=> ?_,I.ok.hd,I.ok.frames,.inl rfl,λb D=>(?_,λy c e z=> ?_),I.bs,dk I.ok.LL I.sz,λb o e D=> ?_,λb D z=> ?_,I.stack,I.SM)
  ·have B:f.cells.lookup y=some c:=B;have C:f.cells.lookup z=some c:=C;rw[j]at B C;refine L0 (λp L=> ?_) (λy z c a b=>I.ok.inj y z c (M a).1 (M b).1) #[Cg,B] #[Cg,C];rw[Heap.size_push];exact HS (M (y:=p.1) (c:=p.2) L).2
  ·show∃c,f.cells.lookup y=some c;have key:∀k,f.kindOf y=some k->(k= .cell\/k= .free)->∃c,f.cells.lookup y=some c:=λk J K=>by
    unfold Env.kindOf at J;rw[G]at J;rw[2066];have:E= .cell\/E= .free:=by
     rcases r with rfl|⟨rfl,_⟩
     ·exact K
     ·exact .inr rfl
    rcases this with rfl|rfl
    ·let(c,hm):=1 (LZ (n:=#[K].objs.size) (acc:=jr X.env.cells d.names []) #[Cg,e]);let(S,t):=1 (mem_lookup hm);exact(S,by rw[j];exact t)
    ·let(c,h,_):=21 (look e);exact(c,h)
   rcases v with v|v
   ·exact key _ v #[ay]
   ·exact key _ v #[fR]
  ·have z:(d.names.lookup y==some NameKind.cell)=true:=z;have z:d.names.lookup y=some .cell:=by simpa using z
   rw[1909];rw[j]at e;rcases Dr (PySem.mem_of_lookup e)with hm|⟨_,x,_⟩
   ·rcases C0 hm with hm|⟨h,_⟩
    ·cases hm
    ·have q:=ok.uniq _ h;rw[z]at q;rw[2090]
   ·rw[2122];exact BE x
  ·show b≠f.locals;rw[Q];exact gj #[yg].2
  ·rw[1909];rcases mem e with⟨h,_⟩|⟨h,_⟩
   ·exact #[yg].1.2.2.2.2.1 y c h z
   ·have x:s.heap.objs.size+1<=b:=by rw[<-z];exact h
    exact absurd (dj #[yg].2 (BE x)) #[ye]
  ·rcases(l b D).1.2.2.2.1 with z|z
   ·exact I.ok.O7 b o e z
   ·exact absurd (dj #[a7] (dk I.ok.LL z)) #[ye]
  ·rcases b7.mp (I.WX b z)with z|z
   ·exact #[yg].1.2.1 z
   ·exact #[yg].1.2.2.1 z
 refine(U,rfl,I.bare,Un.kept kp,(λ_=>none,?_,λi y av B C u=> ?_),λy c e=> ?_,?_,λy c e=> ?_,λp L=> ?_,I.cQ.kept kp,by rw[Ii];exact I.len)
 ·show Heap.Ns _ f.locals _;rw[Q];exact Heap.Ns.keeps (Heap.Ns.new ..) λb o e=>BM _ _ _ _ e
 ·let(C,V):=20 (L1 C);have A:d.names.lookup y=some .free/\#[hl]:=by
   have key:∀k,f.scope.names.lookup y=some k->k= .local\/k= .cell\/k= .free->d.names.lookup y=some .free/\#[hl]:=λk J K=>by
    have O:=J;rw[G]at J;rw[2066];have Z:¬(E= .local\/E= .cell):=λhh=>by
     rcases ok.own _ (PySem.mem_of_lookup e) hh with t|t
     ·let(p,L,W):=21 (ci.mp t);have u:=ok.ix p L;have:p.1=y:=W;rw[this]at u;exact V (ci.mpr (p,L,O9 hN u B))
     ·exact t (bO B)
    rcases r with rfl|⟨rfl,rfl⟩
    ·rcases K with rfl|rfl|rfl
     ·exact absurd #[ay] Z
     ·exact absurd #[fR] Z
     ·exact(e,.inr O)
    ·exact(e,.inl O)
   have u:WU f.scope y:=u;rcases u with u|u|u
   ·exact key _ u #[ay]
   ·exact key _ u #[uz]
   ·exact key _ u #[uy]
  let(m,hn,R):=21 #[ws];have P:WU X.env.scope y:=(ok.free _ #[Cg,A.1] rfl).elim (λk=> .inr #[Ae]) (λk=> .inr #[Ac]);let(w,r,q):=21 (R i y av B C P);refine(w,r,.inr (A.2,?_));let(c,h,x):=21 (look A.1);rcases q with⟨k,_⟩|⟨_,S,t,z⟩
  ·have k:X.env.scope.names.lookup y=some .local:=k;rcases ok.free _ (PySem.mem_of_lookup A.1) rfl with E|E<;>rw[show X.env.scope.names.lookup y=_ from E]at k<;>cases k
  ·rw[x]at t;cases t;exact(c,h,z.keeps kp)
 ·rw[1909];rcases mem e with⟨h,_⟩|⟨_,z⟩
  ·let(w,z):=1 (I.cell y c h);exact(w,z.keeps kp)
  ·exact(_,z)
 ·show H f.locals=none;rw[Q];exact I.cQ.fresh #[gw]
 ·rw[1909];rcases mem e with⟨h,_⟩|⟨h,_⟩
  ·exact I.sM y c h
  ·exact I.cQ.fresh (BE h)
 ·exact absurd (show p∈#[q1]++[]from L) #[p]
def aki{E:ax->aL->Prop}{D:ae}{xs:List V}{y:V}{v:ax}{Q:ax->aL->Prop}(I:Inv X pins σ H s)(f:H D=some #[ai])(hz:xs.length<aS)(r:RelV y v) (h:∀s',Inv X pins σ (upd H D #[jG]) s'->Q .none s'):bF #[g] X.A (call #[qh] [.ref D,v]) Q E s:=by
 (let(i,c):=20 (I.cQ D _ f);let(d,n,g,e):=22 c)
 have l:=g.length;refine append_at (hsz:=by rw[bI];lia) e λh' j a=> ?_;refine h {s with heap:=h'} (I.write (t':=s.toks) (by rw[f];trivial) #[ay] (λb u k q=>(j.2 b k).trans q) (_,a) (by rw[aM];exact hz,d++[v],n+1,g.append #[Ag],?_));rw[a];simp
abbrev PTs(X:Cx)(a:List cz)(t:TT):Prop:=∀(pins:List (ae×Obj)) (s:aL) (σ:St) (H:Hp) (Q:Bool->Hp->Prop),Inv X pins σ H s->t σ H Q->bF #[g] X.A (forIn a true λc r=>if r=true then do let ok<-isTrue c X.env (eval c X.env);pure #[tg]else pure #[ui]) (TP X pins σ Q) X.xe s
abbrev Ph:TT:=λ_ H Q=>Q true H
def Fv:PTs X [] Ph:=λ_ _ _ H _ I h=>wpAny_tests_nil (H,I,h)
def aiP{c:cz}{t:TT}(h:PT X c t):PTs X [c] t:=λpins s a H Q I hw=>wpAny_tests_one (h pins s a H Q I hw)
#where
def S0{b:Type}{t:Sem b}{Q Q':b->aL->Prop}{M:Model}{A:dE}{E:ax->aL->Prop}{s:aL}(h:bF M A t Q (λ_ _=>False) s)(c:∀a s,Q a s->Q' a s):bF M A t Q' E s:=jR h c λ_ _ z=>False.elim z
def Xj{prog:cj}{w:cY}{A:dE}{R:Result->aL->Prop}{s:aL}{q a i:cz}{t:List cz}{b:lS}{y:Pos}{it acc:ax}{env:Env}(I:Nat->aL->Prop) (z:∀n s,I n s->bF #[au] A (pyNext it) (λr d=>match r with
   |none=>R (.ok .next) d
   |some v=>bF #[au] A (BL a it v) (λ_ f=>bF #[au] A (assign a env v) (λ_ j=>
     bF #[au] A (forIn t true λc r=>if r=true then do let ok<-isTrue c env #[C0,c];pure #[tg]else pure #[ui]) (λok g=>
      if ok=true then bF #[au] A #[C0,q] (λx k=>
       bF #[au] A (call #[qh] [acc,x]) (λ_ l=>∃m,m<n/\I m l) #[E] k) #[E] g
      else∃m,m<n/\I m g) #[E] j) #[E] f) #[E] d) #[E] s)
  (n:Nat) (h:I n s):
  FF #[au] A (.compLoop #[lt] 0 it acc env) R s:=by
 refine codeAny_loop rfl I (λn s E=> ?_) n h;show bF _ A ((compTurn #[lt] 0 it acc env).onRaise (λx=>do noteFrame x env;theTreesLotGoes x)) _ _ s;refine wpAny_noted ?_;rw[compTurn_list];refine aX (wpAny_standAt (aX (jR (z n s E) (λr d o=> ?_) λ_ _ h'=>h')));cases r with
 |none=>exact bA o
 |some v=>
  refine aX (jR o (λ_ f u=> ?_) λ_ _ h'=>h');refine aX (jR u (λ_ j B=>aX (jR B (λok g p=> ?_) λ_ _ h'=>h')) λ_ _ h'=>h');cases ok with
  |false=>exact bA (rfl,p)
  |true=>exact aX (aX (jR p (λx k C=>aX (jR C (λ_ l D=>bA (bA (rfl,D))) λ_ _ h'=>h')) λ_ _ h'=>h'))
section
variable {X:Cx}
abbrev tLc(k:TI)(g:TG)(tt:TT)(te:TE)(vs:List Nat):TE:=λc H Q=>k c H λJ e=>∀D,e D=none->∃W:Nat->Nat->Hp->Prop,(∃m,W 0 m #[Dt,e])/\∀i m H,W i m H->#[qc]\/(J.go i H/\∃d:Hp->Prop,(∀H',d H'->∃f,f<m/\W (i+1) f H')/\∀x H',J.QI i H x H'->g x (wipe c vs) H' λa l=>wipe a vs=wipe c vs/\tt a l λb h=>
  if b=true then te a h λy j=>∃acc,j D=some #[mG]/\acc.length<aS/\d (upd j D #[gm])else d h)
def abk{pins:List #[H]}{s:aL}{F:St}{H:Hp}{Q:VK}{G tg l:cz}{K:List cz}{a:lS}{own:List #[kN]}{S pos':Pos}{wi:TI}{g:TG}{tt:TT}{te:TE}{use:Option (ax->Sem Unit)}{Qf:ax->aL->Prop} (hc:X.calm=true) (hN:X.N.Nodup) (I:Inv X pins F H s) (hi:PI X tg l wi) (ok:QW X.N X.env.scope a own) (hg:∀(s:aL) (H:Hp) (C:ae) (cl:List (Str×ae)) (d:List ae),PG #[kJ] tg g) (ht:∀(s:aL) (H:Hp) (C:ae) (cl:List (Str×ae)) (d:List ae),PTs #[kJ] K tt) (he:∀(s:aL) (H:Hp) (C:ae) (cl:List (Str×ae)) (d:List ae),PE #[kJ] G te) (hs:∀x,y1 l X.env x=pure x) (h:tLc wi g tt te (own.map (·.2)) F H Q) (hRR:∀D C s' m H',Inv X pins F H' s'->Q #[l0] H'->s'.heap.Ns C m->DX X pins H' C->compPost #[g] X.A X.xe use Qf #[l0] C (.ok .next) s'):bF #[g] X.A (comprehension #[eJ] a X.env pos' (newList []) false (eval l X.env) use) Qf X.xe s:=by
 have U:∀y∈a.names,y.2= .free->∃c,X.env.cells.lookup y.1=some c:=λy hy e=>by
  rcases ok.free y hy e with k|k
  ·rw[2136]
  ·rw[2137]
 refine wpAny_comprehension_free (use:=use) rfl hs (ab7 U) ok.kind (λy hy e=>by rw[ok.uniq y hy,e]) (da (hi pins s F H _ I h) λxv s1 hx=>da hx λitv s2 h2=> ?_)
 (let(it,d,tn,J,O,B):=5 h2;let(e,I2,T,st2,f2,q):=100 B)
 rw[2046];refine lK (ZJ ?_) (by show 0<=aS;decide);generalize hD:s2.heap.objs.size=D;have hDn:O D=none:=I2.cQ.fresh (KZ hD)
 (let(W,B,turn):=21 (q D hDn);let(m0,w0):=1 B)
 generalize hs3:({s2 with heap:=s2.heap.push {cls:= .type "list",data:= .seq #[Dw,ax].toArray}}:aL)=s3;have I3:Inv X pins F #[fM] s3:=by rw[<-hs3];refine I2.laid (t':=s2.toks) (λb o e=>Heap.get?_push_of_some _ e) (KZ hD) (dR _,[],0,.nil,?_);rw[<-hD];rw[2039]
 have h3:s3.heap=s2.heap.push {cls:= .type "list",data:= .seq #[Dw,ax].toArray}:=by rw[<-hs3]
 have sz:∀b∈d,b<s2.heap.objs.size:=λb f=>by let(o,e,_):=21 (T.obj _ _ st2 b f);rw[1896]
 have V:∀b∈d,DX X pins #[fM] b/\b<s3.heap.objs.size:=λb f=>by have FL:=sz b f;refine((?_,(f2 b f).2),by rw[h3,Heap.size_push];exact HS FL);rw[aE (by rw[<-hD];exact gj FL)];exact(f2 b f).1
 have st3:tn 0 s3.heap:=T.keep _ _ _ st2 λb _ o e=>by rw[h3];exact Heap.get?_push_of_some _ e
 have I4:=ZK I3 ok hN V;have pg:=hg s3 #[fM] s3.heap.objs.size #[M] d;have pt:=ht s3 #[fM] s3.heap.objs.size #[M] d;have pe:=he s3 #[fM] s3.heap.objs.size #[M] d;show FF _ _ (.compStart #[eJ] 0 #[gk] #[l0] (qy a #[M] s3.heap.objs.size X.env)) #[fu] {s3 with heap:=xP #[gu] a.names};have nfp:∀b∈d,#[fM] b=none:=λb f=>#[BL].1.1;generalize hce:qy a #[M] s3.heap.objs.size X.env=ce at I4 pg pt pe ⊢;have cL:ce.locals=s3.heap.objs.size:=by subst hce;rfl
 generalize hH3:upd O D #[ar]=L at I3 I4 pg pt pe w0 nfp V;generalize hs4:({s3 with heap:=xP #[gu] a.names}:aL)=s4 at I4 ⊢;have st4:tn 0 s4.heap:=T.keep _ _ _ st3 λb _ o e=>by rw[<-hs4];exact BM _ _ _ _ #[nZ]
 have E:∀{σ':St} {H':Hp} {s':aL},Inv #[cS] [] σ' H' s'->#[kl]->∀b∈d,DX #[cS] [] H' b:=λ{σ' H' s'} I' hn b f=>
  (hn b f,#[yS].1,I'.ok.O8 b f,.inl f,λx c e=>#[yS].2 x c e,λp hp=>absurd (show p∈#[q1]++[]from hp) #[p])
 have P:FF #[g] X.A (.compLoop #[eJ] 0 #[gk] #[l0] ce) #[fu] s4:=by
  refine Xj (λn s'=>∃i H',Inv #[cS] [] (wipe F (own.map (·.2))) H' s'/\tn i s'.heap/\#[kl]/\W i n H') ?_ m0 (0,L,I4,st4,nfp,w0)
  rintro n s5 ⟨i,Y,I5,st5,n5,w5⟩;rcases turn i n Y w5 with⟨stop,qq⟩|⟨go,Nx,hNx,step⟩
  ·have td:=T.done #[cS] rfl rfl rfl hc i [] s5 _ Y (λ_ _=>False) I5 (E I5 n5) st5 stop;refine S0 td λr s6 t=> ?_;let(hr,I6):=20 t;subst hr;have I7:Inv X pins F Y s6:=I3.ahT (ch:=d) I6.os I6.base I6.cQ I6.bare λb f=>(#[BL].1.2.2.2.1,#[BL].1.2.1,#[BL].1.2.2.2.2.1,#[BL].1.2.2.2.2.2);have nC:Y s3.heap.objs.size=none:=by have z:Y ce.locals=none:=I6.free;rw[cL]at z;exact z
   let(m,hn,_):=21 (I6.loc);have hn:s6.heap.Ns ce.locals m:=hn;rw[cL]at hn;exact hRR D s3.heap.objs.size s6 m Y I7 qq hn (I3.SO #[gw] nC)
  ·have ti:=T.item #[cS] rfl rfl rfl hc i [] s5 _ Y (λ_ _=>False) I5 (E I5 n5) st5 go;refine S0 ti λr s6 t=> ?_;let(u,hr,h6):=21 t;subst hr;refine S0 h6 λ_ s7 t=> ?_;let(x,H7,I7,r7,y7,Z,n7):=82 t;have I7':=I7.pinned (E I7 n7) (T.obj _ _ Z);refine S0 (pg _ s7 _ H7 x u _ I7' r7 (step x H7 y7)) λ_ s8 t=> ?_;let(M,H8,I8,hw8,q8):=42 t;refine S0 (pt _ s8 M H8 _ I8 q8) λb s9 z6_=>e1_1 z6_ λH9 I9 q9=> ?_;have fin:∀{s':aL} {H':Hp},Inv #[cS] ([]++LN d s7.heap) M H' s'->Nx H'->∃m,m<n/\∃i H',Inv #[cS] [] (wipe F (own.map (·.2))) H' s'/\tn i s'.heap/\#[kl]/\W i m H':=λ{s' H'} I' nx=>by
    let(m',hm,w'):=21 (hNx H' nx);have R:∀b∈d,∀o,s7.heap.get? b=some o->s'.heap.get? b=some o/\H' b=none:=λb f o e=>
     let z:=I'.pin ((b),o) (jD _ (jD _ (JS f e)))
     (z.1,z.2.1)
    have hl:(wipe F (own.map (·.2))).length=M.length:=by rw[<-hw8,Ii]
    refine(m',hm,i+1,H',(I'.JT (pins:=[])).weak hl (λj v e=> ?_),T.keep _ _ _ Z λb f o e=>(R b f o e).1,λb f=> ?_,w')
    ·rw[<-hw8]at e;exact(L1 e).1
    ·let(o,e,_):=21 (T.obj _ _ Z b f);exact(R b f o e).2
   cases b with
   |false=>simp only[GM,Ab]at q9 ⊢;exact fin I9 q9
   |true=>
    simp only[FH]at q9 ⊢;refine S0 (pe _ s9 M H9 _ I9 q9) λz s10 t=> ?_
    (let(yv,H10,I10,r10,B):=42 t;let(acc,aol,aom,nx):=41 B)
    exact aki (X:=X.AC s3 L a ce d) I10 aol aom r10 λs11 I11=>fin I11 nx
 exact codeAny_compStart_list P (T.self X.A 0 _ _ _ st4 P)
def QX{d k c:cz}{i:List cz}{a:lS}{own:List #[kN]}{l:Pos}{n:TI}{g:TG}{tt:TT}{te:TE}(p:X.calm=true)(r:X.N.Nodup)(t:PI X k c n)(ok:QW X.N X.env.scope a own) (u:∀(s:aL) (H:Hp) (C:ae) (cl:List (Str×ae)) (j:List ae),PG #[kI] k g) (v:∀(s:aL) (H:Hp) (C:ae) (cl:List (Str×ae)) (j:List ae),PTs #[kI] i tt) (he:∀(s:aL) (H:Hp) (C:ae) (cl:List (Str×ae)) (j:List ae),PE #[kI] d te) (hs:∀x,y1 c X.env x=pure x:=by intro _;rfl):PE X (.ListComp d [(k,c,i,0)] a l) (tLc n g tt te (own.map (·.2))):=by intro pins s L H Q I h;rw[eval_ListComp];refine abk p r I t ok u v he hs h λD C s' m H' w q y f=>(m,y,λz A=> ?_);let(B,E,M,F,G,J):=100 f;exact(.ref D,H',w.turned (t':=s'.toks) (λb o K e=>(A.2 b K).trans e) B E F G J,rfl,q)
def Xk{i:Nat}{y:Str}{u:Pos}{k p d:cz}{j:List cz}{c:lS}{own:List #[kN]}{l n:Pos}{w:TI}{g:TG}{tt:TT}{te:TE}(P:X.calm=true)(J:X.N.Nodup)(Q:X.N[i]?=some y)(r:X.env.scope.names.lookup y=some .local) (B:vb #[e3] #[Dc,#[wO]] n.line X.env=pure true) (R:PI X p d w) (ok:QW X.N X.env.scope c own) (S:∀(s:aL) (H:Hp) (C:ae) (cl:List (Str×ae)) (t:List ae),PG #[fo] p g) (T:∀(s:aL) (H:Hp) (C:ae) (cl:List (Str×ae)) (t:List ae),PTs #[fo] j tt) (he:∀(s:aL) (H:Hp) (C:ae) (cl:List (Str×ae)) (t:List ae),PE #[fo] k te) (hs:∀x,y1 d X.env x=pure x:=by intro _;rfl):PS X (.Assign [.Name y u] #[e3] n) (W2 (tLc w g tt te (own.map (·.2))) (sN i)):=by
 intro pins s K H D I h;rw[exec_Assign_Name_used _ _ _ _ B];refine aX (wpAny_standAt (aX ?_));show bF _ X.A (do let _<-comprehension #[e3] c X.env (firstIterPos [(p,d,j,0)] l) (newList []) false (eval d X.env) (some (assign #[wO] X.env))) _ _ s;have h:tLc w g tt te (own.map (·.2)) K H (λx U=>sN i x K U D.nx):=h
 refine aX (da (abk (Qf:=λ_ s'=>SP X pins D .next s') P J I R ok S T he hs h λL C s' m H' W q Y f=> ?_) λ_ s' Z=>bA (bA Z));show bF _ _ (assign #[wO] X.env (.ref L)) _ _ _;refine wpAny_assign_Name (UH (v:=V.ref L) W J Q (.inl r) rfl (λs2 I2 E=> ?_) (.inr r));let(a,sb,ha):=21 E;let(f0,M,f2,f3,O,f5):=100 f;have F:C≠a:=by
  rcases ha with z|z
  ·rw[z];exact M
  ·exact λe=>O y a z e.symm
 refine(m,Y.sameBut sb F,λh3 G=> ?_);exact(_,H',I2.turned (t':=s2.toks) (λb o hb e=>(G.2 b hb).trans e) f0 M f3 O f5,q)
def abl{c:cz}{gs:List Comprehension}{a:lS}{b d:Pos}{y:Str}{l:Nat}{env:Env}(e:env.scope.kind= .function)(f:env.scope.names.lookup y=some .local)(g:(d.line==b.line)=true) (h:(a.names.any λ((n),k)=>n==y&&(k== .local||k== .cell))=false):vb (.ListComp c gs a b) (some (.Name y d)) l env=pure true:=by
 have i:env.kindOf y=some .local:=f;have j:env.blockKind= .function:=by unfold Env.blockKind;rw[e];rfl
 unfold vb;have m:(Expr.Name y d).pos=d:=rfl;have o:(Expr.ListComp c gs a b).pos=b:=rfl;simp only[j,i,h,m,o,g];rfl
#where
def S1{K:aA}{a:ae}{xs:List V}{g:TG}{tt:TT}{te:TE}{vs:List Nat}{j:St}{n:Hp}{D:ae}{o:Hp->Prop}(Pv:Nat->Hp->Prop)(h0:Pv 0 #[xV])(s:∀i H,i<=xs.length->Pv i H->a8 K H a xs) (hs:∀i x H,xs[i]?=some x->Pv i H->g x (wipe j vs) H λc k=>wipe c vs=wipe j vs/\tt c k λb d=>
   if b=true then te c d λy f=>∃acc,f D=some #[mG]/\acc.length<aS/\Pv (i+1) #[pb]else Pv (i+1) d) (hd:∀H,Pv xs.length H->o H):
  ∃W:Nat->Nat->Hp->Prop,(∃m,W 0 m #[xV])/\∀i m H,W i m H->(#[jE].stop i H/\o H)\/(#[jE].go i H/\∃l:Hp->Prop,(∀H',l H'->∃r,r<m/\W (i+1) r H')/\∀x H',#[jE].QI i H x H'->g x (wipe j vs) H' λc k=>wipe c vs=wipe j vs/\tt c k λb d=>
    if b=true then te c d λy f=>∃acc,f D=some #[mG]/\acc.length<aS/\l #[pb]else l d):=by
 refine(λi m H=>m=xs.length-i/\i<=xs.length/\Pv i H,#[l7],?_);rintro i m H ⟨rfl,t,p⟩;have q:=s i H t p;rw[2139]
 ·refine .inr ((xs,xs[i],q,by simp[h]),Pv (i+1),λH' u=>(xs.length-(i+1),by lia,rfl,h,u),λx H' y=> ?_);rw[2001];rw[2046];exact hs i x _ (y xs q) p
 ·have e:i=xs.length:=by lia
  rw[2046];exact .inl ((xs,q,be _),hd H p)
abbrev akj(N:List Str)(sc a:lS)(own:List #[kN]):Bool:=(match a.kind with| .function=>true|_=>false)&&(a.names.all λy=>decide (a.names.lookup y.1=some y.2))&&(own.all λp=>decide (N[p.2]?=some p.1))&& (a.names.all λy=>match y.2 with
   | .free=>(match sc.names.lookup y.1 with|some .cell=>true|some .free=>true|_=>false)
   | .local=>decide (y.1∈own.map (·.1))||decide (y.1∉N)
   | .cell=>decide (y.1∈own.map (·.1))||decide (y.1∉N)
   |_=>true)
def zP{N:List Str}{sc a:lS}{own:List #[kN]}(h:akj N sc a own=true):QW N sc a own:=by
 unfold akj at h;simp only[bK,dH,ud]at h
 (let(b,f):=20 h;let(c,i):=20 b;let(g,j):=20 c)
 refine(?_,j,i,λy d e=> ?_,λy d e=> ?_)
 ·split at g
  ·assumption
  ·cases g
 ·have q:=f y d;simp only[e]at q;split at q<;>first|exact .inl #[kF]|exact .inr #[kF]|cases q
 ·have q:=f y d;rcases e with e|e<;>(simp only[e,oE,ud]at q;exact q)
#print L2
namespace L2
open PySem PySem.Spec PyProof.Rows
section
variable {prog:cj}{w:cY}{A:dE}{R:Result->aL->Prop}{s:aL}{elt t0 i0 t1 i1:cz}{atD atE:List cz}{scope:lS}{pos:Pos}{it acc:ax}{env:Env}
#where
section
variable {X:Cx}
#where
#print L2
namespace L2
open PySem PySem.Spec PyProof.Rows
section
variable {κ:Type}[DecidableEq κ]
abbrev iL(a:List (κ×V))(k:κ):Option V:=(a.find? λb=>decide (b.1=k)).map (·.2)
abbrev putK(a:List (κ×V))(k:κ)(v:V):List (κ×V):=
 if #[gg]=true then a.map (λb=>if b.1=k then((b.1),v)else b)else a++[((k),v)]
abbrev wr(a:List (κ×V))(k:κ):List (κ×V):=a.filter λb=>decide (b.1≠k)
def qm{p:κ×V}{r:List (κ×V)}{k:κ}(e:p.1=k):iL (p::r) k=some p.2:=by simp[iL,mD,e]
def qo{p:κ×V}{r:List (κ×V)}{k:κ}(e:¬p.1=k):iL (p::r) k=iL r k:=by simp[iL,mD,e]
def B7(k:κ):∀a:List (κ×V),#[gg]=(iL a k).isSome
 |[]=>rfl
 |p::r=>by
  rw[nI];rw[1939]
  ·simp only[qm e,aT e,Bool.true_or,Qu]
  ·rw[qo e,aV e,Bool.false_or];exact B7 k r
def Xl(k j:κ)(y:V):∀a:List (κ×V),iL (a.map λb=>if b.1=k then((b.1),y)else b) j=(iL a j).map λx=>if j=k then y else x
 |[]=>rfl
 |p::r=>by
  have c:=Xl k j y r;rw[cB];by_cases h:p.1=k
  ·rw[aq h];by_cases e:p.1=j
   ·rw[qm (p:=((p.1),y)) e,qm e,Es,aq (e.symm.trans h)]
   ·rw[qo (p:=((p.1),y)) e,qo e,c]
  ·rw[am h];by_cases e:p.1=j
   ·rw[qm (p:=p) e,qm e,Es,am (λz=>h (e.trans z))]
   ·rw[qo (p:=p) e,qo e,c]
def UP(k j:κ)(y:V):∀a:List (κ×V),iL a k=none->iL (a++[((k),y)]) j=if j=k then some y else iL a j
 |[],_=>by
  rw[2145]
  ·rw[aq e.symm];exact qm (p:=((k),y)) e
  ·rw[am (λz=>e z.symm)];exact qo (p:=((k),y)) e
 |p::r,b=>by
  rw[aG];have c:¬p.1=k:=λz=>by rw[qm z]at b;cases b
  rw[qo c]at b;have d:=UP k j y r b;by_cases e:p.1=j
  ·rw[qm e,qm e,am (λz=>c (e.trans z))]
  ·rw[qo e,qo e,d]
def Xm(b:List (κ×V))(k j:κ)(y:V):iL (putK b k y) j=if j=k then some y else iL b j:=by
 unfold putK;by_cases a:(b.any λc=>decide (c.1=k))=true
 ·rw[aq a,Xl];rw[B7]at a;by_cases e:j=k
  ·let(x,d):=1 (du.mp a);rw[aq e,e,d,Es,aq rfl]
  ·rw[am e];cases iL b j with
   |none=>rfl
   |some x=>rw[Es,am e]
 ·rw[am a];refine UP k j y b ?_;rw[B7]at a;cases q:iL b k with
  |none=>rfl
  |some x=>rw[q]at a;exact(a rfl).elim
def C1(a:List (κ×V))(k:κ)(v:V):#[Dd,a].length<=a.length+1:=by
 unfold putK;split
 ·rw[aD];lia
 ·rw[aM,ak,aH];lia
def wL.L3{o:Option V}{u:Option ax}(r:wL o u):o.isSome=u.isSome:=by
 cases o with
 |none=>cases u with
  |none=>rfl
  |some _=>exact(show False from r).elim
 |some _=>cases u with
  |none=>exact(show False from r).elim
  |some _=>rfl
def wL.getD{o:Option V}{u:Option ax}{d:V}{d':ax}(r:wL o u)(a:RelV d d'):RelV (o.getD d) (u.getD d'):=by
 cases o with
 |none=>cases u with
  |none=>exact a
  |some _=>exact(show False from r).elim
 |some _=>cases u with
  |none=>exact(show False from r).elim
  |some _=>exact r
def KV.val{a:List (κ×V)}{vs:List #[sO]}(r:KV a vs)(k:κ):wL (iL a k) (uY vs k):=by
 unfold KV at r
 induction r with
 |nil=>exact True.intro
 | @cons p q ps c h t g=>
  let(f,i):=20 h;rw[1939]
  ·rw[2068];have b:uY (q::c) k=some q.2:=by simp[uY,mD,d]
   rw[qm e,b];exact i
  ·rw[1999];have b:uY (q::c) k=uY c k:=by simp[uY,mD,d]
   rw[qo e,b];exact g
def KV.any{a:List (κ×V)}{vs:List #[sO]}(r:KV a vs)(k:κ):#[gg]=vs.any λb=>decide (b.1=k):=by
 unfold KV at r
 induction r with
 |nil=>rfl
 |cons h t c=>rw[nI,nI,c,h.1]
def KV.agu{b:List (κ×V)}{vs:List #[sO]}(r:KV b vs)(k:κ){y:V}{u:ax}(d:RelV y u):KV (b.map λa=>if a.1=k then((a.1),y)else a) (vs.map λa=>if a.1=k then((a.1),u)else a):=by
 unfold KV at r ⊢
 induction r with
 |nil=>exact .nil
 | @cons p q ps i h t f=>
  rw[cB,cB];refine .cons ?_ f;let(c,g):=20 h;rw[1939]
  ·rw[aq e,aq (c.symm.trans e)];exact(c,d)
  ·rw[am e,am (λz=>e (c.trans z))];exact(c,g)
def KV.put{a:List (κ×V)}{vs:List #[sO]}(r:KV a vs)(k:κ){y:V}{u:ax}(b:RelV y u):KV (putK a k y) (stored vs k u):=by
 unfold putK stored;rw[r.any k];by_cases e:(vs.any λc=>decide (c.1=k))=true
 ·rw[aq e,aq e];exact r.agu k b
 ·rw[am e,am e];exact Paired.snoc r (rfl,b)
def KV.drop{c:List (κ×V)}{vs:List #[sO]}(r:KV c vs)(k:κ):KV (wr c k) (without vs k):=by
 unfold KV at r ⊢;unfold wr without
 induction r with
 |nil=>exact .nil
 | @cons p q ps j h t f=>
  let(d,g):=20 h;rw[cC,cC];rw[1939]
  ·have a:¬decide (p.1≠k)=true:=by simp[e]
   have b:¬decide (q.1≠k)=true:=by simp[d.symm.trans e]
   rw[am a,am b];exact f
  ·have i:¬q.1=k:=λz=>e (d.trans z);have a:decide (p.1≠k)=true:=by simp[e]
   have b:decide (q.1≠k)=true:=by simp[i]
   rw[aq a,aq b];exact .cons (d,g) f
def KV.length{a:List (κ×V)}{vs:List #[sO]}(r:KV a vs):a.length=vs.length:=Paired.length r
def agv(a:List (κ×V))(k:κ):(wr a k).length<=a.length:=jE _ _
#where
def JY{P:cj}{w:cY}{k:Key}{u:ax}(r:RelV (kV k) u):#[gK].is k u=true:=by
 cases k with
 |inl i=>let(t,e):=1 (show∃t,u=Value.int i t from r);rw[2046];exact ZH P w i t
 |inr x=>let(t,e):=1 (show∃t,u=Value.str x t from r);rw[2046];exact ZI P w x t
def UQ{P:cj}{w:cY}:∀{a:List Key} {us:List ax},Vals (a.map kV) us->ItemsAre #[gK] a us
 |[],_,r=>by rw[K1]at r;cases r;exact .nil
 |k::a,_,r=>by
  rw[cB]at r;cases r with
  |cons h t=>exact .cons (JY h) (UQ t)
nonrec abbrev KT (H:Hp):List #[cn]->List #[cT]->Prop:=Paired λp q=>p.1=q.1/\H q.2.1=some #[un]/\RelV p.2 q.2.2
def KT.val{H:Hp}{a:List #[cn]}{xs:List #[cT]}(r:KT H a xs)(k:List Key):wL (iL a k) (#[tU].map (·.2)):=by
 induction r with
 |nil=>exact True.intro
 | @cons p q ps c h t g=>
  let(f,_,i):=40 h;rw[1939]
  ·rw[2068];have b:atKey (q::c) k=some q.2:=by simp[atKey,mD,d]
   rw[qm e,b];exact i
  ·rw[1999];have b:atKey (q::c) k=atKey c k:=by simp[atKey,mD,d]
   rw[qo e,b];exact g
def KT.agu{H:Hp}{a:List #[cn]}{xs:List #[cT]}(r:KT H a xs)(k:List Key){y:V}{u:ax}(f:RelV y u):KT H (a.map λc=>if c.1=k then((c.1),y)else c) (xs.map (putAt k u)):=by
 induction r with
 |nil=>exact .nil
 | @cons p q ps j h t g=>
  rw[cB,cB];refine .cons ?_ g;let(b,d,i):=40 h;unfold putAt;rw[1939]
  ·rw[aq e,aq (b.symm.trans e)];exact(b,d,f)
  ·rw[am e,am (λz=>e (b.trans z))];exact(b,d,i)
def KT.put{H:Hp}{a:List #[cn]}{xs:List #[cT]}(r:KT H a xs)(k:List Key){b:ae}{y:V}{u:ax}(d:H b=some #[gj])(c:RelV y u):KT H (putK a k y) (storedH xs k b u):=by
 have e:(a.any λf=>decide (f.1=k))=#[tU].isSome:=by rw[B7,(r.val k).L3,HU]
 unfold putK storedH;rw[e];by_cases q:#[tU].isSome=true
 ·rw[aq q,aq q];exact r.agu k c
 ·rw[am q,am q];exact Paired.snoc r (rfl,d,c)
def KT.keeps{H H':Hp}{a:List #[cn]}{xs:List #[cT]}(r:KT H a xs)(c:∀b ys,H b=some (.tup ys)->H' b=some (.tup ys)):KT H' a xs:=Paired.agc r λ_ _ z=>(z.1,c _ _ z.2.1,z.2.2)
section
variable {P:cj}{w:cY}{H:Hp}{h:cZ}{a:ae}
def ah2{u:HO}(ok:ow P w H h)(e:Rd H a u):j1 P w H h a u:=e.ok ok
def WC{b:List #[iS]}(ok:ow P w H h)(e:Rd H a #[rg]):b.length<=aS/\#[tW]=false/\∃vs,KV b vs/\h.DictOf #[gK] a vs:=
 show j1 P w H h a #[rg]from ah2 ok e
def ab8{b:List #[iS]}(ok:ow P w H h)(e:H a=some #[rg]):b.length<=aS/\#[tW]=false/\∃vs,KV b vs/\h.DictOf #[gK] a vs:=WC ok #[oY]
def QY{b:List Key}(ok:ow P w H h)(e:H a=some #[wz]):#[pM].is h b a:=by
 (let(_,c):=20 (show j1 P w H h a #[wz]from ok a _ e);let(d,r,f):=21 c;let(o,i,j,g):=41 f;let(n,k):=1 g)
 exact(o,d.toArray,n,i,j,k,by simpa using UQ r)
def WD{b:List #[cn]}(ok:ow P w H h)(e:Rd H a (.dT b)):b.length<=aS/\#[tW]=false/\∃xs,KT H b xs/\h.DictOfH #[pM] a xs:=by
 (let(z,y,d):=40 (show j1 P w H h a (.dT b)from ah2 ok e);let(xs,r,f):=21 d;let(o,es,i,j,k,n,s,h5):=83 f)
 refine(z,y,xs,r,o,es,i,j,k,n,s,λx c=> ?_,h5);have all:∀{l:List (List Key×V)} {m:List (List Key×ae×ax)},KT H l m->∀x∈m,#[pM].is h x.1 x.2.1:=by
  intro l m q
  induction q with
  |nil=>intro x c;exact nomatch c
  | @cons p q ps v g t u=>
   intro x c;rcases b7.mp c with e|c
   ·rw[2046];exact QY ok (by rw[<-g.1];exact g.2.1)
   ·exact u x c
 exact all r x c
def al0{b:List #[cn]}(ok:ow P w H h)(e:H a=some (.dT b)):b.length<=aS/\#[tW]=false/\∃xs,KT H b xs/\h.DictOfH #[pM] a xs:=WD ok #[oY]
#where
abbrev JZ(H:Hp)(a:ae)(y:V)(r:Option V):Prop:=(∃c k,Rd H a (.dK c)/\y=kV k/\r=iL c k)\/∃c k b,Rd H a (.dT c)/\y= .ref b/\H b=some #[gj]/\r=iL c k
abbrev agw(H:Hp)(a:ae)(y v:V)(H':Hp):Prop:=(∃c k,H a=some (.dK c)/\y=kV k/\c.length<aS/\H'=upd H a (.dK #[Dd,c]))\/∃c k b,H a=some (.dT c)/\y= .ref b/\H b=some #[gj]/\c.length<aS/\H'=upd H a (.dT #[Dd,c])
def JZ.k{H:Hp}{a:ae}{b:List #[iS]}{k:Key}(e:H a=some #[rg]):JZ H a (kV k) (iL b k):= .inl (b,k,.inl e,rfl,rfl)
section
variable {X:Cx}{pins:List (ae×Obj)}{σ:St}{H:Hp}{s:aL}{a:ae}{y v:V}{u r:ax}{o:Option V}{A:dE}{E:ax->aL->Prop}
def Inv.big(I:Inv X pins σ H s):lx<s.heap.objs.size:=by have h:aC<s.heap.objs.size:=(I.mod.glob.keeps I.bk).lt;exact Nat.lt_trans #[c] h
def aon{Q:ax->aL->Prop}(m:A.units+1<Ft)(I:Inv X pins σ H s)(g:JZ H a y o)(j:RelV y u)(h:∀s',Inv X pins σ H s'->Q (.bool o.isSome) s'):bF #[g] A (gu .In u #[bh]) Q E s:=by
 rcases g with⟨f,k,e,i,l⟩|⟨f,k,b,e,i,n,l⟩
 ·subst i
  (let(z,hd,c):=40 #[wk];let(vs,d,dd):=21 c)
  refine wpAny_in_of (JY j) hd dd.mapOf ?_;rw[<-(d.val k).L3,<-l];exact h _ #[su]
 ·subst i;cases (show u=Value.ref b from j)
  (let(z,hd,c):=40 #[wj];let(xs,d,dd):=21 c)
  refine wpAny_in_heap (DT m) (QY I.cQ n) hd dd ?_;have q:=(d.val k).L3;rw[HU]at q;rw[<-q,<-l];exact h _ #[su]
def ND{h':cZ}{t':Nat}{ob:HO}(I:Inv X pins σ H s)(c:UG (H a))(hs:Heap.SameBut a s.heap h')(he:∃q,h'.get? a=some q)(new:j1 X.prog X.w (upd H a ob) h' a ob):Inv X pins σ (upd H a ob) {s with heap:=h',toks:=t'}:=I.write (x:=a) (e:=a) c #[ay] (λb q d z=>(hs.2 b d).trans z) he new
def Xn{P:cj}{w:cY}{H':Hp}{h':cZ}{b:List #[iS]}{vs:List #[pJ]}(z:b.length<=aS)(hd:#[tW]=false)(c:KV b vs)(dd:h'.DictOf #[gK] a vs):j1 P w H' h' a #[rg]:=(z,hd,vs,c,dd)
def aea{H':Hp}{Q:Unit->aL->Prop}(D:A.units+1<Ft)(I:Inv X pins σ H s)(g:agw H a y v H')(t:RelV y u)(x:RelV v r)(h:∀s',Inv X pins σ H' s'->Q () s'):bF #[g] A (setItem #[bh] u r) Q E s:=by
 rcases g with⟨d,k,e,n,l,o⟩|⟨d,k,b,e,n,B,l,o⟩
 ·subst n o
  (let(z,hd,f):=40 (ab8 I.cQ e);let(vs,i,dd):=21 f)
  have hz:vs.length<=aS:=by rw[<-i.length];exact z
  have p:#[Dd,d].length<=aS:=by have:=C1 d k v;lia
  refine wpAny_setItem_pairs (hsz:=hz) (JY t) dd λh' j hs=>h _ ?_;have he:∃q,h'.get? a=some q:=let(q,_,_,m,_):=j;(q,m);exact ND I #[dO] hs he (Xn p hd (i.put k x) j)
 ·subst n o;cases (show u=Value.ref b from t)
  (let(z,hd,f):=40 (al0 I.cQ e);let(xs,i,dd):=21 f)
  have hz:xs.length<=aS:=by rw[<-Paired.length i];exact z
  have p:#[Dd,d].length<=aS:=by have:=C1 d k v;lia
  refine wpAny_setItem_heap (hsz:=hz) (DT D) (QY I.cQ B) dd λh' j hs=>h _ ?_
  (let(q,es,F,f):=3 j;let(m,G,J,K,_,h5):=100 f)
  refine ND I #[dO] hs (q,m) (p,hd,_,(i.put k B x).keeps λc ys C=> ?_,q,es,F,m,G,J,K,h5);rw[aE (dt C e (λz=>nomatch z))];exact C
#where
section
variable {X:Cx}{pins:List (ae×Obj)}{σ:St}{H:Hp}{s:aL}{a:ae}{o5:List (Key×V)}{k:Key}{u:ax}{A:dE}{E:ax->aL->Prop}
def al1{v:V}{b:List ax}{Q:ax->aL->Prop}(I:Inv X pins σ H s)(e:H a=some #[tj])(g:RelV (kV k) u)(l:iL o5 k=some v)(hm:b=[]\/∃x,b=[x]) (h:∀d s',Inv X pins σ (upd H a (.dK (wr o5 k))) s'->RelV v d->Q d s'):bF #[g] A (call (.builtin "dict.pop") (.ref a::u::b)) Q E s:=by
 (let(z,hd,j):=40 (ab8 I.cQ e);let(vs,c,dd):=21 j)
 let(d,hw,m):=21 (wL.some_of (v:=v) (o:=uY vs k) (by rw[<-l];exact c.val k));have n:(keyPart u).isSome=true:=by
  cases k with
  |inl i=>let(t,q):=1 (show∃t,u=Value.int i t from g);subst q;rfl
  |inr x=>let(t,q):=1 (show∃t,u=Value.str x t from g);subst q;rfl
 have p:argsOk "dict.pop" (.ref a::u::b,[]):=by
  rcases hm with q|⟨x,q⟩
  ·subst q;exact PySem.F.args_dict_pop_2 _ _
  ·subst q;exact PySem.F.args_dict_pop_3 _ _ _
 refine G0 LF dd.typeIs PySem.F.entry_dict_pop p (meets_dict_pop_there #[eh] a (JY g) b hm n) (vs,d,dd,by rw[<-c.length];exact z,hw,λh' f hs=>h d _ ?_ m);have he:∃q,h'.get? a=some q:=let(q,_,_,r,_):=f;(q,r);exact ND I #[dO] hs he (Xn (dk (agv o5 k) z) hd (c.drop k) f)
#where
abbrev akk(i:cz):Prop:=∀a b,Jd i false a b=operate [a,b] (FI a b)
def aiQ{prog:cj}{w:cY}{A:dE}{E:ax->aL->Prop}{s:aL}{env:Env}{value a:cz}{k:Pos}{T id:String}{Q:ax->aL->Prop} (m:typeLookup #[wy] "__getitem__"=pure #[Dc,#[e2]]) (hs:akk a) (h:bF #[au] A #[C0,value] (λo d=>bF #[au] A #[C0,a] (λi b=>b.TypeIs o T/\bF #[au] A (FI o i) Q E b) E d) E s):bF #[au] A (eval (.Subscript value a k) env) Q E s:=by
 refine Subscript_ (jR h (λo d g=>jR g (λi b c=> ?_) λ_ _ x=>x) λ_ _ x=>x);let(l,c):=20 c;unfold subscriptTail;rw[1957];rw[getitemInPython_of_ne l.not_modules];refine aX (wpAny_specialOf l m ?_);have f:bF #[au] A (Jd a false o i) (λr e=>bF #[au] A (letTemporaryGo value o r>>=λ_=>pure r) Q E e) E b:=by rw[hs o i];exact wpAny_operating (jR c (λr e j=>aX (wpAny_letTemporaryGo (bA j))) λ_ _ x=>x)
 first
  |exact bA (aX f)
  |exact aX (bA (aX f))
  |exact aX f
abbrev akl(ty d:TE):TE:=λb H Q=>ty b H λy e=>d b e λx c=>∃a o,x= .ref a/\JZ c a y o/\Q #[Ah] c
abbrev ah3(d ty e:TE):TS:=λD b H=>e b H λv f=>d b f λx g=>ty b g λy h=>∃a c,x= .ref a/\agw h a y v c/\D.nx b c
section
variable {X:Cx}{o i e value:cz}{pos pos' aj2:Pos}{td ty tv:TE}
def akm(f:X.A.units+1<Ft)(j:PE X i ty)(k:PE X o td):PC X .In i o (akl ty td):=by
 rw[1986];refine da #[ef] λC l b=>e2_2 b λy m n p q=>da (k pins l e m _ n q) λu D c=> ?_
 (let(x,r,t,v,d):=42 c;let(a,w,ex,g,z):=42 d)
 rw[2076];obtain rfl:u=Value.ref a:=v;exact aon f t g p λE B=>(.bl w.isSome,r,B,rfl,z)
def aiR(j:X.A.units+1<Ft)(k:PE X o td)(l:PE X i ty)(m:PE X value tv)(hs:vb value (some (.Subscript o i pos')) pos.line X.env=pure false):PS X (.Assign [.Subscript o i pos'] value pos) (ah3 td ty tv):=by
 rw[1987];refine wpAny_Assign_Subscript (da (m pins s b H _ I h) λr n c=>e2_2 c λv p q t w=>da (k pins n b p _ q w) λu z d=>e2_2 d λx B C E F=>da (l pins z b B _ C F) λN O e=> ?_) hs
 (let(y,P,G,J,f):=42 e;let(a,K,ex,g,L):=42 f)
 rw[2076];obtain rfl:u=Value.ref a:=E;exact aea j G g J t λQ M=>(b,K,M,L)
#where
def agx{P:cj}{w:cY}{H:Hp}(h:cZ)(a:lx<h.objs.size):j1 P w H (h.push {cls:= .type "dict",data:= .dict #[]}) h.objs.size #[tk]:=(dR _,beq_eq_false_iff_ne.mpr (Ne.symm (gj a)),[],.nil,Heap.DictOf.new h)
abbrev aeb:TE:=λ_ H Q=>∀p,H p=none->Q #[aI] #[x0]
section
variable {X:Cx}{pos:Pos}
def Xo:PE X (.Dict [] [] pos) aeb:=λpins s b H Q I h=>
 wpAny_Dict_empty (.ref s.heap.objs.size,_,I.laid (a:=s.heap.objs.size) (o:= .dK []) (t':=s.toks) (λ_ _ q=>Heap.get?_push_of_some _ q) #[gw] (agx s.heap I.big),rfl,h _ #[cz])
#where
structure M1(X:Cx)(o:cz)(m:Str)(apos:Pos)(e:cz)(lD:Pos):Prop where
 base:oI o m X.env #[iN]=eval o X.env
 Af:((jS lD #[zP]).all (λx=> !x.1)&&#[j4].all (λx=>x.1.isSome)
  &&decide (([e]:List cz).length+#[t0].length+#[dN]<30))=true
 line:#[dj]=true
 trees:jS lD #[zP]=[#[A]]
structure M2(X:Cx)(o:cz)(m:Str)(apos:Pos)(e f:cz)(lD:Pos):Prop where
 base:oI o m X.env #[iN]=eval o X.env
 Af:((jS lD #[xA]).all (λx=> !x.1)&&#[j4].all (λx=>x.1.isSome)
  &&decide (([e,f]:List cz).length+#[t0].length+#[dN]<30))=true
 line:#[dj]=true
 trees:jS lD #[xA]=[#[A],((false),eval f X.env)]
abbrev Xp(H:Hp)(a:ae):Prop:=(∃b,Rd H a #[rg])\/∃b,Rd H a (.dT b)
def Xq{X:Cx}{pins:List #[H]}{i:St}{H:Hp}{s:aL}{a:ae}(I:Inv X pins i H s)(d:Xp H a):s.TypeIs #[bh] "dict"/\(∀b,Value.ref a= .ref b->∃ob,s.heap.get? b=some ob/\ob.dict=none)/\#[tW]=false:=by
 rcases d with⟨f,e⟩|⟨f,e⟩
 ·(let(_,hd,c):=40 #[wk];let(vs,_,dd):=21 c)
  refine #[l8];rw[2090];rw[2037];exact #[wW]
 ·(let(_,hd,c):=40 #[wj];let(xs,_,dd):=21 c)
  refine #[l8];rw[2090];rw[2037];exact #[wW]
section
variable {X:Cx}{pins:List (ae×Obj)}{σ:St}{H:Hp}{s:aL}{a:ae}{y d:V}{u r:ax}{o:Option V}{A:dE}{E:ax->aL->Prop}
def akn{Q:ax->aL->Prop}(q:A.units+1<Ft)(I:Inv X pins σ H s)(g:JZ H a y o)(m:RelV y u)(n:RelV d r)(h:∀p s',Inv X pins σ H s'->RelV (o.getD d) p->Q p s'):bF #[g] A (call (.builtin "dict.get") [.ref a,u,r]) Q E s:=by
 rcases g with⟨i,k,e,j,l⟩|⟨i,k,b,e,j,t,l⟩
 ·subst j
  (let(z,hd,c):=40 #[wk];let(vs,f,dd):=21 c)
  refine G0 B3 dd.typeIs K2 (JI _ _ _) (meets_dict_get_default #[eh] a (JY m) hd r) (_,dd.mapOf,h _ _ #[su] ?_);rw[l];rw[2149]
 ·subst j;cases (show u=Value.ref b from m)
  (let(z,hd,c):=40 #[wj];let(xs,f,dd):=21 c)
  refine G0 B3 dd.typeIs K2 (JI _ _ _) (meetsH_dict_get_default (DU #[eh]) a b hd r) (DT q,k,xs,QY I.cQ t,dd,h _ _ #[su] ?_);rw[l];rw[2149]
#where
abbrev aec(e ty tx:TE):TE:=λb H Q=>e b H λx c=>∃a,x= .ref a/\Xp c a/\ty b c λy f=>tx b f λz d=>∃o,JZ d a y o/\Q (o.getD z) d
abbrev aed(f ty:TE):TE:=λc H Q=>f c H λx d=>∃a,x= .ref a/\Xp d a/\ty c d λy e=>∃b k v,e a=some #[rg]/\y=kV k/\iL b k=some v/\Q v (upd e a #[Af])
section
variable {X:Cx}{o e f:cz}{apos lD:Pos}{td ty tx:TE}
def Xr(q:X.A.units+1<Ft)(r:PE X o td)(he:PE X e ty)(t:PE X f tx)(m:M2 X o "get" apos e f lD):PE X (.Call (.Attribute o "get" apos) [e,f] [] lD) (aec td ty tx):=by
 intro pins s c H Q I h;refine y2 m.base m.Af m.line Ap B3 PySem.F.type_dict_get (da #[CE,r] λu v i=> ?_)
 (let(x,w,p,B,j):=42 i;let(a,ex,d,C):=41 j)
 rw[2076];obtain rfl:u=Value.ref a:=B;let(D,E,_):=40 (Xq p d);refine(D,E,?_);rw[m.trees];refine Calls.callWith_builtin rfl (Calls.evalArgs_plain (Calls.spliced_cons (da (he pins v c w _ p C) λT G k=>e2_2 k λy J K L M=>
  Calls.spliced_cons (da (t pins G c J _ K M) λU V l=>e2_2 l λz N O P b=>e1_1 b λW g R=>Calls.spliced_nil ?_))))
 exact akn q O g L P λY Z S n=>(_,N,S,n,R)
def agy(p:PE X o td)(he:PE X e ty)(m:M1 X o "pop" apos e lD):PE X (.Call (.Attribute o "pop" apos) [e] [] lD) (aed td ty):=by
 rw[2130];refine y2 m.base m.Af m.line Ap LF PySem.F.type_dict_pop (da (p pins s j H _ I h) λu q c=> ?_)
 (let(x,r,n,t,f):=42 c;let(a,ex,d,w):=41 f)
 rw[2076];obtain rfl:u=Value.ref a:=t;let(z,A,_):=40 (Xq n d);refine(z,A,?_);rw[m.trees];refine Calls.callWith_builtin rfl (Calls.evalArgs_plain (Calls.spliced_cons (da (he pins q j r _ n w) λL M g=>e2_2 g λy N B C b=>e3_3 b λD k v E G l J=>Calls.spliced_nil ?_)));subst G;exact al1 B E C l #[ay] λO P K i=>(v,_,K,i,J)
#where
section
variable {X:Cx}{pins:List (ae×Obj)}{σ:St}{H:Hp}{s:aL}{a:ae}{o5:List (Key×V)}{A:dE}{E:ax->aL->Prop}
#where
section
variable {X:Cx}{pins:List (ae×Obj)}{σ:St}{H:Hp}{s:aL}{a:ae}{y:V}{u:ax}{A:dE}{E:ax->aL->Prop}
#where
#print L2
namespace L2
open PySem PySem.Spec PyProof.Rows
section
variable {prog:cj}{w:cY}{A:dE}{E:ax->aL->Prop}
#where
section
variable {X:Cx}
#where
#print L2
namespace L2
open PySem PySem.Spec PyProof.Rows
def S2:sd "reversed"=some (.type "reversed"):=by decide+kernel
section
variable {X:Cx}{pins:List (ae×Obj)}{σ:St}{H:Hp}{s:aL}{h':cZ}
def Inv.aiS{t':Nat}{ch:List ae}(I:Inv X pins σ H s)(k:∀b o,b∉ch->s.heap.get? b=some o->h'.get? b=some o)(d:∀b∈ch,DX X pins H b):Inv X pins σ H {s with heap:=h',toks:=t'}:=by
 have f:∀b u,H b=some u->b∉ch:=λb u e z=>by have q:=(d b z).1;rw[q]at e;rw[2048]
 refine I.step (g':=s.gens) (d':=s.drawn) (ch:=ch) (λb g=>((d b g).2.2.2.1,(d b g).2.1,(d b g).2.2.2.2.1,(d b g).2.2.2.2.2)) (λb o _ _ a e _=>k b o a e) (λb o _ _ a e _=>(o.slots,k b o a e)) (λ_ _ _ _ n=>n) (λb o a e=>(o,k b o a e)) (λ_ _ e=>e) (λ_ _ _ e=>e) (λb ps e=>#[qp]) (λm hm=> ?_) (λb u e=> ?_) I.bare
 ·let(o,es,h,i,r):=23 hm;exact(o,es,h,k _ o (λz=>(d _ z).2.1 rfl) i,r)
 ·rw[1922];rcases a with z|z
  ·rw[z];exact f b u e
  ·exact f c _ z
def Inv.UR{t':Nat}{ch:List ae}{T:ae}{ob:HO}(I:Inv X pins σ H s)(k:∀b o,b∉ch->s.heap.get? b=some o->h'.get? b=some o)(f:∀b∈ch,DX X pins H b)(i:s.heap.objs.size<=T) (new:j1 X.prog X.w (upd H T ob) h' T ob):Inv X pins σ (upd H T ob) {s with heap:=h',toks:=t'}:=by
 have g:H T=none:=I.cQ.fresh i;have h:∀b u,H b=some u->b∉ch:=λb u e z=>by have q:=(f b z).1;rw[q]at e;rw[2048]
 refine I.step (g':=s.gens) (d':=s.drawn) (ch:=ch) (λb a=>((f b a).2.2.2.1,(f b a).2.1,(f b a).2.2.2.2.1,(f b a).2.2.2.2.2)) (λb o _ _ d e _=>k b o d e) (λb o _ _ d e _=>(o.slots,k b o d e)) (λb o _ e n=> ?_) (λb o d e=>(o,k b o d e)) (λb xs e=> ?_) (λb o u e=> ?_) (λb ps e=>(#[],?_)) (λm hm=> ?_) (λb u e=> ?_) I.bare
 ·rw[aE (gj (dj #[a7] i))];exact n
 ·rw[aE (a5 e g)];exact e
 ·rw[aE (a5 e g)];exact e
 ·rw[aE (a5 e g),e];simp
 ·let(o,es,j,l,r):=23 hm;exact(o,es,j,k _ o (λz=>(f _ z).2.1 rfl) l,r)
 ·by_cases a:b=T
  ·subst a;rw[ao]at e;rw[2048];exact new
  ·rw[aE a]at e;refine #[ug].yz (λc v d q=>k c v ?_ q) (λc q=>by rw[aE (a5 q g)];exact q) λc xs q=>by rw[aE (a5 q g)];exact q
   rcases d with z|z
   ·rw[z];exact h b u e
   ·exact h c _ z
def Inv.lock{d:ae}{u:HO}(I:Inv X pins σ H s)(h:H d=some u)(g:UG #[vA]):∃c,Inv X pins σ #[tw] s:=by
 have x:=I.cQ d u h;have ex:∃c,s.heap.get? d=some c:=by
  cases u with
  |lst xs=>(let(_,a):=20 x;let(_,_,_,e):=22 a);rw[1990]
  |dK i=>(let(_,_,a):=40 x;let(_,_,f):=21 a;let(o,_,_,e,_):=23 f);rw[2144]
  |dT i=>(let(_,_,a):=40 x;let(_,_,f):=21 a;let(o,_,_,e,_):=23 f);rw[2144]
  |set S n=>(let(o,_,_,_,a):=4 x;let(e,_):=20 a);rw[2144]
  |ins C dx fs=>let(_,_,_,e,_):=80 x;rw[1990]
  |ext j=>(let(_,a,_):=40 x;let(_,e):=1 a);rw[1990]
  |_=>exact False.elim g
 let(c,e):=1 ex;have new:j1 X.prog X.w #[tw] s.heap d (.jh c u):=by
  refine(e,x.yz (λb v _ q=>q) (λb q=> ?_) λb xs q=> ?_)
  ·rw[1955];rw[2105]
  ·rw[1955];rw[2105]
 exact(c,I.write (x:=d) (e:=d) (t':=s.toks) (h':=s.heap) (by rw[h];exact g) #[ay] (λb v _ q=>q) (c,e) new)
def Inv.WE{d:ae}{u:HO}(I:Inv X pins σ H s)(h:H d=some u)(c:UG #[vA]):∀a b,X.LK d≠some (.jh a b):=λa b e=>by have q:=I.base.zM d a b e;rw[h]at q;cases q;exact c
def Inv.unlock{d:ae}{t:Obj}{u:HO}(I:Inv X pins σ H s)(h:H d=some (.jh t u))(w:∀g i,X.LK d≠some (.jh g i)):Inv X pins σ (upd H d u) s:=by
 have a:∀b o,H b=some o->(∀g i,o≠ .jh g i)->b≠d:=λb o e j z=>by rw[z,h]at e;rw[2048];exact j _ _ rfl
 have f:∀b,H b=none->b≠d:=λb e z=>by rw[z,h]at e;rw[2048]
 refine(I.ok,I.os,I.bare,(I.base.keep,I.base.slot,λb o e n l=> ?_,I.base.there,λb xs e=> ?_,λb o x e=> ?_,λb ps e=> ?_),I.loc,I.cell,?_,λx c e=> ?_,λp y=> ?_,λb o e=> ?_,I.len)
 ·rw[aE (f b (I.base.free b o e n l))];exact I.base.free b o e n l
 ·have q:=I.base.zL b xs e;rw[aE #[lV]];rw[2105]
 ·have q:=I.base.zM b o x e;rw[aE (λz=>by rw[z]at e;exact w _ _ e)];rw[2105]
 ·let(m,q):=1 #[u8];exact(m,by rw[aE #[lV]];exact q)
 ·rw[aE (f _ I.free)];exact I.free
 ·rw[aE (f c #[oT])];exact I.sM x c e
 ·let(e,n,r):=40 #[Dx,y];exact(e,by rw[aE (f _ n)];exact n,r)
 ·by_cases k:b=d
  ·rw[k,ao]at e;rw[2048];rw[k];let(_,x):=20 #[uf];exact x.yz (λc v _ q=>q) (λc q=>by rw[aE #[cF]];exact q) λc xs q=>by rw[aE #[cF]];rw[2105]
  ·rw[aE k]at e;exact(I.cQ b o e).yz (λc v _ q=>q) (λc q=>by rw[aE #[cF]];exact q) λc xs q=>by rw[aE #[cF]];rw[2105]
#where
abbrev al2(t:TS):TS:=λD c H=>∃d u,H d=some u/\UG #[vA]/\∀b,t (λa H'=>H' d=some #[sx]/\D.nx a #[oC],λv H'=>H' d=some #[sx]/\D.rt v #[oC],λa H'=>H' d=some #[sx]/\D.bk a #[oC],λa H'=>H' d=some #[sx]/\D.ct a #[oC]) c (upd H d #[sx])
section
variable {X:Cx}
def abm{st:bu}{t:TS}(h:PS X st t):PS X st (al2 t):=by
 intro pins s g H D I hw;let(d,u,hd,c,hw):=42 hw;let(i,j):=1 (I.lock hd c);refine da (h pins s g _ _ j (hw i)) λf k q=> ?_;cases f with
 |next=>let(a,H',b,e,q):=42 q;exact #[ez]
 |brk=>let(a,H',b,e,q):=42 q;exact #[ez]
 |cont=>let(a,H',b,e,q):=42 q;exact #[ez]
 |ret v=>let(x,a,H',b,r,e,q):=63 q;exact(x,a,_,b.unlock e (I.WE hd c),r,q)
def QZ{c:cz}{pins:List #[H]}{d:St}{H:Hp}{s:aL}{R:It->Hp->Prop}{J:It}{a:Nat->cZ->Prop}{tk:Nat}(I:Inv X pins d H s)(o:Obj) (T:Turn X.prog X.w X.K c J #[uF] s.heap.objs.size a) (st:a 0 (s.heap.push o)) (q:R J H):PIE X pins d c R #[bt] {s with heap:=s.heap.push o,toks:=tk}:=by
 refine(s.heap.objs.size,#[uF],a,J,H,rfl,I.kept λb ob e=>Heap.get?_push_of_some _ e,T,st,λb f=> ?_,q);have e:b=s.heap.objs.size:=by simpa using f
 rw[2046];exact I.SO #[gw] #[cz]
#where
section
variable {X:Cx}{tg:cz}
#where
abbrev Itv(K:aA)(a:ae)(n:Nat):It:=(λi H=>i<n/\∃(xs:List V) (x:V),a8 K H a xs/\xs[n-1-i]?=some x,λi H x H'=>H'=H/\∀xs,a8 K H a xs->xs[n-1-i]?=some x,λi _=>n<=i)
def agz{P:cj}{w:cY}{K:aA}{R:cz}(a it:ae)(n:Nat):Turn P w K R (Itv K a n) [it] it (λi h=>i<=n/\h.IsRevIter it a ((n:Int)-1-(i:Nat))) where
 mem:=by simp
 obj:=λi h st b g=>by
  have e:b=it:=by simpa using g
  rw[2046]
  (let(_,j):=20 st;let(o,e,c,d):=41 j)
  exact #[jg]
 keep:=λi h h' st k=>(st.1,st.2.at λo e=>k it #[p] o e)
 item:=by
  rw[1975];subst r hw t
  (let(m,j):=20 y;let(xs,x,N,O):=22 j)
  let(S,T,p,hz):=41 (I.list N);let(u,U,V):=21 (T.get O);rw[1997];let(_,f):=20 st;have J:(n:Int)-1-#[sD]=#[wQ]:=by lia
  rw[J]at f;refine wpAny_pyNext_rev_item f p.isList (x:=u) (by simpa using U) λh' l Z=> ?_;have e2:#[wQ]-1=(n:Int)-1-#[h1]:=by lia
  rw[e2]at l;have I1:Inv X pins M H {s with heap:=h'}:=I.turned (t':=s.toks) (λb o g e=>(Z.2 b g).trans e) B C D F G;let(o,e,c,d):=41 (id l);exact(u,rfl,Ny (s:={s with heap:=h'}) e c d #[c] (x,H,I1,V,(rfl,λys hy=>by rw[I.FK hy N];exact O),(m,l),λb g=>(q b g).1))
 done:=by
  rw[1975];subst r hw t;rw[1997];let(m,f):=20 st;have hge:n<=i:=y;have J:(n:Int)-1-#[sD]= -1:=by lia
  rw[J]at f;exact wpAny_pyNext_rev_end #[CB,L] f λh' eb=>(rfl,I.turned (t':=s.toks) (λb o g e=>eb b o g e) B C D F G)
 self:=λA i s Q E st h=>wpAny_pyIter_revIter st.2 h
abbrev aoo(K:aA)(c:TA):TI:=λd H R=>c d H λvs b=>∃(a:ae) (xs:List V),vs=#[jv]/\a8 K b a xs/\R (Itv K a xs.length) b
section
variable {X:Cx}{tg:cz}
def Ij{e:cz}{f:TA}{p b:Pos}(j:Gl X "reversed")(hm:X.mg "reversed"=none)(k:PA X [e] f)(hs:bV [e] X.env=[#[A]]:=by rfl):PI X tg (.Call (.Name "reversed" p) [e] [] b) (aoo X.K f):=by
 intro pins s m H R I h;refine Call_ (Do I j hm S2 (PyProof.Rows.callWith_type1 (da (k b pins s m H _ I h) λus n d=>e2_2 d λvs z g o t=> ?_) hs rfl));let(a,xs,e,u,q):=42 t;rw[2046];cases o with
 |cons r v=>
  cases v;cases r;let(c,w,x,hz):=41 (g.list u);have A:=w.length;have y:#[o0]-1=#[o8]-1-#[h2]:=by simp only[bI];lia
  refine call_reversed_list x.isList (wpAny_pyIter_revIter (l:=a) (i:=#[o0]-1) #[bs] ?_);refine QZ (tk:=n.toks) g _ (agz a _ xs.length) (dR _,?_) q;rw[<-y];exact #[bs]
#where
section
variable {prog:cj}{w:cY}{A:dE}{E:ax->aL->Prop}{s:aL}
def US{d:ae}{o:Obj}{es:Array jz}{e:Nat}{Q:ax->aL->Prop}(hd:(d==lx)=false)(b:s.heap.get? d=some o)(f:o.ExactDict)(a:o.data= .dict es e) (g:Q #[bt] {s with heap:=s.heap.push {cls:= .type "dict_keyiterator",data:= .fields #[.ref d,.int 0 0,.int es.size 0,.int e 0]}}):bF #[au] A (pyIter #[iV]) Q E s:=by have c:s.TypeIs #[iV] "dict":=(o,b,f.1);refine wpAny_pyIter_slot c F.slot_dict_iter (vH F.slot_dict_iter c F.entry_dict_iter ?_ (F.args_dict_iter_1 _));unfold Builtin.«dict.__iter__»;refine aX ?_;unfold Builtin.Dict.dictSlotNone;refine aX (wpAny_notOrdered_dict c ?_);show bF _ _ (pure (Value.ref d)) _ _ s;refine bA ?_;show bF _ _ (Builtin.Dict.showsAll d>>=_) _ _ s;unfold Builtin.Dict.showsAll;rw[am (by rw[hd];exact cA)];refine aX #[js];refine aX (EL b a ?_);refine aX (H0 b a ?_);refine aX (lK (bA (_,rfl,"dict_keyiterator",_,#[jJ],F.slot_dict_keyiterator_next.lookup,?_)));simpa [rawInt]using g
def Vw{it d:ae}{i n h:Nat}{l:Obj}{es:Array jz}{m:jz}{Q:Option ax->aL->Prop}(a:s.heap.IsKeyIter it d i n h)(c:s.heap.get? d=some l)(e:l.data= .dict es h) (hsz:es.size=n) (p:es[i]?=some m) (q:∀h',h'.IsKeyIter it d (i+1) n h->Heap.SameBut it s.heap h'->Q #[Dc,m.key] {s with heap:=h'}):bF #[au] A #[lF] Q E s:=by
 let(o,j,r,hd):=41 (id a);unfold pyNext;refine aX (wpAny_attempt (yy (name:=Str.ofString "__next__") a.typeIs F.slot_dict_keyiterator_next (vH F.slot_dict_keyiterator_next a.typeIs F.entry_dict_keyiterator_next ?_ #[k6])));rw[1948];rw[1957];rw[1957]
 first|refine aX #[tC]|refine aX #[ty]
 refine aX (wpAny_fieldsOf j hd ?_);have f:Builtin.Dict_items.ownsTuple "dict_keyiterator"=false:=by decide
 simp only[f,GM,Ab];show bF _ _ #[m2] _ _ s;rw[2014];rw[1948];refine aX (EL c e ?_);rw[am #[v8]];rw[1948];refine aX (H0 c e ?_);rw[am #[p]];refine bA ?_;obtain⟨g,k⟩:=Array.getElem?_eq_some_iff.mp p;simp only[show¬#[wR]from by lia,Ab,lR,Array.getElem?_eq_getElem g];rw[1957]
 first|refine aX #[tC]|refine aX #[ty]
 refine aX (wpAny_isOneOf_keyiter a.typeIs ?_);show bF _ _ (setField #[gk] 1 #[ks]>>=_) _ _ s;refine aX (wpAny_setField j hd #[p] ?_);have b:(s.heap.update it (Obj.mapFields (·.setIfInBounds 1 #[ks]))).IsKeyIter it d (i+1) n h:=(_,Heap.get?_update_self _ j (Obj.isFreed_of_fields (Obj.data_mapFields hd _)),(Obj.cls_mapFields ..).trans r,by rw[Obj.data_mapFields hd];simp[rawInt])
 refine aX (wpAny_holding ?_);refine aX (wpAny_isOneOf_keyiter (s:={s with heap:=s.heap.update it (Obj.mapFields (·.setIfInBounds 1 #[ks]))}) b.typeIs ?_)
 show bF _ _ (pure es[i].key) _ _ _;rw[k];exact bA (bA (_,rfl,bA (q _ b #[qd])))
def L4{it d:ae}{i n k:Nat}{l:Obj}{es:Array jz}{Q:Option ax->aL->Prop}(q:A.handled=none)(c:s.heap.IsKeyIter it d i n k)(e:s.heap.get? d=some l)(f:l.data= .dict es k) (hsz:es.size=n) (j:n<=i) (r:∀h',Heap.ExtBut it s.heap h'->Q none {s with heap:=h'}):bF #[au] A #[lF] Q E s:=by
 let(o,p,t,hd):=41 (id c);unfold pyNext;refine aX (wpAny_attempt (yy (name:=Str.ofString "__next__") c.typeIs F.slot_dict_keyiterator_next (vH F.slot_dict_keyiterator_next c.typeIs F.entry_dict_keyiterator_next ?_ #[k6])));rw[1948];rw[1957];rw[1957]
 first|refine aX #[tB]|refine aX #[tx]
 refine aX (wpAny_fieldsOf p hd ?_);have g:Builtin.Dict_items.ownsTuple "dict_keyiterator"=false:=by decide
 simp only[g,GM,Ab];show bF _ _ #[m2] _ _ s;rw[2014];rw[1948];refine aX (EL e f ?_);rw[am #[v8]];rw[1948];refine aX (H0 e f ?_);rw[am #[p]];refine bA ?_;have h:es.size<=i:=by rw[hsz];exact j
 simp only[show¬#[wR]from by lia,Ab,lR,Array.getElem?_eq_none h];rw[1957]
 first|refine aX #[tB]|refine aX #[tx]
 show bF _ _ (setField #[gk] 0 .none>>=_) _ _ s;refine aX (wpAny_setField p hd #[p] ?_);show bF _ _ (newExc (.type "StopIteration") []>>=_) _ _ _;rw[1957];simp only[newExc,newTuple];refine aX (lK ?_ #[zM]);refine aX (m:=firstArgMember _ _) (wpAny_of_eq (a:=Value.none) (by first|rfl|(simp only[firstArgMember];rfl)) ?_);refine lK ?_ #[zM];simp only[raiseNew];refine aX (wpAny_handled ?_);rw[show A.in1.handled=none from q];refine aX (bA (wpAny_throw ?_));refine aX (wpAny_isInstance (T:="StopIteration") (b:=true) #[jJ] isSubtype_stop ?_);exact bA (r _ ((#[qd].extBut.push _).push _))
#where
def aee{d:Type}{c:List (d×V)}{vs:List (d×ax)}(h:KV c vs):∀{i:Nat} {k:d} {v:V},c[i]?=some ((k),v)->∃u,vs[i]?=some ((k),u)/\RelV v u:=by
 unfold KV at h
 induction h with
 |nil=>intro i k v e;simp at e
 | @cons a b l₁ l₂ r t f=>
  intro i k v e;cases i with
  |zero=>simp only[j0,dm.injEq]at e;rw[2046];refine(b.2,?_,r.2);simp only[j0];exact dA some (Prod.ext r.1.symm rfl)
  |succ j=>simp only[d9]at e ⊢;exact f e
def iZ{c d:Type}{G:c->d->Prop}{l₁:List c}{l₂:List d}(h:Paired G l₁ l₂):∀{i:Nat} {a:c},l₁[i]?=some a->∃b,l₂[i]?=some b/\G a b:=by
 induction h with
 |nil=>intro i a e;simp at e
 | @cons a b l₁ l₂ r t f=>
  intro i g e;cases i with
  |zero=>simp only[j0,dm.injEq]at e;rw[2046];exact(b,rfl,r)
  |succ j=>simp only[d9]at e ⊢;exact f e
def agA{k:Key}{u:ax}(h:G7 k u=true):RelV (kV k) u:=by
 rcases nB h with⟨i,t,rfl,rfl⟩|⟨x,t,rfl,rfl⟩
 ·exact #[ke]
 ·exact #[ke]
section
variable {X:Cx}{pins:List (ae×Obj)}{σ:St}{H:Hp}{s:aL}{d:ae}{o:Obj}
def Inv.S3{a:List #[iS]}(I:Inv X pins σ H s)(h:H d=some #[ew]):(d==lx)=false/\s.heap.get? d=some o/\o.ExactDict/\∃(es:Array jz) (c:Nat) (vs:List (Key×ax)),o.data= .dict es c/\es.size=a.length/\KV a vs/\s.heap.DictAt #[eh] d vs c:=by
 (let(hd,z,hs,e):=60 #[uf];let(vs,g,f):=21 e;let(l,es,c,i,j,b,r):=63 f)
 rw[hd]at i;cases i;refine(hs,hd,j,es,c,vs,b,?_,g,o,es,hd,j,b,r);have k:=r.2.1.length;have m:a.length=vs.length:=Paired.length g;rw[yX]at k
 lia
def Inv.agB{a:List #[cn]}(I:Inv X pins σ H s)(h:H d=some #[kT]):(d==lx)=false/\s.heap.get? d=some o/\o.ExactDict/\∃(es:Array jz) (c:Nat),o.data= .dict es c/\es.size=a.length/\∀(i:Nat) (k:List Key) (v:V),a[i]?=some ((k),v)->∃(l:jz) (q:ae),es[i]?=some l/\l.key= .ref q/\H q=some #[gj]:=by
 (let(hd,z,hs,f):=60 #[uf];let(xs,m,g):=21 f;let(u,es,c,n,p,j,he,_):=83 g)
 rw[hd]at n;cases n;refine(hs,hd,p,es,c,j,?_,λi k v e=> ?_)
 ·have w:es.size=xs.length:=size_of_entries he;have x:a.length=xs.length:=Paired.length m
  lia
 ·let(b,r,y,t,_):=61 (iZ m e);have q:=entry_at he i;rw[r]at q;exact(_,b.2.1,q,rfl,t)
#where
abbrev Itk(d:ae)(o:Obj)(a:List #[iS]):It:=(λi H=>H d=some #[ew]/\i<a.length,λi H x H'=>H'=H/\∃k v,a[i]?=some ((k),v)/\x=kV k,λi H=>H d=some #[ew]/\a.length<=i)
abbrev ako(d:ae)(o:Obj)(a:List #[cn]):It:=(λi H=>H d=some #[kT]/\i<a.length,λi H x H'=>H'=H/\∃(k:List Key) (v:V) (q:ae),a[i]?=some ((k),v)/\x= .ref q/\H q=some #[gj],λi H=>H d=some #[kT]/\a.length<=i)
abbrev Itd(d:ae)(o:Obj)(a:List #[iS]):It:=(λi H=>H d=some #[ew]/\i<a.length,λi H x H'=>H'=H/\∃k,a[i]?=some ((k),x),λi H=>H d=some #[ew]/\a.length<=i)
def Fw{o:Obj}{es a:Array jz}{c b:Nat}(h:o.data= .dict es c)(h':o.data= .dict a b):a=es/\b=c:=by rw[h]at h';cases h';exact(rfl,rfl)
section
variable {P:cj}{w:cY}{K:aA}{tg:cz}{d:ae}{o:Obj}{es:Array jz}{ep:Nat}
def aef{a:List #[iS]}(it:ae)(l:o.data= .dict es ep):Turn P w K tg (Itk d o a) [it] it (λi h=>h.IsKeyIter it d i a.length ep) where
 mem:=by simp
 obj:=λi h st b g=>by
  have e:b=it:=by simpa using g
  rw[2046];let(t,e,c,dd):=41 st;exact(t,e,λv z=>by rw[dd]at z;cases z)
 keep:=λi h h' st k=>st.at λt e=>k it #[p] t e
 item:=by
  rw[1973];rw[2110];rw[2129];rw[1995]
  (let(hs,m,Y,j):=60 #[wu];let(N,O,vs,f,hsz,R,hm):=63 j)
  rw[2029];obtain⟨⟨k,v⟩,n⟩:∃p,a[i]?=some p:=(a[i],aN D);let(u,Z,ru):=21 (aee R n);have U:a.length=vs.length:=Paired.length R;rw[U]at st;refine wpAny_pyNext_dict_item st hm Z λkey h' q r sb=> ?_;have I1:Inv X pins T H {s with heap:=h'}:=I.turned (t':=s.toks) (λb ob g e=>(sb.2 b g).trans e) F G J L M;let(t,e,c,dd):=41 (id r);refine(key,rfl,Ny (s:={s with heap:=h'}) e c dd #[c] (kV k,H,I1,agA (show G7 k key=true from q),(rfl,k,v,n,rfl),?_,λb g=>(x b g).1));show h'.IsKeyIter it d (i+1) a.length _;rw[U];exact r
 done:=by
  rw[1973];rw[2110];rw[2129];rw[1995]
  (let(hs,m,Y,j):=60 #[wu];let(N,O,vs,f,hsz,R,hm):=63 j)
  rw[2029];exact L4 #[CB,S] st m f hsz D λh' eb=>(rfl,I.turned (t':=s.toks) (λb ob g e=>eb b ob g e) F G J L M)
 self:=λA i s Q E st h=>wpAny_pyIter_keyiter st h
def ab9{f:List #[cn]}(it:ae)(m:o.data= .dict es ep):Turn P w K tg (ako d o f) [it] it (λi h=>h.IsKeyIter it d i f.length ep) where
 mem:=by simp
 obj:=λi h st b g=>by
  have e:b=it:=by simpa using g
  rw[2046];let(x,e,c,dd):=41 st;exact(x,e,λv z=>by rw[dd]at z;cases z)
 keep:=λi h h' st k=>st.at λx e=>k it #[p] x e
 item:=by
  rw[1977];subst B hw C;rw[2128];rw[2018]
  (let(hs,j,Z,l):=60 (I.agB hd);let(R,S,a,hsz,n):=42 l)
  rw[2027];obtain⟨⟨k,v⟩,r⟩:∃p,f[i]?=some p:=(f[i],aN G);let(en,q,T,t,hq):=42 (n i k v r);refine Vw st j a hsz T λh' u sb=> ?_;have I1:Inv X pins W H {s with heap:=h'}:=I.turned (t':=s.toks) (λb ob g e=>(sb.2 b g).trans e) J L M N O;let(x,e,c,dd):=41 (id u);exact(en.key,rfl,Ny (s:={s with heap:=h'}) e c dd #[c] (.ref q,H,I1,t,(rfl,k,v,q,r,rfl,hq),u,λb g=>(y b g).1))
 done:=by
  rw[1977];subst B hw C;rw[2128];rw[2018]
  (let(hs,j,Z,l):=60 (I.agB hd);let(R,S,a,hsz,n):=42 l)
  rw[2027];exact L4 #[CB,U] st j a hsz G λh' eb=>(rfl,I.turned (t':=s.toks) (λb ob g e=>eb b ob g e) J L M N O)
 self:=λA i s Q E st h=>by refine wpAny_pyIter_slot st.typeIs F.slot_dict_keyiterator_iter (vH F.slot_dict_keyiterator_iter st.typeIs F.entry_dict_keyiterator_iter ?_ (F.args_dict_keyiterator_iter_1 _));show bF _ _ (ret #[gk]) _ _ s;exact bA (_,rfl,"dict_keyiterator",_,st.typeIs,F.slot_dict_keyiterator_next.lookup,h)
def aeg{a:List #[iS]}(it:ae)(l:o.data= .dict es ep):Turn P w K tg (Itd d o a) [it] it (λi h=>h.IsValIter it d i a.length ep) where
 mem:=by simp
 obj:=λi h st b f=>by
  have e:b=it:=by simpa using f
  rw[2046];let(q,e,c,dd):=41 st;exact(q,e,λv z=>by rw[dd]at z;cases z)
 keep:=λi h h' st k=>st.at λq e=>k it #[p] q e
 item:=by
  rw[1974];rw[2110];rw[2127];rw[1996]
  (let(hs,M,W,g):=60 #[wu];let(N,O,vs,j,hsz,t,hm):=63 g)
  rw[2028];obtain⟨⟨k,v⟩,m⟩:∃p,a[i]?=some p:=(a[i],aN T);let(u,Y,Z):=21 (aee t m);rw[1968];rw[x]at st;refine wpAny_pyNext_values_item st hm Y λh' n sb=> ?_;have I1:Inv X pins S H {s with heap:=h'}:=I.turned (t':=s.toks) (λb ob f e=>(sb.2 b f).trans e) D F G J L;let(q,e,c,dd):=41 (id n);refine(u,rfl,Ny (s:={s with heap:=h'}) e c dd #[c] (v,H,I1,Z,(rfl,k,m),?_,λb f=>(r b f).1));show h'.IsValIter it d (i+1) a.length _;rw[x];exact n
 done:=by
  rw[1974];rw[2110];rw[2127];rw[1996]
  (let(hs,M,W,g):=60 #[wu];let(N,O,vs,j,hsz,t,hm):=63 g)
  rw[2028];rw[1968];rw[x]at st;exact wpAny_pyNext_values_end #[CB,R] st hm (eT #[f]) λh' eb=>(rfl,I.turned (t':=s.toks) (λb ob f e=>eb b ob f e) D F G J L)
 self:=λA i s Q E st h=>wpAny_pyIter_valiter st h
#where
abbrev al3(c:TE):TI:=λe H R=>c e H λx b=>∃d o,x= .ref d/\((∃a,b d=some #[ew]/\R (Itk d o a) b)\/∃a,b d=some #[kT]/\R (ako d o a) b)
abbrev al4(c:TE):TI:=λe H R=>c e H λx b=>∃d o a,x= .ref d/\b d=some #[ew]/\R (Itd d o a) b
section
variable {X:Cx}{tg e:cz}{td:TE}{apos lD:Pos}
def aiT(he:PE X e td):PI X tg e (al3 td):=by
 intro pins s l H R I h;refine da #[CC,l] λu k g=> ?_
 (let(x,r,f,m,a):=42 g;let(d,o,ex,q):=22 a)
 rw[2076];obtain rfl:u=Value.ref d:=m;rcases q with⟨i,hd,q⟩|⟨i,hd,q⟩
 ·(let(hs,c,j,a):=60 (f.S3 hd);let(es,n,vs,b,hsz,t,hm):=63 a)
  refine US hs c j b (QZ (tk:=k.toks) f _ (aef _ b) #[dr] q);rw[hsz]<;>rfl
 ·(let(hs,c,j,a):=60 (f.agB hd);let(es,n,b,hsz,p):=42 a)
  refine US hs c j b (QZ (tk:=k.toks) f _ (ab9 _ b) #[dr] q);rw[hsz]<;>rfl
def aeh(he:PE X e td)(c:oI e "values" X.env #[gM]=eval e X.env:=by rfl)(f:#[dj]=true:=by rfl):PI X tg (.Call (.Attribute e "values" apos) [] [] lD) (al4 td):=by
 intro pins s i H R I h;refine y2 (T:="dict") (id:="dict.values") c rfl f F.plainAttrs_dict F.slot_dict_values F.type_dict_values (da #[CC,i] λu a j=> ?_)
 (let(x,p,n,r,g):=42 j;let(d,o,k,ex,hd,q):=43 g)
 rw[2076];obtain rfl:u=Value.ref d:=r
 (let(hs,t,B,g):=60 (n.S3 hd);let(es,C,vs,l,hsz,v,hm):=63 g)
 have y:k.length=vs.length:=Paired.length v;refine(hm.dictOf.typeIs,hm.dictOf.mapOf.noDict,?_);have z:Inv X pins i p {a with heap:=a.heap.push {cls:= .type "dict_values",data:= .fields #[.ref d,]}}:=n.kept (t':=a.toks) λb ob q=>Heap.get?_push_of_some _ q;have m:bF #[g] X.A (pyIter #[rc]) (PIE X pins i tg R) X.xe {a with heap:=a.heap.push {cls:= .type "dict_values",data:= .fields #[.ref d,]}}:=by refine wpAny_pyIter_values (d:=d) (knd:=gm X.prog X.w) #[bs] (hm.push _) (QZ (tk:=a.toks) z _ (aeg _ l) #[dr] q);rw[y]<;>rfl
 show bF _ _ (callWith lD (.builtin "dict.values") #[sJ] [] []) _ X.xe a;exact method_meetsIn F.slot_dict_values F.entry_dict_values rfl (PySem.evalArgs_none (rfl,hm.dictOf.typeIs,F.args_dict_values_1 _,_,meets_dict_values #[eh] d hs,(vs,hm.dictOf),m))
#where
abbrev Ite(K:aA)(a:ae):It:=(λi H=>∃(xs:List V) (x:V),a8 K H a xs/\xs[i]?=some x,λi H v H'=>∃T x,v= .ref T/\H T=none/\H'=upd H T #[fp]/\∀xs,a8 K H a xs->xs[i]?=some x,λi H=>∃xs:List V,a8 K H a xs/\xs.length<=i)
def aei{P:cj}{w:cY}{K:aA}{m:List cz}{kk:Nat}{n:Pos}(a e it:ae):Turn P w K (.Tuple m kk n) (Ite K a) [e,it] e (λi h=>(∃c,IsEnum h e it #[sD] c)/\h.IsListIter it a i/\e≠it) where
 mem:=by simp
 obj:=λi h st b g=>by
  (let(f,C,_):=40 st;let(c,he):=1 f;let(o,D,F,hd):=41 C)
  have G:b=e\/b=it:=by simpa using g
  rw[2069]
  ·rw[z];exact(_,he,λv q=>nomatch q)
  ·rw[z];exact(o,D,λv q=>by rw[hd]at q;cases q)
 keep:=λi h h' st k=>let((c,he),hi,d):=st;((c,k e #[p] _ he),hi.at λo q=>k it #[p] o q,d)
 item:=by
  rw[1976];subst J hw L
  (let(f,j,d):=40 st;let(c,he):=1 f)
  let(xs,x,B,N):=22 M;rw[2008];let(u,hu,ru):=21 (R.get N);have r:e<s.heap.objs.size:=Heap.lt_size he;have S:it<s.heap.objs.size:=by let(_,q,_):=21 j;exact Heap.lt_size q
  refine wpAny_pyNext_enum_item he j p.isList (x:=u) #[tN] d λh' D t hT hsz hk=> ?_;refine(_,rfl,wpAny_letOwnedTupleGo_enum (s:={s with heap:=h',toks:=s.toks+1}) D λl T U=> ?_);have V:l.get? s.heap.objs.size=some {cls:= .type "tuple",data:= .seq #[.int i s.toks,u]}:=(U.2 _ (KY r)).trans hT;have new:j1 X.prog X.w #[mx] l s.heap.objs.size #[fp]:=(by show 2<=aS;decide,[.int i s.toks,u],.cons #[O] (.cons ru .nil),(_,V,rfl,_,rfl));have I1:Inv X pins Z #[mx] {s with heap:=l,toks:=s.toks+1}:=I.UR (ch:=[e,it]) (λb ob g q=>(U.2 b (λz=>g #[jc])).trans (hk b ob (λz=>g #[jc]) (λz=>g #[jc]) q)) y #[gw] new;refine(.ref s.heap.objs.size,_,I1,rfl,(_,x,rfl,I.cQ.fresh #[gw],rfl,λys hy=>by rw[I.FK hy B];exact N),((u,?_),t.at λo q=>(U.2 it #[Cs,d]).trans q,d),λb g=> ?_)
  ·have e1:#[h1]=(i:Int)+1:=by lia
   rw[e1];exact T
  ·have Y:b<s.heap.objs.size:=by
    have G:b=e\/b=it:=by simpa using g
    rw[2069]
    ·rw[z];exact r
    ·rw[z];exact S
   rw[aE (gj Y)];exact(y b g).1
 done:=by
  rw[1976];subst J hw L
  (let(f,j,d):=40 st;let(c,he):=1 f)
  let(xs,B,N):=21 M;rw[2008];let(f0,f1,f2,f3,f4,f5):=100 #[vo];have hl:=R.length;exact wpAny_pyNext_enum_end #[CB,F] he j p.isList #[jX] λh' eb=>(rfl,I.turned (t':=s.toks) (λb o g q=>eb b o g q) f0 f1 f3 f4 f5)
 self:=λA i s Q E st h=>let((_,he),_):=st;wpAny_pyIter_enum he h
abbrev al5(K:aA)(c:TA):TI:=λd H R=>c d H λvs b=>∃a xs,vs=#[jv]/\a8 K b a xs/\R (Ite K a) b
def S4{X:Cx}{e:cz}{m:TA}{p d f:Pos}{g:List cz}{t:Nat}(u:Gl X "enumerate")(hm:X.mg "enumerate"=none)(v:PA X [e] m)(hs:bV [e] X.env=[#[A]]:=by rfl):PI X (.Tuple g t f) (.Call (.Name "enumerate" p) [e] [] d) (al5 X.K m):=by
 intro pins s n H R I h;refine Call_ (Do I u hm boot_enumerate (PyProof.Rows.callWith_type1 (da (v d pins s n H _ I h) λus c k=>e2_2 k λvs o j w x=> ?_) hs rfl));let(a,xs,ex,y,q):=42 x;rw[2076];cases w with
 |cons r A=>
  cases A;cases r;let(B,J,C,hz):=41 (j.list y);refine call_enumerate_list C.isList λh' he l hsz D=>wpAny_pyIter_enum he ?_;have E:Inv X pins n o {c with heap:=h'}:=j.kept (t':=c.toks) D;refine(c.heap.objs.size+1,[c.heap.objs.size+1,c.heap.objs.size],_,_,o,rfl,E,aei a (c.heap.objs.size+1) c.heap.objs.size,((.none,he),l,Nat.succ_ne_self _),λb F=> ?_,q);have G:b=c.heap.objs.size+1\/b=c.heap.objs.size:=by simpa using F
  have i:c.heap.objs.size<=b:=by
   rw[2069]
   ·rw[z];rw[2060]
   ·rw[z];exact be _
  exact j.SO i (j.cQ.fresh i)
def aej:sd "zip"=some (.type "zip"):=by decide+kernel
abbrev Itz(K:aA)(a b:ae):It:=(λi H=>∃(xs ys:List V) (x y:V),a8 K H a xs/\a8 K H b ys/\xs[i]?=some x/\ys[i]?=some y,λi H v H'=>∃T x y,v= .ref T/\H T=none/\H'=upd H T (.tup [x,y])/\(∀xs,a8 K H a xs->xs[i]?=some x)/\∀ys,a8 K H b ys->ys[i]?=some y,λi H=>∃xs ys:List V,a8 K H a xs/\a8 K H b ys/\(xs.length<=i\/ys.length<=i))
def agC{P:cj}{w:cY}{K:aA}{M:List cz}{kk:Nat}{N:Pos}{a b z TI TO m n:ae}(D:ZipApart z TI TO m n a b):Turn P w K (.Tuple M kk N) (Itz K a b) #[rL] z (λi h=>IsZip h z TI TO .none/\IsPair h TI #[z7] (.ref n)/\(∃x y,IsPair h TO x y)/\h.IsListIter m a i/\h.IsListIter n b i) where
 mem:=by simp
 obj:=λi h st c U=>by
  (let(hz,d,g,y2_,y3_):=80 st;let(o2,e2,_,d2):=41 y3_;let(x,y,e):=2 g;let(o1,e1,_,d1):=41 y2_)
  have e':c=z\/c=TI\/c=TO\/c=m\/c=n:=by simpa using U
  rw[2100]
  ·rw[q];exact(_,hz,λv q=>nomatch q)
  ·rw[q];exact(_,d,λv q=>nomatch q)
  ·rw[q];exact(_,e,λv q=>nomatch q)
  ·rw[q];exact(o1,e1,λv q=>by rw[d1]at q;cases q)
  ·rw[q];exact(o2,e2,λv q=>by rw[d2]at q;cases q)
 keep:=λi h h' st k=>by
  (let(hz,d,g,G,J):=80 st;let(x,y,e):=2 g)
  exact(k z #[p] _ hz,k TI #[p] _ d,(x,y,k TO #[p] _ e),G.at λo q=>k m #[p] o q,J.at λo q=>k n #[p] o q)
 item:=by
  rw[1961];subst hP hw hK
  (let(hz,d,g,G,J):=80 st;let(x0,y0,e):=2 g)
  let(xs,ys,x,y,r,t,hx,hy):=64 hg;rw[2007];rw[2009];let(u,hu,ru):=21 (rv.get hx);let(Y,hu2,ru2):=21 (C.get hy);have R:z<s.heap.objs.size:=Heap.lt_size hz;refine wpAny_pyNext_zip_item D hz d e G J p.isList p2.isList (x:=u) (y:=Y) #[tN] (by simpa using hu2) λh' z' TO' h1' h2' hT hsz Z=> ?_;refine(_,rfl,wpAny_letOwnedTupleGo_zip (s:={s with heap:=h'}) z' λF z'' L=> ?_);have hT2:F.get? s.heap.objs.size=some {cls:= .type "tuple",data:= .seq #[u,Y,]}:=(L.2 _ (KY R)).trans hT;have new:j1 X.prog X.w #[jP] F s.heap.objs.size (.tup [x,y]):=(by show 2<=aS;decide,[u,Y],.cons ru (.cons ru2 .nil),(_,hT2,rfl,_,rfl));have I1:Inv X pins σ #[jP] {s with heap:=F}:=I.UR (t':=s.toks) (ch:=#[rL]) (λc o j q=>(L.2 c (λf=>j #[eX])).trans (Z c o (λf=>j #[eX]) (λf=>j #[eX]) (λf=>j #[eX]) (λf=>j #[eX]) q)) V #[gw] new;refine(.ref s.heap.objs.size,_,I1,rfl,(_,x,y,rfl,I.cQ.fresh #[gw],rfl,λl hl=>by rw[I.FK hl r];exact hx,λl hl=>by rw[I.FK hl t];exact hy),(z'',?_,(u,Y,?_),?_,?_),λc S=> ?_)
  ·exact(L.2 _ D.TIz).trans (Z _ _ D.TIz D.TITO D.TIi1 D.TIi2 d)
  ·exact(L.2 _ D.TOz).trans TO'
  ·exact h1'.at λo q=>(L.2 _ D.i1z).trans q
  ·exact h2'.at λo q=>(L.2 _ D.i2z).trans q
  ·have FL:c<s.heap.objs.size:=by
    have e':c=z\/c=TI\/c=TO\/c=m\/c=n:=by simpa using S
    rw[2100]
    ·rw[q];exact R
    ·rw[q];exact Heap.lt_size d
    ·rw[q];rw[1896]
    ·rw[q];let(_,e1,_):=21 G;exact Heap.lt_size e1
    ·rw[q];let(_,e2,_):=21 J;exact Heap.lt_size e2
   rw[aE (gj FL)];exact(V c S).1
 done:=by
  rw[1961];subst hP hw hK
  (let(hz,d,g,G,J):=80 st;let(x0,y0,e):=2 g)
  let(xs,ys,r,t,T):=42 hg;rw[2007];rw[2009];have l1:=rv.length;have l2:=C.length;have he:O.toArray[i]?=none\/B.toArray[i]?=none:=by
   rcases T with q|q
   ·exact .inl #[jX]
   ·exact .inr #[jX]
  exact wpAny_pyNext_zip_end #[CB,U] D hz d e G J p.isList p2.isList he λh' Z=>(rfl,I.aiS (t':=s.toks) (ch:=#[rL]) (λc o j q=>
   Z c o (λf=>j #[eX]) (λf=>j #[eX]) (λf=>j #[eX]) (λf=>j #[eX]) q) V)
 self:=λA i s Q E st h=>wpAny_pyIter_zip st.1 h
abbrev aop(K:aA)(d:TA):TI:=λe H R=>d e H λvs c=>∃a b xs ys,vs=#[o4]/\a8 K c a xs/\a8 K c b ys/\R (Itz K a b) c
def akp{X:Cx}{e g:cz}{y:TA}{p f i:Pos}{j:List cz}{F:Nat}(G:Gl X "zip")(hm:X.mg "zip"=none)(J:PA X [e,g] y) (hs:bV [e,g] X.env=#[A]::bV [g] X.env:=by rfl) (m:(jS f (bV [g] X.env)).any (·.1)=false:=by rfl):PI X (.Tuple j F i) (.Call (.Name "zip" p) [e,g] [] f) (aop X.K y):=by
 intro pins s A H R I h;refine Call_ (Do I G hm aej (PyProof.Rows.callWith_type1 (da (J f pins s A H _ I h) λus d n=>e2_2 n λvs B k L M=> ?_) hs m));let(a,b,xs,ys,ex,o,t,q):=64 M;rw[2076];cases L with
 |cons r u=>
  cases u with
  |cons N u=>
   cases u;cases r;cases N;let(O,rv,C,_):=41 (k.list o);let(D,P,E,_):=41 (k.list t);have Q:a<d.heap.objs.size:=C.lt;have S:b<d.heap.objs.size:=E.lt;refine call_zip_2 C.isList E.isList λh' hz v w T U hsz V=>wpAny_pyIter_zip hz ?_;have Y:Inv X pins A B {d with heap:=h'}:=k.kept (t':=d.toks) V;refine(d.heap.objs.size+4,[d.heap.objs.size+4,d.heap.objs.size+2,d.heap.objs.size+3,d.heap.objs.size,d.heap.objs.size+1],_,_,B,rfl,Y,agC (PySem.W.ktu_apart d.heap.objs.size a b Q S),(hz,v,(_,_,w),T,U),λc x=> ?_,q);have Z:c=d.heap.objs.size+4\/c=d.heap.objs.size+2\/c=d.heap.objs.size+3\/c=d.heap.objs.size\/c=d.heap.objs.size+1:=by simpa using x
   have l:d.heap.objs.size<=c:=by
    rcases Z with z|z|z|z|z
    ·rw[z];rw[2060]
    ·rw[z];rw[2060]
    ·rw[z];rw[2060]
    ·rw[z];exact be _
    ·rw[z];rw[2060]
   exact k.SO l (k.cQ.fresh l)
#print L2
section
namespace aoq
open PySem PyProof.Rows
#print aoq
#where
section
namespace TL
open PySem PySem.Builtin PySem.Builtin.Str PySem.StrLaws
nonrec abbrev tl (x:Str):List Nat:=x.cps.toList
def akq(x:Str):x.length=(tl x).length:=by simp[tl,Str.length]
abbrev pre(S l:List Nat):Bool:=l.take S.length==S
abbrev par(S:List Nat):List Nat->List Nat->Option (List Nat×List Nat)
 |_,[]=>none
 |acc,c::r=>if pre S (c::r)=true then some ((acc),(c::r).drop S.length)else par S (acc++[c]) r
def ve{y:Str}(a:tl y≠[]):1<=y.length:=by have b:0<(tl y).length:=Ov.mpr a;rw[akq y];exact b
#print TL
#where
namespace L2
open PySem PySem.Spec PyProof.Rows
section
variable {X:Cx}{pins:List (ae×Obj)}{σ:St}{H:Hp}{s:aL}{Q:VK}
#where
section
variable {X:Cx}
#where
section
variable {X:Cx}{o e:cz}{to te:TE}
#where
#print L2
namespace L2
open PySem PySem.Spec PyProof.Rows
section
variable {X:Cx}
#where
#print L2
namespace Att
open PySem PySem.W PySem.Calls PyProof.Rows
section
variable {prog:cj}{w:cY}{A:dE}{E:ax->aL->Prop}{s:aL}{K:Frag}
#where
#print Att
section
namespace L2
open PySem PySem.Spec PyProof.Rows
open PySem.W (WData Codec OpenSpec Well WellAll ReadsW ReadsAllW)
mutual
inductive Dw(K:aA)(H:Hp):V->WData->Prop
 |cG:Dw K H .cG .none
 |bl (b:Bool):Dw K H (.bl b) (.bool b)
 |int (i:Int):Dw K H (.int i) (.int i)
 |str (x:Str):Dw K H (.str x) (.str x)
 |Av (b:Array UInt8):Dw K H (.Av b) (.bytes b.toList)
 |lst {a:ae} {xs:List V} {ds:List WData}:a8 K H a xs->zp K H xs ds->Dw K H (.ref a) (.list ds)
 |tup {a:ae} {xs:List V} {ds:List WData}:cK K H a xs->zp K H xs ds->Dw K H (.ref a) (.tuple ds)
inductive zp(K:aA)(H:Hp):List V->List WData->Prop
 |nil:zp K H [] []
 |cons {v:V} {vs:List V} {d:WData} {ds:List WData}:Dw K H v d->zp K H vs ds->zp K H (v::vs) (d::ds)
end
def abn{K:aA}{H:Hp}:∀ns:List Int,zp K H #[N] #[uJ]
 |[]=> .nil
 |n::r=> .cons #[wF] (abn r)
def abo{K:aA}{H:Hp}:∀(ns:List Int) (xs:List V),zp K H xs #[uJ]->xs=ns.map V.int
 |[],xs,h=>by cases h;rfl
 |n::r,xs,h=>by
  cases h with
  |cons a b=>cases a;rw[abo r _ b]<;>rfl
section
variable {P:cj}{w:cY}{K:aA}{H:Hp}{h:cZ}{R:UD}{cl:Str->Option ae}
def akr{a:ae}{xs:List V}(cQ:ow P w H h)(f:K.In h)(q:a8 K H a xs):∃(b:List ax) (o:Obj) (n:Nat),Vals xs b/\h.get? a=some o/\o.cls= .type "list"/\o.data= .seq b.toArray n:=by
 rcases q with q|⟨o,b,n,e,g,_,hd,_,c⟩
 ·(let(_,d):=20 (show j1 P w H h a #[ai]from q.ok cQ);let(b,n,c,e):=22 d)
  exact(b,_,n,c,e,rfl,rfl)
 ·exact(b.toList,o,n,c,f _ _ e,g,by simp[hd])
def aks{a:ae}{xs:List V}(cQ:ow P w H h)(j:K.In h)(q:cK K H a xs):∃(b:List ax) (o:Obj) (n:Nat),Vals xs b/\h.get? a=some o/\o.cls= .type "tuple"/\o.data= .seq b.toArray n:=by
 rcases q with q|⟨o,b,n,e,c,hd,_,d⟩
 ·(let(_,f):=20 (show j1 P w H h a #[bL]from q.ok cQ);let(b,d,g):=21 f;let(o,e,c,i):=41 g;let(n,hd):=1 i)
  exact(b,o,n,d,e,c,hd)
 ·exact(b.toList,o,n,d,j _ _ e,c,by simp[hd])
mutual
abbrev Dw.reads(cQ:ow P w H h)(KX:K.In h):∀(d:WData) (v:V) (u:ax),Dw K H v d->RelV v u->∃as,ReadsW R cl h u d as
 | .none,_,_,x,r=>by cases x;cases r;exact(_,ReadsW.none)
 | .bool b,_,_,x,r=>by cases x;cases r;exact(_,ReadsW.bool b)
 | .int i,_,_,x,r=>by cases x;rw[1940];exact(_,ReadsW.int i t)
 | .str s,_,_,x,r=>by cases x;rw[1940];exact(_,ReadsW.str s t)
 | .bytes b,_,_,x,r=>by cases x;rw[1940];exact(_,ReadsW.bytes _ t)
 | .list ds,_,_,x,r=>by
  cases x with
  |lst hs ha=>cases r;let(its,o,n,rv,ho,hc,hd):=63 (akr cQ KX hs);rw[2081];exact(_,ReadsW.list ho hc hd hr)
 | .tuple ds,_,_,x,r=>by
  cases x with
  |tup hs ha=>cases r;let(its,o,n,rv,ho,hc,hd):=63 (aks cQ KX hs);rw[2081];exact(_,ReadsW.tuple ho hc hd hr)
 | .float _,_,_,x,_=>by cases x
 | .dict _,_,_,x,_=>by cases x
 | .bytearray _,_,_,x,_=>by cases x
 | .set _,_,_,x,_=>by cases x
 | .frozenset _,_,_,x,_=>by cases x
 | .obj _ _,_,_,x,_=>by cases x
abbrev Dw.readsAll(cQ:ow P w H h)(KX:K.In h):∀(ds:List WData) (vs:List V) (us:List ax),zp K H vs ds->Vals vs us->∃as,ReadsAllW R cl h us ds as
 |[],_,_,x,r=>by cases x;cases r;exact(_,ReadsAllW.nil)
 |d::ds,_,_,x,r=>by
  cases x with
  |cons h1 h2=>
   cases r with
   |cons r1 r2=>let(as,q1):=1 (Dw.reads cQ KX d _ _ h1 r1);let(bs,q2):=1 (Dw.readsAll cQ KX ds _ _ h2 r2);exact(_,ReadsAllW.cons q1 q2)
end
#where
mutual
abbrev Hn:WData->Bool
 | .none=>true
 | .bool _=>true
 | .int _=>true
 | .str _=>true
 | .bytes _=>true
 | .list xs=>DY xs
 | .tuple xs=>DY xs
 |_=>false
abbrev DY:List WData->Bool
 |[]=>true
 |x::r=>Hn x&&DY r
end
def Xs{b:Type}{f:b->WData}(h:∀a,Hn (f a)=true):∀l:List b,DY #[AR]=true
 |[]=>rfl
 |x::r=>by show(Hn (f x)&&DY (r.map f))=true;rw[h x,Xs h r]<;>rfl
def Ds:∀(c:Codec) (a:c.denote),Hn (c.enc a)=true
 | .unit,_=>rfl
 | .bool,_=>rfl
 | .int _ _,_=>rfl
 | .nat _ _,_=>rfl
 | .u8,_=>rfl
 | .bytes _ _,_=>rfl
 | .text _ _ _ _,_=>rfl
 | .list _ _ c,a=>Xs (λx=>Ds c x) a
 | .pair c d,a=>by show(Hn #[v6]&&(Hn (d.enc a.2)&&true))=true;rw[Ds c a.1,Ds d a.2]<;>rfl
 | .triple c d e,a=>by show(Hn #[v6]&&(Hn (d.enc a.2.1)&&(Hn (e.enc a.2.2)&&true)))=true;rw[Ds c a.1,Ds d a.2.1,Ds e a.2.2]<;>rfl
 | .option c,none=>rfl
 | .option c,some x=>Ds c x
def UT:∀(cs:List Codec) (a:Codec.denoteAll cs),DY #[uj]=true
 |[],_=>rfl
 |c::cs,a=>by show(Hn #[v6]&&DY #[sw])=true;rw[Ds c a.1,UT cs a.2]<;>rfl
def J0:∀{xs:List WData} {d:WData},d∈xs->d.weight<=WData.weightAll xs
 |[],d,h=>absurd h #[p]
 |x::r,d,h=>by
  show d.weight<=x.weight+1+WData.weightAll r;rcases b7.mp h with e|m
  ·rw[e]
   lia
  ·have z:=J0 m
   lia
abbrev toV:ax->V
 | .none=> .cG
 | .bool b=> .bl b
 | .int i _=> .int i
 | .str x _=> .str x
 | .bytes b _=> .Av b
 | .ref a=> .ref a
 |_=> .cG
abbrev Jg(A:List ae):ax->Prop
 | .none=>True
 | .bool _=>True
 | .int _ _=>True
 | .str _ _=>True
 | .bytes _ _=>True
 | .ref a=>a∈A
 |_=>False
def Jg.mono{A B:List ae}(h:∀a∈A,a∈B):∀{u:ax},Jg A u->Jg B u:=λ{u} x=>by
 cases u with
 |ref a=>exact h a x
 |none=>trivial
 |bool b=>trivial
 |int i t=>trivial
 |str s t=>trivial
 |bytes b t=>trivial
 |_=>exact False.elim x
def agD{A:List ae}{u:ax}(x:Jg A u):RelV (toV u) u:=by
 cases u with
 |ref a=>rfl
 |none=>rfl
 |bool b=>rfl
 |int i t=>exact #[ke]
 |str s t=>exact #[ke]
 |bytes b t=>exact #[ke]
 |_=>exact False.elim x
def B8{A:List ae}:∀{vs:List ax},#[cP]->Vals #[fU] vs
 |[],_=> .nil
 |u::r,h=> .cons (agD (h u (bg ..))) (B8 λx a=>h x #[zU])
abbrev zq(h:cZ)(A:List ae)(a:ae):Prop:=∃vs:List ax,vs.length<=aS/\#[cP]/\(h.get? a=some {cls:= .type "list",data:= .seq vs.toArray}\/h.get? a=some {cls:= .type "tuple",data:= .seq vs.toArray})
def zq.mono{h:cZ}{A B:List ae}{a:ae}(k:∀a∈A,a∈B)(x:zq h A a):zq h B a:=by let(vs,b,c,d):=41 x;exact(vs,b,λu e=>(c u e).mono k,d)
def Ik{P:DW}{h:cZ}:∀{vs:List ax} {a:List WData},WellAll P h vs a->vs.length=a.length:=by
 intro vs
 induction vs with
 |nil=>intro a q;rw[2090];rfl
 |cons v vs c=>intro a q;cases q with
  |cons _ b=>show _+1=_+1;rw[c b]
def UU{P:DW}{h:cZ}{v:ax}{c:List WData}(x:Well P h v (.list c)):∃(a:ae) (vs:List ax),v= .ref a/\h.get? a=some {cls:= .type "list",data:= .seq vs.toArray}/\WellAll P h vs c:=by
 cases x with
 |list d b=>exact #[vg]
def Q0{P:DW}{h:cZ}{v:ax}{c:List WData}(x:Well P h v (.tuple c)):∃(a:ae) (vs:List ax),v= .ref a/\h.get? a=some {cls:= .type "tuple",data:= .seq vs.toArray}/\WellAll P h vs c:=by
 cases x with
 |tuple d b=>exact #[vg]
def UV{P:DW}{h:cZ}{us:List ax}{d:WData}{c:List WData}(x:WellAll P h us (d::c)):∃(v:ax) (vs:List ax),us=v::vs/\Well P h v d/\WellAll P h vs c:=by
 cases x with
 |cons a b=>exact(_,_,rfl,a,b)
def abp{n:Nat}(h:n<=1048576):n<=aS:=dk h #[c]
section
variable {P:DW}{h:cZ}
mutual
abbrev agE:∀(d:WData) (v:ax),Well P h v d->Hn d=true->d.weight<=1048576->∃A:List ae,Jg A v/\∀a∈A,zq h A a
 | .none,_,x,_,_=>by cases x;rw[2094]
 | .bool b,_,x,_,_=>by cases x;rw[2094]
 | .int i,_,x,_,_=>by cases x;rw[2094]
 | .str s,_,x,_,_=>by cases x;rw[2094]
 | .bytes b,_,x,_,_=>by cases x;rw[2094]
 | .list ds,_,x,p,z=>by
  let(a,vs,rfl,ho,J1):=42 (UU x);rw[1981];rw[2057];rw[1966];refine #[ms];rw[2101]
  ·rw[e];exact(vs,abp #[k3],λu hu=>(h1 u hu).mono k,.inl ho)
  ·exact(h2 b m).mono k
 | .tuple ds,_,x,p,z=>by
  let(a,vs,rfl,ho,J1):=42 (Q0 x);rw[1981];rw[2057];rw[1966];refine #[ms];rw[2101]
  ·rw[e];exact(vs,abp #[k3],λu hu=>(h1 u hu).mono k,.inr ho)
  ·exact(h2 b m).mono k
 | .float _,_,_,p,_=>gC (show false=true from p)
 | .dict _,_,_,p,_=>gC (show false=true from p)
 | .bytearray _,_,_,p,_=>gC (show false=true from p)
 | .set _,_,_,p,_=>gC (show false=true from p)
 | .frozenset _,_,_,p,_=>gC (show false=true from p)
 | .obj _ _,_,_,p,_=>gC (show false=true from p)
abbrev J2:∀(ds:List WData) (vs:List ax),WellAll P h vs ds->DY ds=true->(∀d∈ds,d.weight<=1048576)->∃A:List ae,#[cP]/\∀a∈A,zq h A a
 |[],_,x,_,_=>by cases x;exact([],λu m=>absurd m #[p],λa m=>absurd m #[p])
 |d::ds,_,x,p,z=>by
  let(v,vs,rfl,x1,x2):=42 (UV x);rw[1983];let(A,a1,a2):=21 (agE d v x1 q.1 (z d (bg ..)));let(B,b1,b2):=21 (J2 ds vs x2 q.2 λe he=>z e (a9 _ he));have kA:∀b∈A,b∈A++B:=λb hb=>a4.mpr (.inl hb);have kB:∀b∈B,b∈A++B:=λb hb=>a4.mpr (.inr hb);refine(A++B,λu hu=> ?_,λb hb=> ?_)
  ·rcases b7.mp hu with e|m
   ·rw[e];exact a1.mono kA
   ·exact(b1 u m).mono kB
  ·rcases a4.mp hb with m|m
   ·exact(a2 b m).mono kA
   ·exact(b2 b m).mono kB
end
#where
abbrev aca(o:Obj):Option HO:=match o.data with
 | .seq vs _=>if(o.cls==Value.type "list")=true then some (.jh o #[Da,#[tu]])else some (.jh o (.tup #[tu]))
 |_=>none
abbrev vf(K:aA)(h:cZ)(A:List ae):Hp:=λb=>if b∈A then(if(K.lookup b).isNone=true then(h.get? b).bind aca else none)else none
abbrev Q3(H:Hp):Prop:=∀b,H b=none\/∃o u,H b=some #[pS]
def Xt(vs:List ax):aca {cls:= .type "list",data:= .seq vs.toArray}=some (.jh {cls:= .type "list",data:= .seq vs.toArray} #[Da,#[fU]]):=by show(if(Value.type "list"==Value.type "list")=true then some (HO.jh {cls:= .type "list",data:= .seq vs.toArray} #[Da,#[dI]])else some (HO.jh {cls:= .type "list",data:= .seq vs.toArray} (.tup #[dI])))=_;rw[aq (beq_self_eq_true _)]
def Xu(vs:List ax):aca {cls:= .type "tuple",data:= .seq vs.toArray}=some (.jh {cls:= .type "tuple",data:= .seq vs.toArray} (.tup #[fU])):=by show(if(Value.type "tuple"==Value.type "list")=true then some (HO.jh {cls:= .type "tuple",data:= .seq vs.toArray} #[Da,#[dI]])else some (HO.jh {cls:= .type "tuple",data:= .seq vs.toArray} (.tup #[dI])))=_;rw[am #[c]]
section
variable {P:cj}{w:cY}{K:aA}{h:cZ}{A:List ae}
def NE{b:ae}{o:Obj}(a:b∈A)(c:K.lookup b=none)(e:h.get? b=some o):vf K h A b=aca o:=by unfold vf;rw[aq a,c,aq (show(none:Option Obj).isNone=true from rfl),e]<;>rfl
def aiU{b:ae}{u:HO}(q:vf K h A b=some u):b∈A/\K.lookup b=none:=by
 unfold vf at q;by_cases a:b∈A
 ·rw[aq a]at q;cases c:K.lookup b with
  |none=>exact(a,rfl)
  |some o=>rw[c,am #[p]]at q;rw[2090]
 ·rw[am a]at q;rw[2090]
def NF(f:∀a∈A,zq h A a){b:ae}{u:HO}(q:vf K h A b=some u):K.lookup b=none/\∃vs:List ax,vs.length<=aS/\#[cP]/\((h.get? b=some {cls:= .type "list",data:= .seq vs.toArray}/\u= .jh {cls:= .type "list",data:= .seq vs.toArray} #[Da,#[fU]])\/(h.get? b=some {cls:= .type "tuple",data:= .seq vs.toArray}/\u= .jh {cls:= .type "tuple",data:= .seq vs.toArray} (.tup #[fU]))):=by
 let(c,d):=20 (aiU q);let(vs,g,i,j):=41 (f b c);refine(d,vs,g,i,?_);rcases j with e|e
 ·rw[NE c d e,Xt]at q;exact .inl #[qn]
 ·rw[NE c d e,Xu]at q;exact .inr #[qn]
def ael(f:∀a∈A,zq h A a):Q3 #[mw]:=λb=>by
 cases q:vf K h A b with
 |none=>exact .inl rfl
 |some u=>
  (let(_,c):=20 (NF f q);let(vs,_,_,d):=41 c;obtain⟨_,e⟩|⟨_,e⟩:=d)
  ·exact .inr #[uE]
  ·exact .inr #[uE]
def aiV(i:∀a∈A,zq h A a):ow P w #[mw] h:=λb u q=>by
 (let(_,c):=20 (NF i q);let(vs,f,g,d):=41 c;obtain⟨e,rfl⟩|⟨e,rfl⟩:=d)
 ·exact(e,by rw[aD];exact f,vs,_,B8 g,e)
 ·exact(e,by rw[aD];exact f,vs,B8 g,_,e,rfl,_,rfl)
def NG{c a:ax}{vs us:List ax}(e:(some {cls:=c,data:= .seq vs.toArray}:Option Obj)=some {cls:=a,data:= .seq us.toArray}):c=a/\vs=us:=by have b:=dm.inj e;have d:c=a:=dA Obj.cls b;have f:Data.seq vs.toArray=Data.seq us.toArray:=dA Obj.data b;injection f with g;refine #[xP];have h:=dA Array.toList g;simpa using h
def aor(g:K.In h)(i:∀a∈A,zq h A a){a:ae}{vs:List ax}(c:a∈A)(e:h.get? a=some {cls:= .type "list",data:= .seq vs.toArray}):#[cP]/\a8 K #[mw] a #[fU]:=by
 rw[2026];have l:us=vs:=by
  rcases k with q|q
  ·rw[e]at q;exact(NG q).2.symm
  ·rw[e]at q;rw[2116]
 subst l;refine #[xP];cases b:K.lookup a with
 |none=>exact .inl (.inr (_,by rw[NE c b e,Xt]))
 |some o=>have f:=g a o b;rw[e]at f;obtain rfl:=dm.inj f;exact .inr (_,us.toArray,_,b,rfl,rfl,rfl,by rw[bI];exact j,by simpa using B8 d)
def aos(g:K.In h)(i:∀a∈A,zq h A a){a:ae}{vs:List ax}(c:a∈A)(e:h.get? a=some {cls:= .type "tuple",data:= .seq vs.toArray}):#[cP]/\cK K #[mw] a #[fU]:=by
 rw[2026];have l:us=vs:=by
  rcases k with q|q
  ·rw[e]at q;rw[2116]
  ·rw[e]at q;exact(NG q).2.symm
 subst l;refine #[xP];cases b:K.lookup a with
 |none=>exact .inl (.inr (_,by rw[NE c b e,Xu]))
 |some o=>have f:=g a o b;rw[e]at f;obtain rfl:=dm.inj f;exact .inr (_,us.toArray,_,b,rfl,rfl,by rw[bI];exact j,by simpa using B8 d)
mutual
abbrev akt{Pm:DW}(KX:K.In h)(ar:∀a∈A,zq h A a):∀(d:WData) (v:ax),Well Pm h v d->Hn d=true->Jg A v->Dw K #[mw] (toV v) d
 | .none,_,x,_,_=>by cases x;exact .cG
 | .bool b,_,x,_,_=>by cases x;exact .bl b
 | .int i,_,x,_,_=>by cases x;exact .int i
 | .str s,_,x,_,_=>by cases x;exact .str s
 | .bytes b,_,x,_,_=>by cases x;have z:=Dw.Av (K:=K) (H:=vf K h A) b.toArray;exact z
 | .list ds,_,x,p,hu=>by let(a,vs,rfl,ho,J1):=42 (UU x);let(h2,hs):=20 (aor KX ar hu ho);exact .lst hs #[q4]
 | .tuple ds,_,x,p,hu=>by let(a,vs,rfl,ho,J1):=42 (Q0 x);let(h2,hs):=20 (aos KX ar hu ho);exact .tup hs #[q4]
 | .float _,_,_,p,_=>gC (show false=true from p)
 | .dict _,_,_,p,_=>gC (show false=true from p)
 | .bytearray _,_,_,p,_=>gC (show false=true from p)
 | .set _,_,_,p,_=>gC (show false=true from p)
 | .frozenset _,_,_,p,_=>gC (show false=true from p)
 | .obj _ _,_,_,p,_=>gC (show false=true from p)
abbrev Q4{Pm:DW}(KX:K.In h)(ar:∀a∈A,zq h A a):∀(ds:List WData) (vs:List ax),WellAll Pm h vs ds->DY ds=true->#[cP]->zp K #[mw] #[fU] ds
 |[],_,x,_,_=>by cases x;exact .nil
 |d::ds,_,x,p,hu=>by let(v,vs,rfl,x1,x2):=42 (UV x);rw[1983];exact .cons (akt KX ar d v x1 q.1 (hu _ (bg ..))) (Q4 KX ar ds vs x2 q.2 λu m=>hu u (a9 _ m))
end
#where
def aem{P:cj}{w:cY}{K:aA}{mg L:Str->Option ax}{CX:Hl}{k:Nat}{fa:ae}{fd:jF}{ps:List Str}{sp:Sp}{a:aL}{c:List ax}{i:List WData}{R:UD}{cl:Str->Option ae}{d0:WData} (M:K.In a.heap) (y:a.heap.Ns aC mg) (N:a.heap.Ns builtinsNs L) (O:∀x:Str,x≠"__name__"->L x=sd x) (B:a.heap.NoLimit) (hg:a.gens= #[]) (j:WellAll w.params a.heap c i) (C:DY i=true) (Q:∀d∈i,d.weight<=1048576) (hr:jA k callerA) (F:∀base:cZ,K.In base->base.Ns aC mg->ff P w K mg base CX k fa fd ps sp) (l:∀(s:aL) (us:List ax),us.length=ps.length->Ar s fd #[dE] #[ff]) (D:i.length=ps.length) (S:∀(H:Hp) (xs:List V),Q3 H->zp K H xs i->sp xs H (λv H'=>Dw K H' v d0) λ_ _ _=>False) (T:∀H e s',CX [] H a (λ_ _ _=>False) e s'->False):FF #[qZ] callerA (.call #[lr] (c,[])) (λr s'=>∃u as,r= .ok (.ret u)/\ReadsW R cl s'.heap u d0 as/\OldK a.heap s'.heap/\s'.os=a.os/\AllBare s'.gens) a:=by
 let(A,ho,E):=21 (J2 i c j C Q);have U:Q3 #[xT]:=ael E;have cQ:ow P w #[xT] a.heap:=aiV E;have hS:=Q4 M E i c j C ho;have hV:=B8 ho;have hK:∀b u,vf K a.heap A b=some u->K.lookup b=none:=λb u q=>(NF E q).1;have G:∀{b:ae} {o:Obj} {es:Array jz} {t:Nat},a.heap.get? b=some o->o.data= .dict es t->vf K a.heap A b=none:=λ{b o es t} e d=>by
  cases q:vf K a.heap A b with
  |none=>rfl
  |some u=>
   (let(_,p):=20 (NF E q);let(vs,_,_,X):=41 p;obtain⟨I,_⟩|⟨I,_⟩:=X)
   ·rw[I]at e;rw[2048];rw[1954];cases d'
   ·rw[I]at e;rw[2048];rw[1954];cases d'
 generalize vf K a.heap A=H at U cQ hS hK G;have f:∀{b:ae} {o:Obj},a.heap.get? b=some o->H b=none->#[j3].get? b=some o:=λe n=>agd e n;have g:∀{b:ae} {m:Str->Option ax},a.heap.Ns b m->#[j3].Ns b m:=λ{b m} (o,es,t,e,d,r)=>(o,es,t,f e (G e d),d,r);have nK:∀b o,K.lookup b=some o->H b=none:=λb o e=>by
  cases q:H b with
  |none=>rfl
  |some u=>rw[hK b u q]at e;rw[2048]
 have J:K.In #[j3]:=λb o e=>f (M b o e) (nK b o e);have hM:Mod K mg #[j3]:=(J,g y,(L,g N,O),let(mc,h1,h2):=B;(mc,g h1,h2));have e0:Pd P w K mg #[j3] callerA [] a H:=(rfl,hM,λb o e=>aiG e,KZ (adN _ _),trivial,λb N=>absurd (show b∈#[tZ]from N) #[p],cQ,.of_eq hg);have hl:c.length=ps.length:=by rw[Ik j];exact D
 refine GZ ((F _ J (g y)).run callerA [] a H (c,[]) c (c.map toV) _ _ hr e0 (l a c hl) hV (S H _ U hS)) λr s' x=> ?_;cases r with
 |error e=>exact(T H e s' x).elim
 |ok fl=>
  cases fl with
  |next=>exact False.elim x
  |brk=>exact False.elim x
  |cont=>exact False.elim x
  |ret u=>
   (let(v,H',p):=2 x;let(os,bare,un,h,r',q):=100 p)
   have kept:∀b o,a.heap.get? b=some o->s'.heap.get? b=some o:=λb o e=>by
    cases q2:H b with
    |none=>exact un.keep b o e q2 (by intro z;exact absurd (show b∈#[tZ]from z) #[p]) #[p]
    |some u2=>
     rcases U b with z|⟨ob,u3,z⟩
     ·rw[q2]at z;cases z
     ·have z2:=un.zM b ob _ z;let(e1,_):=20 (cQ b _ z);let(I,_):=20 (h b _ z2);rw[e]at e1;cases e1;exact I
   have Y:K.In s'.heap:=λb o e=>kept b o (M b o e);let(as,Z):=1 (Dw.reads (R:=R) (cl:=cl) h Y d0 v u q r');exact(u,as,rfl,Z,OldK.of_keep kept,os,bare)
def S5{a:List WData}(h:WData.layableAll a=true):∀d∈a,d.weight<=1048576:=λd hd=>
 (PySem.W.layableW_iff.mp (dH.mp h d hd)).2.2
def Q5:∀(cs:List Codec) (a:Codec.denoteAll cs),#[uj].length=cs.length
 |[],_=>rfl
 |c::cs,a=>by show #[sw].length+1=cs.length+1;rw[Q5 cs a.2]
def aen{r:OpenSpec}{k:Nat}{q:cj}{loose:List Str}{J:#[wp]->cZ->Prop}{t:cY->cZ->Prop}{d:DefRec}{K:DW->aA}{CX:cY->Hl}{ps:List Str}{sp:cY->Sp} (c:r.wellSaid=true) (L:d.params.defaults=[]) (i:r.args.length=ps.length) (hr:jA k callerA) (M:∀(w:cY) (h:cZ),t w h->#[cy].In h) (F:∀(w:cY) (mg:Str->Option ax) (p:ae) (h:cZ),t w h->#[cy].In h->h.Ns aC mg->mg d.name=some #[aI]->∃x:jF,(∀(s:aL) (us:List ax),us.length=ps.length->Ar s x #[dE] #[ff])/\∀base:cZ,#[cy].In base->base.Ns aC mg->ff r.prog w #[cy] mg base (CX w) k p x ps (sp w)) (y:∀(w:cY) (H:Hp) (xs:List V) (a:Codec.denoteAll r.args),Q3 H->Codec.withinAll r.args a=true->Codec.app r.args r.asked a=true->zp #[cy] H xs #[q8]->sp w xs H (λv H'=>Dw #[cy] H' v #[vB]) λ_ _ _=>False) (A:∀(w:cY) (H:Hp) (s:aL) (e:ax) (s':aL),CX w [] H s (λ_ _ _=>False) e s'->False):ZA q loose J t r d [] (λf vs=>PySem.call f vs):=by
 intro w pW j mg mb G Y p o pm cd doc dV kV ho hd N hD B O args E as l m P C Q;let(a,S,U):=21 (PySem.W.os_pre_some l);let(X,n):=20 (Codec.encAll_of_decAll r.args args a S);subst X;have I:=M w _ Y;let(x,Z,hF):=21 (F w mg p _ Y I G.T.g B);refine PySem.W.enter_call (GZ (aem (R:=[]) (cl:=classAt pW.heap) (d0:=r.ret.enc #[io]) I G.T.g G.T.b G.T.builtins G.T.nolimit O C (UT _ _) (S5 m) hr hF Z (by rw[Q5];exact i)
  (λH xs hO hS=>y w H xs a hO n U hS) λH e s'=>A w H j e s') λr' s' hq=> ?_)
 let(u,D,rfl,h1,h2,h3,h4):=82 hq;exact(.inl (u,_,D,rfl,λ_=>rfl,h1,(OpenSpec.post_iff c n _ _).mpr rfl,λz=>gC (show false=true from z)),h2,h3,h4)
def acb{r:OpenSpec}{k:Nat}{q:cj}{loose:List Str}{o:#[wp]->cZ->Prop}{g:cY->cZ->Prop}{d:DefRec}{K:DW->aA}{CX:Hl}{ps:List Str}{sp:aA->Sp} (b:r.wellSaid=true) (i:d.params.defaults=[]) (c:r.args.length=ps.length) (hr:jA k callerA) (p:∀(w:cY) (h:cZ),g w h->#[cy].In h) (F:∀(w:cY) (mg:Str->Option ax) (m:ae) (h:cZ),g w h->#[cy].In h->h.Ns aC mg->mg d.name=some #[z7]->∃n:jF,(∀(s:aL) (us:List ax),us.length=ps.length->Ar s n #[dE] #[ff])/\∀base:cZ,#[cy].In base->base.Ns aC mg->ff r.prog w #[cy] mg base CX k m n ps (sp #[cy])) (j:∀(K:aA) (H:Hp) (xs:List V) (a:Codec.denoteAll r.args),Q3 H->Codec.withinAll r.args a=true->Codec.app r.args r.asked a=true->zp K H xs #[q8]->sp K xs H (λv H'=>Dw K H' v #[vB]) λ_ _ _=>False) (l:∀(H:Hp) (s:aL) (e:ax) (s':aL),CX [] H s (λ_ _ _=>False) e s'->False):ZA q loose o g r d [] (λf vs=>PySem.call f vs):=aen (K:=K) (CX:=λ_=>CX) (sp:=λw=>sp #[cy]) b i c hr p F (λw H xs a t u x y=>j #[cy] H xs a t u x y) λ_ H s e s'=>l H s e s'
#print L2
#where
namespace L2
open PySem PySem.Spec PyProof.Rows
abbrev inClass(s:bu)(j:Nat):bu:=match s with
 | .ClassDef _ _ _ body _ _ _ _ _ _ _=>body.getD j #[B1]
 |_=> .Pass #[rK]
abbrev Ag(s:bu):Arguments:=match s with
 | .FunctionDef _ a _ _ _ _ _ _ _ _=>a
 |_=>{posonlyargs:=[],args:=[],vararg:=none,kwonlyargs:=[],kw_defaults:=[],kwarg:=none,defaults:=[]}
abbrev sx(s:bu):List bu:=match s with
 | .FunctionDef _ _ b _ _ _ _ _ _ _=>b
 |_=>[]
abbrev aQ(s:bu):lS:=match s with
 | .FunctionDef _ _ _ _ _ _ sc _ _ _=>sc
 |_=>{kind:= .function,names:=[],isGenerator:=false,isCoroutine:=false}
nonrec abbrev tS:Hl:=λ_ _ _ _ _ _=>False
nonrec abbrev E0:XK:=λ_ _ _=>False
def xT{X:Cx}:Passes tS X E0:=λ_ _ _ _ _ _ _ h=>h.elim
structure OD(K:aA)(x qual:Str)(st:bu)(f:ae)(fd:jF):Prop where
 ex:∃(oc:ax) (od:Option ae) (kV doc pm:ax) (an:Option ae) (gn ct:ax) (osl:Array (Option ax)),
  fd=qN x qual (Ag st) #[vz] #[sl] .none kV doc pm an gn ct/\K.lookup f=some (oc,od,.func fd,osl)/\GL K gn qual=true
 kp:md K #[bz]=true
section
variable {P:cj}{w:cY}{K:aA}{mg:Str->Option ax}{base:cZ}
def OD.ok{x a:Str}{st:bu}{f:ae}{g:jF}{N ps:List Str}{k:Nat}{sp:Sp}(F:OD K x a st f g)(S:aY N ps #[sl])(len:∀vs H Q E,sp vs H Q E->vs.length=ps.length) (b:∀(gn:ax) (A:dE) (outer:List Env) (s:aL) (H:Hp) (vs:List V) (Q:VK) (E:XK),jA k #[gB]->sp vs H Q E->∃t,BS (yA tS P w K mg base N a #[sl] f gn A outer s H E).nox #[vz] t/\t {nx:=λ_ H'=>Q .cG H',rt:=Q} #[fV] H):ff P w K mg base tS (k+1) f g ps sp:=by
 (let(j,l,kV,doc,m,n,gn,ct,i,c):=9 (F.ex);let(rfl,lk,d):=40 c)
 refine ah1 lk d S len λA outer s H vs Q E hr e=> ?_;let(t,h,q):=21 (b gn A outer s H vs Q E hr e);exact(t,h.nox,q)
def OD.binds{x a:Str}{st:bu}{f:ae}{e:jF}{ps:List Str}(F:OD K x a st f e) (h:∀(kV doc b:ax) (c:Option ae) (gn ct:ax) (us:List ax),us.length=ps.length->bindArgs (qN x a (Ag st) #[vz] #[sl] .none kV doc b c gn ct) #[dE]=pure #[ff]):Binds K e ps []:=by
 (let(j,k,kV,doc,b,c,gn,ct,g,d):=9 (F.ex);let(rfl,lk,i):=40 d)
 exact .all (h kV doc b c gn ct)
def aeo{x a:Str}{st:bu}{f:ae}{g:ax}{h d:Option ae}{b:Array #[iR]}{kV doc e gn ct:ax}(l:K.lookup f=some (g,h,.func #[fO],b)) (c:GL K gn a=true) (k:md K #[bz]=true):OD K x a st f #[fO]:=((g,h,kV,doc,e,d,gn,ct,b,rfl,l,c),k)
#where
def Q6{A:dE}{k:Nat}(hr:jA k A):A.units+1<Ft:=Qv (Nat.add_le_add_left (by decide:1<=64) _) hr.units
section
variable {X:Cx}
def pv(i:Nat){x:Str}{a:Pos}(c:X.N[i]?=some x:=by rfl)(d:WU X.env.scope x:=by first|exact CP rfl|exact Or.inr #[lZ]|exact Or.inr (Or.inr rfl))(hd:#[v]=false:=by decide) (b:#[hg]=false:=by decide):PE X #[nI] (iK i):=adO c d hd b
#where
abbrev bp(H H':Hp):Prop:=∀b o,H b=some o->H' b=some o
def bp.refl(H:Hp):bp H H:=λ_ _ h=>h
def bp.trans{H d e:Hp}(a:bp H d)(b:bp d e):bp H e:=λc o h=>b c o #[BK]
def bp.free{H H':Hp}(e:bp H H'){l:ae}(h:H' l=Option.none):H l=Option.none:=by
 cases q:H l with
 |none=>rfl
 |some o=>rw[e l o q]at h;rw[1914]
def bp.seq{K:aA}{H H':Hp}{a:ae}{xs:List V}(e:bp H H')(h:a8 K H a xs):a8 K H' a xs:=by
 rcases h with(h|⟨o,h⟩)|h
 ·exact .inl #[xI]
 ·exact .inl (.inr (o,e _ _ h))
 ·rw[1923]
section
variable {κ:Type}[DecidableEq κ]
def agF{a:List (κ×V)}{k:κ}(h:iL a k=none):¬k∈a.map (·.1):=by intro m;let(p,b,e):=21 (ci.mp m);have q:(a.any λc=>decide (c.1=k))=true:=rq.mpr (p,b,aT e);rw[B7,h]at q;exact absurd q #[p]
#where
#print L2
#where
section
namespace Pe
open Vatrko (Text Item Fit Part)
abbrev qC:bB->Option (Item×bB)
 |[]=>none
 |c::r=>
  if c=60 then some ((.begins),r)
  else if c=62 then some ((.ends),r)
  else if c=40 then some ((.opening),r)
  else if c=41 then some ((.closing),r)
  else if c=42 then some #[qf]
  else(iy (c::r)).bind λx=>(fy x.2).map λy=>((.unit x.1 y.1 y.2.1 y.2.2.1),y.2.2.2)
abbrev uf:Nat->bB->Option #[hq]
 |_,[]=>some []
 |0,_=>none
 |n+1,c::r=>(qC (c::r)).bind λx=>(uf n x.2).map λl=>x.1::l
abbrev ox:Bool->Bool->Nat->List Item->Bool
 |g,_,_,[]=> !g
 |g,f,k,.opening::l=> !g&&decide (k<9)&&ox true false (k+1) l
 |g,f,k,.closing::l=>g&&f&&ox false true k l
 |g,f,k,.unit a b c d::l=>ox g true k l
 |g,f,k,.begins::l=>ox g true k l
 |g,f,k,.ends::l=>ox g true k l
abbrev guarded(b:Bool)(l:List Item):Option #[hq]:=if b=true then some l else none
def rb{o:Option #[hq]}{p q:List Item->Bool}{it:Item}(h:∀l,p (it::l)=q l):(o.bind λl=>guarded (q l) l).map (λl=>it::l)=(o.map λl=>it::l).bind λl=>guarded (p l) l:=by
 cases o with
 |none=>rfl
 |some l=>show(guarded (q l) l).map _=guarded (p (it::l)) (it::l);rw[h];unfold guarded;cases q l<;>rfl
def L5:∀(n:Nat) (g f:Bool) (k:Nat) (t:bB),uP n g f k t=(uf n t).bind λl=>guarded #[tA] l
 |n,g,f,k,[]=>by cases g<;>cases n<;>rfl
 |0,g,f,k,c::r=>rfl
 |n+1,g,f,k,c::r=>by
  have m:=L5 n;unfold uP uf qC;rw[1897];by_cases b:c=60
  ·rw[aq b,aq b,m];rw[1962]
  rw[am b,am b];by_cases d:c=62
  ·rw[aq d,aq d,m];rw[1962]
  rw[am d,am d];by_cases e:c=40
  ·rw[aq e,aq e,m];show(if g=true\/9<=k then none else _)=((uf n r).map λl=>Item.opening::l).bind λl=>guarded #[tA] l;by_cases a:g=true\/9<=k
   ·rw[aq a];cases uf n r with
    |none=>rfl
    |some l=>
     show none=guarded #[dp] _;have:#[dp]=false:=by
      rcases a with rfl|h
      ·rfl
      ·rw[aV #[j]];cases g<;>rfl
     rw[1924];rfl
   ·rw[am a];refine rb λl=> ?_;show #[dp]=_;have o:g=false:=by cases g;rfl;exact absurd #[lZ] a
    have p:k<9:=by simp_all
    rw[o,aT p];rfl
  rw[am e,am e];by_cases i:c=41
  ·rw[aq i,aq i,m];show(if g=true/\f=true then _ else none)=((uf n r).map λl=>Item.closing::l).bind λl=>guarded #[tA] l;by_cases a:g=true/\f=true
   ·rw[aq a];refine rb λl=> ?_;show #[hM]=_;rw[a.1,a.2];rfl
   ·rw[am a];cases uf n r with
    |none=>rfl
    |some l=>
     show none=guarded #[hM] _;have:#[hM]=false:=by cases g<;>cases f<;>first|rfl|exact absurd (rfl,rfl) a
     rw[1924];rfl
  rw[am i,am i];by_cases j:c=42
  ·rw[aq j,aq j,m];rw[1962]
  rw[am j,am j];cases iy (c::r)with
  |none=>rfl
  |some x=>
   show(fy x.2).bind _=(((fy x.2).map _).bind _).bind _;cases fy x.2 with
   |none=>rfl
   |some y=>show(uP n g true k y.2.2.2).map _=((uf n y.2.2.2).map _).bind _;rw[m];rw[1962]
def EO{t:bB}{x}(h:eO t=some x):x.2.length<t.length:=by
 unfold eO at h;split at h
 ·rw[1914]
 ·split at h
  ·rw[1914];rw[1901];solve_by_elim
  ·rw[1914]
 ·split at h
  ·rw[1914]
  ·rw[1914];rw[1901];solve_by_elim
def J3:∀(n:Nat) {t:bB} {x},jo n t=some x->x.2.length<t.length
 |0,t,x,h=>by cases h
 |n+1,t,x,h=>by
  unfold jo at h;split at h
  ·rw[1914];rw[1901];solve_by_elim
  ·cases e:eO t with
   |none=>rw[e]at h;rw[1914]
   |some y=>
    have c:=EO e;rw[2099];rw[1907];split at h
    ·rename_i r d;cases b:eO r with
     |none=>rw[b]at h;rw[1914]
     |some z=>
      have g:=EO b;rw[b]at h;rw[1907];split at h
      ·cases a:jo n z.2 with
       |none=>rw[a]at h;rw[1914]
       |some u=>
        have f:=J3 n a;rw[a]at h;rw[1914];rw[d,ak]at c;show u.2.length<_
        lia
      ·rw[1914]
    ·cases a:jo n y.2 with
     |none=>rw[a]at h;rw[1914]
     |some u=>
      have f:=J3 n a;rw[a]at h;rw[1914];show u.2.length<_
      lia
def Q7{d:Bool}{t:bB}{x}(h:rX d t=some x):x.2.length<t.length:=by
 unfold rX at h;cases e:jo (t.length+1) t with
 |none=>rw[e]at h;rw[1914]
 |some y=>
  have:=J3 _ e;rw[2099];rw[1907];split at h
  ·rw[1914]
  ·rw[1914];rw[1928]
def ZL{t:bB}{x}(h:iy t=some x):x.2.length<t.length:=by
 unfold iy at h;split at h
 ·rw[1914]
 ·split at h
  ·split at h
   ·rw[1914];rw[1901];solve_by_elim
   ·rw[1914]
  ·split at h
   ·rw[1914];rw[1901];solve_by_elim
   ·split at h
    ·split at h
     ·have:=Q7 h;rw[2096];solve_by_elim
     ·have:=Q7 h;rw[2096];solve_by_elim
    ·split at h
     ·rw[1914]
     ·rw[1914];rw[1901];lia
def K9{t:bB}{x}(h:gL t=some x):x.2.length<t.length:=by
 unfold gL at h;split at h
 ·split at h
  ·split at h
   ·rw[1914];rw[1901];solve_by_elim
   ·rw[1914];rw[1901];solve_by_elim
  ·rw[1914]
 ·rw[1914]
def Xv{t:bB}{x}(h:fy t=some x):x.2.2.2.length<=t.length:=by
 unfold fy at h;split at h
 ·rename_i r;cases e:gL r with
  |none=>rw[e]at h;rw[1914]
  |some y=>
   have b:=K9 e;rw[2099];rw[1907];split at h
   ·rename_i s d;cases a:gL s with
    |none=>rw[a]at h;rw[1914]
    |some z=>
     have c:=K9 a;rw[a]at h;rw[1907];rw[d]at b;simp only[ak]at b ⊢;split at h
     ·rename_i u f;rw[f]at c;simp only[ak]at c;split at h
      ·rw[1914];split
       ·simp only[ak]at*;lia
       ·show u.length<=_;lia
      ·rw[1914]
     ·rw[1914]
   ·rw[1914]
 ·rw[1914];rw[1901];lia
 ·rw[1914];rw[1901];solve_by_elim
 ·rw[1914];exact be _
def Pi{t:bB}{x}(h:qC t=some x):x.2.length<t.length:=by
 unfold qC at h;split at h
 ·rw[1914]
 ·rename_i c r;split at h;·cases h;rw[1901];solve_by_elim
  split at h;·cases h;rw[1901];lia
  split at h;·cases h;rw[1901];lia
  split at h;·cases h;rw[1901];lia
  split at h;·cases h;rw[1901];lia
  cases e:iy (c::r)with
  |none=>rw[e]at h;rw[1914]
  |some y=>
   have b:=ZL e;rw[2099];rw[1907];cases a:fy y.2 with
   |none=>rw[a]at h;rw[1914]
   |some z=>
    have d:=Xv a;rw[a]at h;rw[1914];show z.2.2.2.length<_
    lia
def UW:∀(n m:Nat) (t:bB),t.length<=n->t.length<=m->uf n t=uf m t
 |n,m,[],_,_=>by cases n<;>cases m<;>rfl
 |0,m,c::r,h,_=>by simp at h
 |n+1,0,c::r,_,h=>by simp at h
 |n+1,m+1,c::r,a,b=>by
  unfold uf;cases e:qC (c::r)with
  |none=>rfl
  |some x=>have:=Pi e;simp only[ak]at this a b;show(uf n x.2).map _=(uf m x.2).map _;rw[UW n m x.2 #[f] #[f]]
abbrev items(t:bB):Option #[hq]:=uf t.length t
def aep:items []=some []:=rfl
def acd{t:bB}(h:t≠[]):items t=(qC t).bind λx=>#[qD].map λl=>x.1::l:=by
 cases t with
 |nil=>exact absurd rfl h
 |cons c r=>
  unfold items;show((qC (c::r)).bind λx=>#[vu].map λl=>x.1::l)=_;cases e:qC (c::r)with
  |none=>rfl
  |some x=>have:=Pi e;simp only[ak]at this;show #[vu].map _=(uf x.2.length x.2).map _;rw[UW r.length x.2.length x.2 #[f] #[gw]]
def FM(t:bB):yp t=
  if(decide (1<=t.length)&&(decide (t.length<=200)&&t.all qX))=false then none
  else(items t).bind λl=>if ox false false 0 l=true/\l.length<=40 then some l else none:=by
 unfold yp;split
 ·rfl
 ·rw[L5];show((items t).bind _).bind _=_;cases items t with
  |none=>rfl
  |some l=>
   show(guarded (ox false false 0 l) l).bind _=if _ then some l else none
   unfold guarded;by_cases a:ox false false 0 l=true
   ·rw[aq a];show(if l.length<=40 then some l else none)=_;by_cases b:l.length<=40
    ·rw[aq b,aq (a,b)]
    ·rw[am b,am λz=>b z.2]
   ·rw[am a,am λz=>a z.1];rfl
structure L6 where
 groups:Nat
 prev:Nat
 within:Bool
abbrev mS:Item->Nat
 | .unit .. =>1
 | .begins=>2
 | .ends=>3
 | .opening=>4
 | .closing=>5
abbrev sO(s:L6)(it:Item):Option L6:=
 if mS it=4 then(if s.within=true then none else some #[iv])
 else if mS it=5 then(if s.within=false\/s.prev=4 then none else some #[rk])
 else some (s.groups,mS it,s.within)
abbrev vg:L6->List Item->Option L6
 |s,[]=>some s
 |s,it::l=>(sO s it).bind λs'=>vg s' l
abbrev opened(l:List Item):Nat:=(l.filter ZC).length
def J4:∀(l:List Item) (s s':L6),vg s l=some s'->s'.groups=s.groups+opened l
 |[],s,s',h=>by cases h;rfl
 |it::l,s,s',h=>by
  unfold vg at h;cases e:sO s it with
  |none=>rw[e]at h;rw[1914]
  |some u=>
   rw[2099];have a:=J4 l u s' h;unfold sO at e;cases it with
   |opening=>
    rw[aq (show mS .opening=4 from rfl)]at e;split at e
    ·rw[2048]
    ·rw[2048];rw[a];show s.groups+1+opened l=s.groups+(opened l+1)
     lia
   |closing=>
    rw[am (show¬mS .closing=4 by decide),aq (show mS .closing=5 from rfl)]at e;split at e
    ·rw[2048]
    ·rw[2048];exact a
   |unit _ _ _ _=>cases e;exact a
   |begins=>cases e;exact a
   |ends=>cases e;exact a
def Fx:∀(l:List Item) (s:L6) (f:Bool),(s.within=true->f=decide (s.prev≠4))->s.groups<=9->(ox s.within f s.groups l=true↔∃s',vg s l=some s'/\s'.within=false/\s'.groups<=9)
 |[],s,f,_,i=>by
  show((!s.within)=true↔_);constructor
  ·intro h;exact(s,rfl,(by cases q:s.within with|false=>rfl|true=>rw[q]at h;cases h),i)
  ·(intro g;let(s',h,m,_):=41 g);rw[1914];rw[m];rfl
 |it::l,s,f,j,i=>by
  unfold vg;cases it with
  |opening=>
   show((!s.within&&decide (s.groups<9)&&ox true false (s.groups+1) l)=true↔_);unfold sO;rw[aq (show mS .opening=4 from rfl)];cases hw:s.within with
   |true=>rw[aq rfl];simp
   |false=>
    rw[1900];show((true&&decide (s.groups<9)&&ox true false (s.groups+1) l)=true↔∃s',vg #[iv] l=some s'/\_);by_cases h:s.groups<9
    ·rw[aT h];exact Fx l #[iv] false (λ_=>rfl) h
    ·rw[aV h];constructor
     ·intro z;cases z
     ·(intro g;let(s',n,_,o):=41 g)
      have:=J4 l _ _ n;have e:((s.groups+1,4,true):L6).groups=s.groups+1:=rfl;rw[e]at this
      lia
  |closing=>
   show((s.within&&f&&ox false true s.groups l)=true↔_);unfold sO;rw[am (show¬mS .closing=4 by decide),aq (show mS .closing=5 from rfl)];cases hw:s.within with
   |false=>rw[aq #[lZ]];simp
   |true=>
    have j:=j hw;by_cases k:s.prev=4
    ·rw[aq (Or.inr k),j,aV (λz=>z k)];simp
    ·rw[am (by simp[k]),j,aT k];exact Fx l #[rk] true (λz=>by cases z) i
  |unit a b c d=>exact Fx l #[CF,1] true (λ_=>rfl) i
  |begins=>exact Fx l #[CF,2] true (λ_=>rfl) i
  |ends=>exact Fx l #[CF,3] true (λ_=>rfl) i
def Vx:c5 []=some []:=rfl
abbrev vh:bB->Option (hJ×bB)
 |[]=>none
 |c::r=>
  if c=92 then(match r with
   |[]=>none
   |d::s=>if d7 d=true then some ((.group (d-48)),s)else if d=110 then some ((.sign 10),s)else if d=92 then some ((.sign 92),s)else none)
  else some ((.sign c),r)
def Xw{t:bB}{x}(h:vh t=some x):x.2.length<t.length:=by
 unfold vh at h;split at h
 ·rw[1914]
 ·split at h
  ·split at h
   ·rw[1914]
   ·split at h;·cases h;rw[1901];solve_by_elim
    split at h;·cases h;rw[1901];lia
    split at h;·cases h;rw[1901];lia
    rw[1914]
  ·rw[1914];rw[1901];solve_by_elim
def Jh{t:bB}(h:t≠[]):c5 t=(vh t).bind λx=>#[zK].map λl=>x.1::l:=by
 cases t with
 |nil=>exact absurd rfl h
 |cons c r=>
  by_cases a:c=92
  ·subst a;cases r with
   |nil=>rfl
   |cons d s=>
    show c5 (92::d::s)=_;rw[c5];unfold vh;rw[1897];rw[1898];split;·rfl
    split;·rfl
    split;·rfl
    rfl
  ·have e:c5 (c::r)=if c=92 then none else(c5 r).map λl=>Part.sign c::l:=by rw[c5];intro d s b _;exact a b
   rw[e,am a];unfold vh;rw[1897];rw[am a];rfl
#print Pe
#where
section
namespace Pe
open Vatrka (Piece Pending shown visible onStretch putBefore bears next finish)
variable {r:List Piece}{f:Piece->List Piece}{p:Nat}{s:aU}
def mT(a b:List Piece):bT (a++b)=bT a++bT b:=eV _ _
def gz{x:Piece}(h:shown x=true):bT (x::r)=x::bT r:=by unfold bT;rw[cC,aq h]
def kO{x:Piece}(h:shown x=false):bT (x::r)=bT r:=by unfold bT;rw[cC,am #[nl]]
def J5:∀(row:List Piece) (p:Nat),p<#[np].length->∃a x b,row=a++x::b/\shown x=true/\(bT a).length=p
 |[],p,h=>by simp[bT]at h
 |x::r,p,h=>by
  by_cases c:shown x=true
  ·rw[gz c]at h;cases p with
   |zero=>exact([],x,r,rfl,c,rfl)
   |succ p=>let(a,y,b,e,d,f):=43 (J5 r p #[uZ]);exact(x::a,y,b,by rw[e];rfl,d,by rw[gz c,ak,f])
  ·have c:shown x=false:=by simpa using c
   rw[kO c]at h;let(a,y,b,e,d,f):=43 (J5 r p h);exact(x::a,y,b,by rw[e];rfl,d,by rw[kO c,f])
def wR(new:List Piece):∀(a:List Piece) (x:Piece) (b:List Piece),shown x=true->oH new (bT a).length #[sm]=a++#[vK]
 |[],x,b,h=>by show oH new 0 (x::b)=_;unfold oH;rw[aq h,aq rfl];rfl
 |y::a,x,b,h=>by
  by_cases c:shown y=true
  ·rw[gz c];show oH new ((bT a).length+1) (y::#[sm])=y::(a++#[vK]);rw[oH,aq c,am #[f]];show y::oH new (bT a).length #[sm]=_;rw[wR new a x b h]
  ·have c:shown y=false:=by simpa using c
   rw[kO c];show oH new (bT a).length (y::#[sm])=y::(a++#[vK]);rw[oH,am (by rw[c];decide),wR new a x b h]
def oy(f:Piece->List Piece)(p q:Nat):hQ f p q []=[]:=by cases p<;>cases q<;>rfl
def o9{q:Nat}{x:Piece}(h:shown x=true):hQ f p q (x::r)=(if p=0/\0<q then f x else[x])++hQ f (p-1) (q-1) r:=by rw[hQ,aq h]
def qQ{q:Nat}{x:Piece}(h:shown x=false):hQ f p q (x::r)=x::hQ f p q r:=by rw[hQ,am #[nl]]
def B9(f:Piece->List Piece):∀(p:Nat) (row:List Piece),hQ f p 0 row=row
 |p,[]=>oy f p 0
 |p,x::r=>by
  rw[2120]
  ·rw[o9 h,am #[f],B9 f (p-1) r];rfl
  ·have h:shown x=false:=by simpa using h
   rw[qQ h,B9 f p r]
def vi(f:Piece->List Piece):∀(a:List Piece) (p q:Nat) (b:List Piece),hQ f p q (a++b)=hQ f p q a++hQ f (p-(bT a).length) (q-(bT a).length) b
 |[],p,q,b=>by rw[oy];rfl
 |x::a,p,q,b=>by
  rw[2120]
  ·show hQ f p q (x::(a++b))=_;rw[o9 h,o9 h,gz h,vi f a,fz,ak,Nat.sub_sub,Nat.sub_sub,K3 1]
  ·have h:shown x=false:=by simpa using h
   show hQ f p q (x::(a++b))=_;rw[qQ h,qQ h,kO h,vi f a];rfl
def agG{k:Nat}{row:List Piece}(h:row.any #[nb]=true):finish s k row=({s with row:=row,changes:=s.changes++[{author:=s.author,time:=s.time,kind:=k}]},next s):=by unfold finish;rw[aq h]
def agH{k:Nat}{row:List Piece}(h:row.any #[nb]=false):finish s k row=(({s with row:=row}),0):=by unfold finish;rw[am #[nl]]
#print Pe
#where
section
namespace Pe
open Vatrko (Text Item Fit)
variable {u:bB}
abbrev ace:bB->Option #[BN]
 |[]=>none
 |c::r=>some ((c),r)
abbrev vj(k:Nat):bB->Option (Unit×bB)
 |[]=>none
 |c::r=>if c=k then some ((),r)else none
abbrev Dt:bB->Option #[BN]
 |[]=>none
 |c::r=>if d7 c=true then some ((c-48),r)else none
abbrev mU:bB->Option #[BN]:=λu=>(Dt u).bind λx=>match x.2 with
 |[]=>some x
 |c::r=>if d7 c=true then some ((10*x.1+(c-48)),r)else some x
abbrev yB(lo a:Nat):bB->#[or]×bB
 |126::v=>(((lo),a,true),v)
 |u=>#[xK]
def aeq{lo a:Nat}(h:∀v,u=126::v->False):yB lo a u=#[xK]:=by
 unfold yB;split
 ·rename_i v;exact(h v rfl).elim
 ·rfl
abbrev ug:bB->Option (#[or]×bB)
 |64::r=>some #[vn]
 |123::r=>(mU r).bind λx=>(vj 44 x.2).bind λy=>(mU y.2).bind λz=>(vj 125 z.2).bind λu=>if z.1<x.1\/z.1<1 then none else some #[w2]
 |r=>some ((#[q9]),r)
def Vy(u:bB):gL u=(mU u).bind λx=>if x.2=[]/\u.length=1 then none else some x:=by
 match u with
 |[]=>rfl
 |[a]=>
  show none=_;unfold mU Dt;rw[1897];by_cases h:d7 a=true
  ·rw[aq h];rfl
  ·rw[am h];rfl
 |a::b::r=>
  show(if d7 a=true then _ else _)=_;unfold mU Dt;rw[1897];by_cases h:d7 a=true
  ·rw[aq h,aq h];show _=(if d7 b=true then some ((10*(a-48)+(b-48)),r)else some ((a-48),b::r)).bind _;by_cases c:d7 b=true
   ·rw[aq c];rw[1906];rw[am #[p]]
   ·rw[am c];rw[1906];rw[am #[p]]
  ·rw[am h,am h];rfl
def Xx{k:Nat}{b:Type}(u:bB)(g:Nat->bB->Option b):((gL u).bind λx=>match x.2 with|c::s=>if c=k then g x.1 s else none|[]=>none)=(mU u).bind λx=>(vj k x.2).bind λy=>g x.1 y.2:=by
 rw[Vy];cases mU u with
 |none=>rfl
 |some x=>
  obtain⟨n,r⟩:=x;rw[1906];by_cases h:r=[]/\u.length=1
  ·rw[aq h,h.1];rfl
  ·rw[am h];rw[1906];cases r with
   |nil=>rfl
   |cons c s=>
    dsimp only[vj];by_cases a:c=k
    ·rw[2077];rfl
    ·rw[2078];rfl
abbrev S6(x:#[or]×bB):Nat×Nat×Bool×bB:=((x.1.1),x.1.2.1,x.1.2.2,x.2)
def aer(u:bB):fy u=(ug u).map S6:=by
 by_cases f:∃r,u=123::r
 ·let(r,rfl):=1 f;show fy (123::r)=((mU r).bind _).map S6
  have e:fy (123::r)=((gL r).bind λx=>match x.2 with|c::s=>if c=44 then((gL s).bind λy=>match y.2 with
    |d::v=>if d=125 then(if x.1<=y.1/\1<=y.1 then some (S6 (yB x.1 y.1 v))else none)else none|[]=>none)else none|[]=>none):=by
   show(gL r).bind _=_;congr 1;funext x;obtain⟨n,s⟩:=x;rw[1897];split
   ·rename_i s';rw[1897];rw[1898];congr 1;funext y;obtain⟨m,v⟩:=y;rw[1897];split
    ·rename_i i;rw[1897];rw[1898];split
     ·congr 1;split
      ·rfl
      ·rename_i j;rw[aeq j];rfl
     ·rfl
    ·rename_i a;cases v with
     |nil=>rfl
     |cons d i=>dsimp only;rw[am λq=>a i (by rw[q])]
   ·rename_i a;cases s with
    |nil=>rfl
    |cons c s'=>dsimp only;rw[am λq=>a s' (by rw[q])]
  rw[e,Xx (k:=44) r λn s=>(gL s).bind λy=>match y.2 with|d::v=>if d=125 then(if n<=y.1/\1<=y.1 then some (S6 (yB n y.1 v))else none)else none|[]=>none];cases mU r with
  |none=>rfl
  |some x=>
   rw[1906];cases vj 44 x.2 with
   |none=>rfl
   |some y=>
    rw[1906];rw[Xx (k:=125) y.2 λm v=>if x.1<=m/\1<=m then some (S6 (yB x.1 m v))else none];cases mU y.2 with
    |none=>rfl
    |some z=>
     rw[1906];cases vj 125 z.2 with
     |none=>rfl
     |some v=>
      rw[1906];by_cases h:x.1<=z.1/\1<=z.1
      ·rw[aq h,am #[f]];rfl
      ·rw[am h,aq #[f]];rfl
 ·by_cases b:∃r,u=64::r
  ·let(r,rfl):=1 b;show fy (64::r)=some (S6 #[vn]);cases r with
   |nil=>rfl
   |cons d v=>
    by_cases hd:d=126
    ·subst hd;rfl
    ·have g:yB 1 99 (d::v)=(((1),99,false),d::v):=by
      unfold yB;split
      ·rename_i q;rw[2021];exact absurd q hd
      ·rfl
     rw[g];unfold fy;split
     ·rename_i q;rw[2021];exact absurd q #[c]
     ·rename_i q;injection q with _ q;rw[2021];exact absurd q hd
     ·rename_i q;injection q with _ q;subst q;rfl
     ·rename_i q;exact(q (d::v) rfl).elim
  ·have g:ug u=some ((#[q9]),u):=by
    unfold ug;split
    ·rw[2036]
    ·exact absurd #[O] f
    ·rfl
   rw[g];unfold fy;split
   ·exact absurd #[O] f
   ·rw[2036]
   ·rw[2036]
   ·rfl
abbrev ot(u:bB):Option (#[aw]×bB):=(eO u).bind λx=>match x.2 with
 |45::r=>(eO r).bind λy=>if x.1<=y.1 then some #[y0]else none
 |_=>some (((x.1),x.1),x.2)
def EQ{x}(h:ot u=some x):x.2.length<u.length:=by
 unfold ot at h;cases e:eO u with
 |none=>rw[e]at h;rw[1914]
 |some y=>
  have b:=EO e;rw[2099];rw[1907];split at h
  ·rename_i r c;cases a:eO r with
   |none=>rw[a]at h;rw[1914]
   |some z=>
    have d:=EO a;rw[a]at h;rw[1907];split at h
    ·rw[1914];rw[c,ak]at b;show z.2.length<_;lia
    ·rw[1914]
  ·rw[1914];exact b
def FN(n:Nat)(u:bB)(h:∀r,u≠93::r):jo (n+1) u=(ot u).bind λx=>(jo n x.2).map λz=>#[zg]:=by
 rw[jo]
 ·unfold ot;cases eO u with
  |none=>rfl
  |some x=>
   rw[1906];split
   ·rename_i r e;rw[e];show _=((eO r).bind λy=>if x.1<=y.1 then some #[y0]else none).bind _;cases eO r with
    |none=>rfl
    |some y=>
     rw[1906];by_cases a:x.1<=y.1
     ·rw[2077];rfl
     ·rw[2078];rfl
   ·rename_i b;split
    ·rename_i r e;exact(b r e).elim
    ·rfl
 ·intro r e;exact h r e
def L7:∀(n m:Nat) (u:bB),u.length<n->u.length<m->jo n u=jo m u
 |0,m,u,h,_=>by simp_all
 |n+1,0,u,_,h=>by simp_all
 |n+1,m+1,u,a,b=>by
  rw[2119]
  ·rw[2125];rfl
  ·have h:∀r,u≠93::r:=λr e=>h (r,e);rw[FN n u h,FN m u h];cases e:ot u with
   |none=>rfl
   |some x=>have:=EQ e;rw[1906];rw[L7 n m x.2 #[f] #[f]]
abbrev mem(u:bB):Option (List #[aw]×bB):=jo (u.length+1) u
def abq(r:bB):mem (93::r)=some (([]),r):=rfl
def Pj(u:bB)(h:∀r,u≠93::r):mem u=(ot u).bind λx=>(mem x.2).map λz=>#[zg]:=by
 unfold mem;rw[FN _ u h];cases e:ot u with
 |none=>rfl
 |some x=>have:=EQ e;rw[1906];rw[L7 u.length (x.2.length+1) x.2 #[bJ] #[dU]]
abbrev FO(d:Bool)(u:bB):Option (Fit×bB):=(ot u).bind λx=>(mem x.2).map λz=>((.set d (x.1::z.1)),z.2)
def acf(d:Bool)(u:bB):rX d u=FO d u:=by
 unfold rX FO;show(mem u).bind _=_;rw[2119]
 ·rw[2125];rw[abq];rfl
 ·rw[Pj u λr e=>h (r,e)];cases ot u with
  |none=>rfl
  |some x=>
   rw[1906];cases mem x.2 with
   |none=>rfl
   |some z=>rfl
abbrev L8:bB->Option (Fit×bB)
 |33::s=>FO true s
 |u=>FO false u
def aiW(u:bB):(match u with|33::s=>rX true s|_=>rX false u)=L8 u:=by unfold L8;split<;>exact acf ..
#print Pe
#where
section
namespace Pe
open Vatrko (Text Item Fit Part Search)
variable {p:Nat->Bool}{f:Fit}{s hi:Nat}
abbrev wo(a b:Nat):Nat:=a^^^(a&&&b)
def J7(a b i:Nat):(wo a b).testBit i=(a.testBit i&& !b.testBit i):=by unfold wo;rw[Nat.testBit_xor,oF];cases a.testBit i<;>cases b.testBit i<;>rfl
def acg(n i:Nat):(2^n-1).testBit i=decide (i<n):=Nat.testBit_two_pow_sub_one n i
def Fy(b k i:Nat):(b/2^k).testBit i=b.testBit (k+i):=by rw[<-Nat.shiftRight_eq_div_pow,Nat.testBit_shiftRight]
def al6(b i:Nat):(b*2^1).testBit i=(decide (1<=i)&&b.testBit (i-1)):=by rw[<-Nat.shiftLeft_eq,Nat.testBit_shiftLeft]
def akv(b p:Nat):decide (b/2^p&&&1=1)=b.testBit p:=by rw[Nat.and_one_is_mod,om]
abbrev WF(b j:Nat):Prop:=b.testBit j=true/\∀i,i<j->b.testBit i=false
def agI{b:Nat}:∀(n i:Nat),i<=n->b.testBit i=true->∃j,WF b j:=by
 intro n
 induction n with
 |zero=>intro i d h;refine #[rl];simp_all
 |succ n f=>
  intro i d h;by_cases c:∃k,k<i/\b.testBit k=true
  ·let(k,a,g):=21 c;exact f k #[f] g
  ·refine #[rl];cases e:b.testBit k with
   |false=>rfl
   |true=>exact absurd (k,a,e) c
def Xy{b:Nat}(h:b≠0):∃j,WF b j:=by let(i,a):=1 (DN h);exact agI i i #[gw] a
def aiX{b j:Nat}(h:WF b j):wo b (b-1)=2^j:=by
 have hm:b%2^j=0:=by
  apply xH;intro i;rw[Nat.testBit_mod_two_pow,jw];by_cases a:i<j
  ·rw[h.2 i a];simp
  ·simp[a]
 have e:b=2^j*(b/2^j):=by
  have:=Nat.div_add_mod b (2^j)
  simp_all
 generalize hr:b/2^j=r at e;have d:r%2=1:=by have:=h.1;rw[om,hr]at this;exact eo this
 have o:0<2^j:=Lp j;have f:b-1=2^j*(r-1)+(2^j-1):=by
  have:2^j*(r-1)+2^j=2^j*r:=by rw[<-Nat.mul_succ];congr 1;omega
  lia
 apply xH;intro i;rw[J7,yY];by_cases a:i<j
 ·rw[h.2 i a,aV #[f]];rfl
 ·rw[f,Nat.testBit_two_pow_mul_add _ (by lia:2^j-1<2^j),am a];have g:b.testBit i=r.testBit (i-j):=by
   rw[e,Nat.testBit_two_pow_mul,aT #[j]];rfl
  rw[g];by_cases c:i=j
  ·subst c;rw[pF,om,om];have l:r/2^0%2=1:=by simpa using d
   have m:¬(r-1)/2^0%2=1:=by simp;lia
   rw[aT l,aV m];simp
  ·rw[aV (λz=>c z.symm)];have:∃k,i-j=k+1:=(i-j-1,by lia);let(k,n):=1 this;rw[n,Nat.testBit_succ,Nat.testBit_succ];have:(r-1)/2=r/2:=by omega
   rw[1924];cases (r/2).testBit k<;>rfl
abbrev R(fit F:Nat->Bool):Nat->Nat->Bool
 |0,s=>F s
 |k+1,s=>fit s&&R fit F k (s+1)
def Q8{fit F:Nat->Bool}:∀(k s:Nat),R fit F k s=true↔(∀j,j<k->fit (s+j)=true)/\F (s+k)=true
 |0,s=>by show F s=true↔_;exact(λh=>(λj d=>by simp_all,h),λh=>h.2)
 |k+1,s=>by
  show(fit s&&R fit F k (s+1))=true↔_;rw[bK,Q8 k (s+1)];constructor
  ·(intro a;let(b,c,e):=40 a)
   refine(λj d=> ?_,by rw[show s+(k+1)=s+1+k by lia];exact e);cases j with
   |zero=>exact b
   |succ j=>rw[show s+(j+1)=s+1+j by lia];exact c j #[j]
  ·(intro a;let(b,c):=20 a)
   refine(b 0 #[j],λj d=> ?_,by rw[show s+1+k=s+(k+1) by lia];exact c);rw[show s+1+j=s+(j+1) by lia];exact b (j+1) #[j]
structure lZ(st:Nat)(mv:List #[aw])(ch:Nat->Option Nat):Prop where
 yz:∀s,st.testBit s=decide (ch s=some 0)
 mv1:∀k S,((k),S)∈mv->S≠0/\1<=k/\k<=99/\∀s,S.testBit s=decide (ch s=some k)
 mv2:∀s k,ch s=some k->1<=k->∃S,((k),S)∈mv
def lZ.zero:lZ 0 [] λ_=>none:=(λs=>by rw[jw];rfl,(λ_ _ h=>by cases h),(λ_ _ h=>by cases h))
def lZ.tW{st:Nat}{ch:Nat->Option Nat}{f:Nat->Bool}(h:∀s,st.testBit s=f s)(a:∀s,ch s=if f s=true then some 0 else none):lZ st [] ch:=(λs=>by rw[h,a];cases f s<;>rfl,(λ_ _ h=>by cases h),(λs k h b=>by
  rw[a]at h;split at h
  ·rw[1914];lia
  ·cases h))
def L9{l:List Nat}{k:Nat}:(l++[k]).find? p=match l.find? p with|some x=>some x|none=>if p k=true then some k else none:=by
 rw[HV];cases l.find? p with
 |some x=>rfl
 |none=>show([k].find? p)=_;rw[mD];cases p k<;>rfl
def lZ.snoc{st b i k:Nat}{m:List #[aw]}{pre:List Nat}{p:Nat->Nat->Bool}(h:lZ st m λs=>pre.find? λk=>p k s)(r:∀s,b.testBit s=(pre.find? λk=>p k s).isSome) (t:k∉pre) (o:k<=99) (n:∀s,i.testBit s=p k s):(∀s,(b|||wo i b).testBit s=((pre++[k]).find? λk=>p k s).isSome)/\(k=0->lZ (wo i b) m λs=>#[i7].find? λk=>p k s)/\(k≠0->wo i b≠0->lZ st (m++[((k),wo i b)]) λs=>#[i7].find? λk=>p k s)/\(k≠0->wo i b=0->lZ st m λs=>#[i7].find? λk=>p k s):=by
 have new:∀s,(wo i b).testBit s=decide (#[i7].find? (λk=>p k s)=some k):=λs=>by
  rw[J7,n,r,L9];cases e:pre.find? λk=>p k s with
  |some x=>have:x≠k:=λz=>t (by rw[<-z];exact yw e);simp[this]
  |none=>cases p k s<;>simp
 have g:∀s a,a≠k->(decide #[kX])=decide (pre.find? (λk=>p k s)=some a):=λs a j=>by
  rw[L9];cases e:pre.find? λk=>p k s with
  |some x=>rfl
  |none=>
   cases p k s with
   |false=>simp
   |true=>simp;exact λz=>j z.symm
 have mem:∀a c,((a),c)∈m->a≠k:=λa c hm z=>by subst z;let(h0,_,_,q):=60 #[zC];let(s,hs):=1 (DN h0);rw[q]at hs;exact t (yw (eo hs))
 have keep:∀a c,((a),c)∈m->c≠0/\1<=a/\a<=99/\∀s,c.testBit s=decide #[kX]:=λa c hm=>by let(h0,l,u,q):=60 #[zC];exact(h0,l,u,λs=>by rw[q,g s a (mem a c hm)])
 have d:∀s a,#[i7].find? (λk=>p k s)=some a->a≠k->pre.find? (λk=>p k s)=some a:=λs a e j=>by have:=g s a j;rw[aT e]at this;exact eo this.symm
 refine(λs=> ?_,λh0=>(λs=> ?_,keep,λs a e l=> ?_),λh0 hz=>(λs=> ?_,λa c hm=> ?_,λs a e l=> ?_),λh0 hz=>(λs=> ?_,keep,λs a e l=> ?_))
 ·rw[rY,J7,r,n,L9];cases e:pre.find? λk=>p k s with
  |some x=>rfl
  |none=>cases p k s<;>rfl
 ·rw[new,h0]
 ·exact h.mv2 s a (d s a e #[f]) l
 ·rw[2023]
 ·rcases a4.mp hm with hm|hm
  ·exact keep a c hm
  ·rw[bh]at hm;injection hm with v w;subst v w;exact(hz,by lia,o,new)
 ·by_cases f:a=k
  ·exact(_,a4.mpr (.inr (by rw[f];exact bh.mpr rfl)))
  ·let(S,n):=1 (h.mv2 s a (d s a e f) l);exact(S,a4.mpr (.inl n))
 ·rw[2023]
 ·by_cases f:a=k
  ·subst f;have:=new s;rw[hz,jw,aT e]at this;rw[1908]
  ·exact h.mv2 s a (d s a e f) l
def Ma{d:Type}{p:d->Bool}:∀(l:List d) (k hi:Nat),k<=((l.take hi).takeWhile p).length↔k<=hi/\∀j,j<k->(l[j]?).any p=true
 |[],k,hi=>by
  rw[List.take_nil];constructor
  ·intro h;have h:k<=0:=h;exact(by simp_all,λj b=>by simp_all)
  ·(intro a;let(_,h):=20 a)
   cases k with
   |zero=>exact dR _
   |succ k=>have:=h 0 #[j];rw[2111]
 |x::l,k,0=>by
  rw[oo];constructor
  ·intro h;have h:k<=0:=h;exact(h,λj b=>by simp_all)
  ·(intro a;let(h,_):=20 a);exact h
 |x::l,k,hi+1=>by
  rw[List.take_succ_cons,List.takeWhile_cons];cases k with
  |zero=>exact(λ_=>(dR _,λj b=>by simp_all),λ_=>dR _)
  |succ k=>
   cases e:p x with
   |false=>
    rw[1900];constructor
    ·intro h;have h:k+1<=0:=h;lia
    ·(intro a;let(_,h):=20 a)
     have:=h 0 #[f];rw[j0]at this;rw[show #[zh].any p=p x from rfl,e]at this;rw[1908]
   |true=>
    rw[aq rfl,ak];have f:=Ma (p:=p) l k hi;constructor
    ·intro h;let(g,c):=20 (f.mp #[f]);refine(by simp_all,λj b=> ?_);cases j with
     |zero=>rw[j0];exact e
     |succ j=>rw[d9];exact c j #[j]
    ·(intro a;let(g,c):=20 a)
     have:=f.mpr (by simp_all,λj b=>by have:=c (j+1) #[j];rw[d9]at this;exact this)
     simp_all
abbrev AD(x:Search)(f:Fit)(p:Nat):Bool:=(Ja x p).any λc=>qY x.fold f c
def Il{x:Search}{k:Nat}:k<=xI x f s hi↔k<=hi/\∀j,j<k->AD x f (s+j)=true:=by
 unfold xI;rw[Ma];refine and_congr_right λ_=> ?_;have e:∀j,((x.text.drop s)[j]?).any (λy=>qY x.fold f y.sign)=AD x f (s+j):=λj=>by unfold AD Ja;rw[je];cases x.text[s+j]?<;>rfl
 constructor
 ·intro h j a;rw[<-e];exact h j a
 ·intro h j a;rw[e];exact h j a
def Xz{n m:Nat}(h:m<=n)(p:Nat->Bool):(cw (n+1)).filter (λk=>decide (k<=m)&&p k)=#[yt].filter p:=by
 induction n with
 |zero=>
  have:m=0:=by lia
  rw[1936];apply fA;intro k a;rw[uO]at a;rw[aT #[j]];rfl
 |succ n b=>
  by_cases hm:m=n+1
  ·subst hm;apply fA;intro k a;rw[uO]at a;rw[aT #[f]];rfl
  ·rw[sL,eV,b #[f]];simp;intro z
   lia
abbrev counts(lo hi:Nat)(sp:Bool):List Nat:=let l:=(cw (hi+1)).filter λk=>decide #[qz];if sp=true then l else l.reverse
def OE{f:Nat->Nat}{p:Nat->Bool}:∀l:List Nat,#[AR].filter p=(l.filter λk=>p (f k)).map f
 |[]=>rfl
 |a::l=>by rw[cB,cC,cC,OE l];cases p (f a)<;>rfl
def Mb{p:Nat->Bool}:∀l:List Nat,(l.filter p).head?=l.find? p
 |[]=>rfl
 |a::l=>by
  rw[cC,mD];cases p a with
  |true=>rfl
  |false=>exact Mb l
def aes(l:List Nat):(l.filter p).getLast?=l.reverse.find? p:=by rw[<-Mb,List.filter_reverse,List.head?_reverse]
def ZM{x:Search}{q lo:Nat}{sp:Bool}{F:Nat->Bool}(g:∀e,F e=true->e<=q):qZ #[mk] (#[xg].filter F)=(#[v1].find? λk=>R #[ww] F k s).map (s+ ·):=by
 have b:xI x f s hi<=hi:=(Il.mp #[gw]).1;have h:#[xg].filter F=(((cw (hi+1)).filter λk=>decide #[qz]).filter λk=>R #[ww] F k s).map (s+ ·):=by
  show((((cw (xI x f s hi+1)).filter _).map _).filter F)=_;rw[OE,mM,mM,<-Xz b];congr 1;apply fA;intro k i;rw[uO]at i;by_cases hr:R #[ww] F k s=true
  ·rw[hr];let(j,d):=20 ((Q8 k s).mp hr);have a:k<=xI x f s hi:=Il.mpr (by lia,j);have l:=g _ d;rw[d,aT a,aT l];simp
  ·have c:R #[ww] F k s=false:=by simpa using hr
   rw[c];rw[ma,LG];by_cases a:k<=xI x f s hi
   ·right;rw[LG];left;cases e:F (s+k)with
    |false=>rfl
    |true=>exact absurd ((Q8 k s).mpr ((Il.mp a).2,e)) hr
   ·left;exact aV a
 rw[h];unfold qZ counts;cases sp with
 |true=>show(oQ _ _).head?=_;rw[List.head?_map,Mb];rfl
 |false=>show(oQ _ _).getLast?=_;rw[List.getLast?_map,aes];rfl
#print Pe
#where
section
namespace Pe
open Vatrko (Text Item Fit Part Search)
section
variable {x:Search}{q:Nat}
variable {s e Z:Nat}{it:Item}{l:List Nat}{r:List Item}
abbrev go(x:Search)(q:Nat)(r:List Item)(s:Nat):Bool:=((jx x q r).headD []).getD s false
def Q9{n:Nat}{f:Nat->Bool}:((cw n).map f).getD s false=(decide (s<n)&&f s):=by
 rw[ei,bz];by_cases h:s<n
 ·rw[EK h,aT h];rfl
 ·rw[eT (by rw[tF];simp_all),aV h];rfl
def aet(a:q<=x.text.length)(s:Nat):go x q [] s=decide (s<=q):=by
 show(#[ry].map _).getD s false=_;rw[Q9];by_cases h:s<=q
 ·rw[aT h,aT #[f]];rfl
 ·rw[aV h];simp
abbrev La(x:Search)(q:Nat)(it:Item)(r:List Item)(s:Nat):Option Nat:=qZ it (#[AP].filter #[ym])
def ZN:(qZ it l).isSome= !l.isEmpty:=by
 unfold qZ;cases l with
 |nil=>split<;>rfl
 |cons a l=>
  split
  ·rfl
  ·rw[gb];rfl
def ach(h:qZ it l=some e):e∈l:=by
 unfold qZ at h;split at h
 ·exact List.mem_of_head? h
 ·exact xJ h
def J8(h:e∈me x q s it):s<=e/\e<=q:=by
 unfold me at h;split at h
 ·rw[ci]at h;let(k,b,rfl):=21 h;rw[cT]at b;simp at b
  simp_all
 ·split at h
  ·rename_i a;simp at a;rw[bh]at h;simp_all
  ·rw[1914]
 ·split at h
  ·rename_i a;simp at a;rw[bh]at h;simp_all
  ·rw[1914]
 ·split at h
  ·rw[bh]at h;simp_all
  ·rw[1914]
def sP(h:La x q it r s=some e):s<=e/\e<=q/\go x q r e=true:=by have:=cT.mp (ach h);exact((J8 this.1).1,(J8 this.1).2,this.2)
def xU(d:q<=x.text.length)(it:Item)(r:List Item)(s:Nat):go x q (it::r) s=#[pI].isSome:=by
 show((#[ry].map λs=>#[AP].any λe=>go x q r e)).getD s false=_;rw[Q9];unfold La;rw[ZN];have e:∀l:List Nat,l.any (λe=>go x q r e)= !(l.filter #[ym]).isEmpty:=λl=>by
  induction l with
  |nil=>rfl
  |cons a l b=>
   rw[nI,cC];cases h:go x q r a with
   |true=>rfl
   |false=>exact b
 rw[e];by_cases h:s<x.text.length+1
 ·rw[aT h];rfl
 ·rw[aV h];have:me x q s it=[]:=by
   cases c:me x q s it with
   |nil=>rfl
   |cons a l=>have:=J8 (x:=x) (q:=q) (s:=s) (it:=it) (e:=a) (by rw[c];exact bg);lia
  rw[1924];rfl
def NH(a:q<=x.text.length)(h:go x q r s=true):s<=q:=by
 cases r with
 |nil=>rw[aet a]at h;exact eo h
 |cons it r=>
  rw[xU a]at h;rw[1916];have:=sP he
  lia
abbrev W(x:Search)(q:Nat)(r:List Item)(s:Nat):List Nat:=Vatrko.walk x q r ((jx x q r).drop 1) s
def Mc(it:Item)(r:List Item)(s:Nat):W x q (it::r) s=match La x q it r s with|some e=>e::W x q r e|none=>[]:=rfl
abbrev nA(x:Search)(q:Nat)(r:List Item)(s:Nat):Nat:=#[wl].getLast?.getD s
def Ah(h:La x q it r s=some e):nA x q (it::r) s=nA x q r e:=by unfold nA;rw[Mc,h];show((e::W x q r e).getLast?).getD s=_;rw[gb];rfl
def Fz(a:q<=x.text.length):∀(r:List Item) (s:Nat),go x q r s=true->s<=nA x q r s/\nA x q r s<=q
 |[],s,h=>(be _,NH a h)
 |it::r,s,h=>by rw[xU a]at h;rw[1916];let(c,d,b):=40 #[AF];have:=Fz a r e b;rw[Ah he];lia
def aci(a:q<=x.text.length):∀(r:List Item) (s:Nat),go x q r s=true->#[wl].length=r.length
 |[],s,h=>rfl
 |it::r,s,h=>by rw[xU a]at h;rw[1916];rw[Mc,he];show(W x q r e).length+1=_;rw[aci a r e #[AF].2.2];rfl
def acj(b:q<=x.text.length):∀(r:List Item) (s:Nat),go x q r s=true->∀e∈W x q r s,s<=e/\e<=nA x q r s
 |[],s,h,e,he=>by cases he
 |it::r,s,h,d,a=>by
  rw[xU b]at h;rw[1916];rw[2073];have:=Fz b r e c;rw[Mc,he]at a;rw[Ah he];rw[1929]
  ·simp_all
  ·have:=acj b r e c d a;lia
abbrev ch(x:Search)(q:Nat)(it:Item)(r:List Item)(s:Nat):Option Nat:=#[pI].map (·-s)
def NI{k:Nat}:ch x q it r s=some k↔La x q it r s=some (s+k):=by
 unfold ch;constructor
 ·intro h;let(e,he,rfl):=21 #[iO];have:=sP he;rw[he];congr 1;simp_all
 ·intro h;rw[h];show some (s+k-s)=_;congr 1;simp_all
def XA:(ch x q it r s).isSome=#[pI].isSome:=by unfold ch;rw[HU]
def WG{o:Option Nat}(h:La x q it r s=o.map (s+ ·)):ch x q it r s=o:=by
 unfold ch;rw[h];cases o with
 |none=>rfl
 |some k=>show some (s+k-s)=_;congr 1;simp_all
def aiY(b:q<=x.text.length){f:Fit}{lo a:Nat}{sp:Bool}:ch x q (.unit f lo a sp) r s=#[Dk,a].find? λk=>R #[ww] #[ym] k s:=WG (ZM λe he=>NH b he)
def J9{b:Bool}{F:Nat->Bool}:qZ it ((if b=true then[s]else[]).filter F)=(if(F s&&b)=true then some 0 else none).map (s+ ·):=by unfold qZ;cases b<;>cases h:F s<;>simp[h]<;>split<;>rfl
def aeu(a:q<=x.text.length):ch x q .begins r s=if(go x q r s&&(Dk x s&& !Vatrko.wordBefore x s))=true then some 0 else none:=by
 apply WG;have e:me x q s .begins=if(Dk x s&& !Vatrko.wordBefore x s&&decide (s<=q))=true then[s]else[]:=rfl
 unfold La;rw[e,J9];cases h:go x q r s with
 |false=>rfl
 |true=>rw[aT (NH a h)];simp
def aiZ(a:q<=x.text.length):ch x q .ends r s=if(go x q r s&&(wJ x s&& !Vatrko.wordAt x s))=true then some 0 else none:=by
 apply WG;have e:me x q s .ends=if(wJ x s&& !Vatrko.wordAt x s&&decide (s<=q))=true then[s]else[]:=rfl
 unfold La;rw[e,J9];cases h:go x q r s with
 |false=>rfl
 |true=>rw[aT (NH a h)];simp
def XB(a:q<=x.text.length)(b:it= .opening\/it= .closing):ch x q it r s=if go x q r s=true then some 0 else none:=by
 apply WG;have e:me x q s it=if decide (s<=q)=true then[s]else[]:=by rcases b with rfl|rfl<;>(unfold me;simp)
 unfold La;rw[e,J9];cases h:go x q r s with
 |false=>rfl
 |true=>rw[aT (NH a h)];simp
abbrev Ca(x:Search)(p:Nat):Bool:=(x.text[p]?).any λy=>match x.asked with|none=>true|some ((k),v)=>y.look.getD k 0==v
def Du(he:e<=x.text.length):gM x s e=true↔∀j,s<=j->j<e->Ca x j=true:=by
 unfold gM Ca;cases x.asked with
 |none=>dsimp only;refine(λ_ j _ h=> ?_,λ_=>rfl);rw[aN #[no]];rfl
 |some b=>
  obtain⟨k,v⟩:=b;rw[1897];rw[dH];constructor
  ·intro h j d f;rw[aN #[f]];refine h _ (fC.mpr (j-s,?_));rw[je,jf,aq #[j],show s+(j-s)=j by simp_all];exact aN _
  ·intro h y c;let(i,a):=1 (fC.mp c);rw[je,jf]at a;split at a
   ·have:=h (s+i) #[j] #[bJ];rw[a]at this;rw[1928]
   ·cases a
def ZO{m:Nat}(g:s<=m)(i:m<=e)(he:e<=x.text.length):gM x s e=true↔gM x s m=true/\gM x m e=true:=by
 rw[Du he,Du he,Du #[ah]];constructor
 ·intro h;exact(λj a b=>h j a #[no],λj a b=>h j #[ah] b)
 ·rintro⟨c,d⟩ j a b;by_cases f:j<m
  ·exact c j a f
  ·exact d j #[j] b
def ack(hs:s<=x.text.length):gM x s s=true:=(Du hs).mpr λj a b=>by lia
structure xV(x:Search)(q:Nat)(r:List Item)(G A Z:Nat):Prop where
 g:∀s,G.testBit s=go x q r s
 a:∀s,A.testBit s=(go x q r s&&gM x s (nA x q r s))
 z:∀s,Z.testBit s=(go x q r s&&decide (nA x q r s=s))
def xV.nil(a:q<=x.text.length):xV x q [] #[iU] #[iU] #[iU]:=by
 have e:∀s,#[iU].testBit s=go x q [] s:=λs=>by
  rw[acg,aet a];by_cases h:s<=q
  ·rw[aT h,aT #[f]]
  ·rw[aV h,aV #[f]]
 refine(e,λs=> ?_,λs=> ?_)
 ·rw[e];cases h:go x q [] s with
  |false=>rfl
  |true=>have:=NH a h;show true=gM x s s;rw[ack #[ah]]
 ·rw[e];show _=(_&&decide (s=s));rw[aT rfl,Jb]
def xV.cons(m:q<=x.text.length){G A v w st:Nat}{o:List #[aw]}(h:xV x q r G A Z)(hs:lZ st o (ch x q it r)) (D:∀s,v.testBit s=true↔st.testBit s=true\/∃k S,((k),S)∈o/\S.testBit s=true) (E:∀s,w.testBit s=true↔(st.testBit s=true/\A.testBit s=true)\/∃k S,((k),S)∈o/\S.testBit s=true/\#[nQ]/\A.testBit (k+s)=true):xV x q (it::r) v w (Z&&&st):=by
 have g:∀s,st.testBit s=true↔ch x q it r s=some 0:=λs=>by rw[hs.yz];exact eh
 have i:∀k S s,((k),S)∈o->(S.testBit s=true↔ch x q it r s=some k):=λk S s hm=>by rw[(hs.mv1 k S hm).2.2.2];exact eh
 refine(λs=> ?_,λs=> ?_,λs=> ?_)
 ·rw[xU m,<-XA,dr,D,g,du];constructor
  ·rintro(e|⟨k,S,hm,e⟩)
   ·rw[1990]
   ·exact(_,#[oG].mp e)
  ·(intro c;let(k,e):=1 c)
   rw[2034]
   ·subst h0;exact .inl e
   ·rw[2088];exact .inr (k,S,hm,#[oG].mpr e)
 ·rw[dr,E,bK,xU m,<-XA,du];have key:∀k,ch x q it r s=some k->(#[nQ]/\A.testBit (s+k)=true↔gM x s (nA x q (it::r) s)=true):=λk e=>by
   have l:=NI.mp e;rw[2063];rw[2134];rw[Ah l,h.a,n,Dl,ZO y B.1 #[f],Du (s:=s) (e:=s+k) #[ah]];constructor
   ·(intro c;let(p,f):=20 c)
    exact(λj a b=>by have:=p (j-s) #[f];rw[show s+(j-s)=j by simp_all]at this;exact this,f)
   ·(intro c;let(p,f):=20 c)
    exact(λj a=>p (s+j) #[j] #[j],f)
  constructor
  ·rintro(⟨u,l⟩|⟨k,S,hm,u,l,H⟩)
   ·have e:=(g s).mp u;exact((_,e),(key 0 e).mp (λj I=>by simp_all,l))
   ·have e:=#[oG].mp u;exact((_,e),(key k e).mp (l,by rw[K3];exact H))
  ·(intro c;let(d,f):=20 c;let(k,e):=1 d)
   let(t,C):=20 ((key k e).mpr f);rw[2034]
   ·subst h0;exact .inl ((g s).mpr e,C)
   ·rw[2088];exact .inr (k,S,hm,#[oG].mpr e,t,by rw[K3];exact C)
 ·rw[oF,dr,bK,g,bK,h.z,xU m,<-XA,du,bK,eh,eh];constructor
  ·(intro c;let(d,t):=20 c;let(p,f):=20 d)
   exact((_,t),by rw[Ah (NI.mp t)];exact f)
  ·(intro c;let(d,f):=20 c;let(k,e):=1 d)
   have l:=NI.mp e;rw[2063];rw[2134];rw[Ah l]at f;have:k=0:=by lia
   rw[1936];exact((n,f),e)
def xV.UX(c:q<=x.text.length){items:List Item}{G A:Nat}(h:xV x q items G A Z)(s:Nat):(wo A Z).testBit s=(pS x q items #[bO] s).isSome:=by
 rw[J7,h.a,h.z];show _=#[ab].isSome;cases d:go x q items s with
 |false=>rfl
 |true=>
  have:=Fz c items s d;rw[1900];cases gM x s #[xe]with
  |false=>simp
  |true=>
   by_cases b:nA x q items s=s
   ·rw[aT b,aV #[j]];rfl
   ·rw[aV b,aT #[f]];rfl
def nL(c:q<=x.text.length){items:List Item}{m:bq}(h:pS x q items #[bO] s=some m):go x q items s=true/\s<nA x q items s/\nA x q items s<=q/\m=bq.mk s #[xe] #[tF]:=by
 have h:#[ab]=some m:=h;split at h
 ·rw[1914]
 ·rename_i a;split at h
  ·rename_i b;rw[bK,eh]at b;have a:go x q items s=true:=by simpa using a
   exact(a,b.1,(Fz c items s a).2,(dm.inj h).symm)
  ·rw[1914]
#where
#print Pe
#where
section
namespace Pe
open Vatrko (Text Item Fit Part Search)
abbrev FP:Item->Bool
 | .opening=>true
 | .closing=>true
 |_=>false
abbrev flat(l:List (Item×Nat)):List Nat:=(l.filter λy=>FP y.1).map (·.2)
abbrev nM(l:List #[aw]):List Nat:=l.flatMap λg=>[g.1,g.2]
def vR:∀(l:List (Item×Nat)) (g f:Bool) (k o:Nat),ox g f k (l.map (·.1))=true->nM #[zx]=(if g=true then[o]else[])++flat l/\#[zx].length=(if g=true then 1 else 0)+opened (l.map (·.1))
 |[],g,f,k,o,h=>by
  have:g=false:=by cases g;rfl;rw[1914]
  rw[1936];exact(rfl,rfl)
 |((it),e)::l,g,f,k,o,h=>by
  cases it with
  |opening=>
   have h:(!g&&decide (k<9)&&ox true false (k+1) (l.map (·.1)))=true:=h
   rw[bK,bK]at h;have b:g=false:=by cases g;rfl;cases h.1.1
   subst b;have a:=vR l true false (k+1) e h.2;refine(?_,?_)
   ·show nM (kK e l)=[]++(e::flat l);rw[a.1];rfl
   ·show(kK e l).length=0+(opened (l.map (·.1))+1)
    rw[a.2];simp;lia
  |closing=>
   have h:(g&&f&&ox false true k (l.map (·.1)))=true:=h
   rw[bK,bK]at h;have b:g=true:=h.1.1;subst b;have a:=vR l false true k o h.2;refine(?_,?_)
   ·show[o,e]++nM #[zx]=[o]++(e::flat l);rw[a.1];rfl
   ·show #[zx].length+1=1+opened (l.map (·.1))
    rw[a.2];simp;lia
  |unit _ _ _ _=>exact vR l g true k o h
  |begins=>exact vR l g true k o h
  |ends=>exact vR l g true k o h
def ai0{items:List Item}{es:List Nat}(h:es.length=items.length):(items.zip es).map (·.1)=items:=by rw[List.map_fst_zip #[j]]
def ER(l:List #[aw]):(nM l).length=2*l.length:=by
 induction l with
 |nil=>rfl
 |cons a l b=>show(nM l).length+2=2*#[oF];rw[b];rfl
def acl(l:List #[aw])(i:Nat){g:Nat×Nat}(h:l[i]?=some g):(nM l)[2*i]?=some g.1/\(nM l)[2*i+1]?=some g.2:=by
 induction l generalizing i with
 |nil=>cases h
 |cons a l b=>
  cases i with
  |zero=>cases h;exact(rfl,rfl)
  |succ i=>rw[d9]at h;have:=b i h;show #[oq][2*(i+1)]?=_/\_;rw[show 2*(i+1)=(2*i+1)+1 by rfl,d9,d9];refine(this.1,?_);show #[oq][2*i+1+1+1]?=_;rw[d9,d9];exact this.2
section
variable {x:Search}{q:Nat}{items:List Item}
abbrev pH(x:Search)(q:Nat)(items:List Item)(s:Nat):Option bq:=pS x q items #[bO] s
def Ka(b:q<=x.text.length)(a:ox false false 0 items=true){s:Nat}{m:bq}(h:pH x q items s=some m):m.first=s/\m.last=nA x q items s/\s<m.last/\m.last<=q/\nM m.groups=flat #[bp]/\m.groups.length=opened items/\∀g∈m.groups,g.1<=m.last/\g.2<=m.last:=by
 let(d,k,l,rfl):=60 (nL b h);have hz:=ai0 (aci b items s d);let(f,i):=20 (vR #[bp] false false 0 s (by rw[hz];exact a));rw[hz]at i;refine(rfl,rfl,k,l,f,by rw[i];show 0+_=_;lia,λg a=> ?_);have j:∀e∈flat (items.zip (W x q items s)),e<=nA x q items s:=λe he=>by unfold flat at he;rw[ci]at he;let(y,c,rfl):=21 he;have c:=(cT.mp c).1;exact(acj b items s d _ (Ep c).2).2
 have hm:g.1∈nM #[tF]/\g.2∈nM #[tF]:=(JJ.mpr (g,a,bg),JJ.mpr (g,a,a9 _ bg));rw[f]at hm;exact(j _ hm.1,j _ hm.2)
abbrev c3(x:Search)(q:Nat)(items:List Item)(s:Nat):List bq:=GN x q items #[bO] (q+1-s) s
def FQ(a:q<=x.text.length):∀(n m s:Nat),q+1-s<=n->q+1-s<=m->GN x q items #[bO] n s=GN x q items #[bO] m s
 |0,0,s,_,_=>rfl
 |0,m+1,s,h,_=>by
  show[]=if q<s then[]else _
  rw[1930]
 |n+1,0,s,_,h=>by show #[jT]=[];rw[1930]
 |n+1,m+1,s,c,d=>by
  show #[jT]=#[jT];by_cases hs:q<s
  ·rw[aq hs,aq hs]
  ·rw[am hs,am hs];cases e:pS x q items #[bO] s with
   |none=>exact FQ a n m (s+1) #[bJ] #[f]
   |some k=>
    have b:=nL a e;have:k.last=nA x q items s:=by rw[b.2.2.2]
    show k::_=k::_;rw[FQ a n m k.last #[f] #[f]]
def NJ(b:q<=x.text.length):∀(n s:Nat),q+1-s=n->(∀p,s<=p->pH x q items p=none)->c3 x q items s=[]
 |0,s,h,_=>by unfold c3;rw[h];rfl
 |n+1,s,h,a=>by unfold c3;rw[h];show #[dD]=[];rw[am #[bJ]];rw[show pS x q items #[bO] s=none from a s #[gw]];have:=NJ b n (s+1) #[bJ] λp c=>a p #[jY];unfold c3 at this;rw[show q+1-(s+1)=n by lia]at this;rw[1928]
def S7(e:q<=x.text.length):∀(n s p:Nat) (m:bq),p-s=n->s<=p->(∀i,s<=i->i<p->pH x q items i=none)->pH x q items p=some m->c3 x q items s=m::c3 x q items m.last:=by
 intro n
 induction n using zJ with
 |_ n g=>
  intro s p m h l f hm;have j:=nL e hm;have o:m.last=nA x q items p:=by rw[j.2.2.2]
  obtain⟨k,c⟩:∃k,q+1-s=k+1:=(q-s,by lia);unfold c3;rw[c];show #[dD]=_;rw[1934];by_cases d:s=p
  ·subst d;rw[show pS x q items #[bO] s=some m from hm];show m::_=m::_;rw[FQ e k (q+1-m.last) m.last #[bJ] #[dU]]
  ·rw[show pS x q items #[bO] s=none from f s #[gw] #[f]];cases n with
   |zero=>lia
   |succ n=>have:=g n (yn n) (s+1) p m #[f] #[f] (λi a b=>f i #[jY] b) hm;unfold c3 at this;rw[show q+1-(s+1)=k by lia]at this;rw[1928]
def aev(t:q<=x.text.length):∀(n s:Nat),q+1-s=n->∀m∈c3 x q items s,s<=m.first/\pH x q items m.first=some m/\m.first<m.last/\m.last<=q:=by
 intro n
 induction n using zJ with
 |_ n j=>
  intro s h m hm;cases n with
  |zero=>unfold c3 at hm;rw[h]at hm;cases hm
  |succ n=>
   by_cases k:∃p,s<=p/\#[jA].isSome=true
   ·let(p,u,hs):=21 k;have:∀(d:Nat) (p:Nat),p-s<=d->s<=p->#[jA].isSome=true->∃f,s<=f/\#[w8].isSome=true/\∀i,s<=i->i<f->pH x q items i=none:=by
     intro d
     induction d with
     |zero=>intro p v l o;exact(p,l,o,λi a b=>by lia)
     |succ d j=>
      intro p v l o;by_cases w:∃i,s<=i/\i<p/\#[w7].isSome=true
      ·let(i,a,b,c):=41 w;exact j i #[f] a c
      ·refine(p,l,o,λi a b=> ?_);cases e:pH x q items i with
       |none=>rfl
       |some y=>exact absurd #[p2] w
    let(f,v,l,o):=41 (this _ p #[gw] u hs);let(r,g):=1 (du.mp l);let(k1,k2,k3,z):=60 (nL t g);have A:r.first=f:=by rw[z]
    have B:r.last=nA x q items f:=by rw[z]
    rw[S7 t _ s f r rfl v o g]at hm;rcases b7.mp hm with rfl|hm
    ·exact(by simp_all,by rw[A];exact g,by simp_all,by simp_all)
    ·have j:=j (q+1-r.last) (by have:=k2;omega) r.last rfl m hm;exact(by lia,j.2)
   ·rw[NJ t _ s rfl λp u=> ?_]at hm
    ·cases hm
    ·cases e:pH x q items p with
     |none=>rfl
     |some y=>exact absurd (p,u,by rw[e];rfl) k
#where
#print Pe
#where
section
namespace Pe
open Vatrka (Piece Pending shown visible onStretch putBefore bears next finish shownValue shownLook props)
section
variable {α:Type}[DecidableEq α]
variable {β:Type}
abbrev eW(pc:α->Piece)(ps:List α):List α:=ps.filter λa=>shown #[oa]
def Kb(pc:α->Piece)(ps:List α):#[s3].map pc=bT #[dK]:=by unfold eW bT;rw[List.filter_map];rfl
def acm(pc:α->Piece)(ps:List α):#[s3].length=(bT #[dK]).length:=by rw[<-Kb,aD]
abbrev ck(pc:α->Piece)(p q:Nat)(ps:List α):List α:=(#[s3].drop p).take (q-p)
def FR{pc:α->Piece}{p q:Nat}{ps:List α}{a:α}(h:a∈ck pc p q ps):a∈ps/\shown #[oa]=true:=by have:=xK (kq h);exact cT.mp this
def y4{o:Piece->Bool}{g:Piece->Piece}{pc:α->Piece}:∀(ps:List α) (p q:Nat),ps.Nodup->(ps.filter λa=> !(decide #[u6]&&o #[oa])).map (λa=>if a∈ck pc p q ps then g #[oa]else pc a)=hQ (λx=>if o x=true then[]else[g x]) p q #[dK]
 |[],p,q,_=>by rw[K1,oy];rfl
 |a::ps,p,q,h=>by
  let(l,i):=20 #[vZ];have sub:∀p q b,b∈ck pc p q ps->b≠a:=λp q b d z=>l (z▸(FR d).1);have gen:∀(T f:List α),(∀b,b∈ps->(b∈T↔b∈f))->(ps.filter λb=> !(decide (b∈T)&&o (pc b))).map (λb=>if b∈T then g (pc b)else pc b)=(ps.filter λb=> !(decide (b∈f)&&o (pc b))).map (λb=>if b∈f then g (pc b)else pc b):=λT f c=>by
   rw[fA (q:=λb=> !(decide (b∈f)&&o (pc b))) λb d=>by rw[decide_eq_decide.mpr (c b d)]];refine dO λb d=> ?_;have d:=(cT.mp d).1;by_cases hz:b∈T
   ·rw[aq hz,aq ((c b d).mp hz)]
   ·rw[am hz,am λz=>hz ((c b d).mpr z)]
  rw[cB];by_cases hs:shown #[oa]=true
  ·rw[o9 hs];have es:eW pc (a::ps)=a::eW pc ps:=by unfold eW;rw[cC,aq hs]
   by_cases j:p=0/\0<q
   ·rw[aq j];let(rfl,n):=20 j;have m:ck pc 0 q (a::ps)=a::ck pc 0 (q-1) ps:=by
     unfold ck;rw[es,rZ,rZ];rw[2006];rfl
    have c:∀b,b∈ps->(b∈ck pc 0 q (a::ps)↔b∈ck pc (0-1) (q-1) ps):=λb d=>by rw[m,b7];exact(λz=>z.elim (λz=>absurd (z▸d) l) id,.inr)
    have e:a∈ck pc 0 q (a::ps):=by rw[m];exact bg
    rw[<-y4 ps (0-1) (q-1) i,<-gen _ _ c,cC,aT e];cases r:o #[oa]with
    |true=>rfl
    |false=>show oQ _ (a::_)=[g #[oa]]++_;rw[cB,aq e];rfl
   ·rw[am j];have c:∀b,b∈ck pc p q (a::ps)↔b∈ck pc (p-1) (q-1) ps:=λb=>by
     unfold ck;rw[es];cases p with
     |zero=>
      have:q=0:=by simp_all
      rw[1936];rw[oo,oo]
     |succ p=>rw[List.drop_succ_cons,show q-(p+1)=q-1-(p+1-1) by lia];rfl
    rw[1926];rw[<-y4 ps (p-1) (q-1) i,<-gen _ _ (λb _=>c b),cC,aV e];show oQ _ (a::_)=[pc a]++_;rw[cB,am e];rfl
  ·have hs:shown #[oa]=false:=by simpa using hs
   rw[qQ hs];have es:eW pc (a::ps)=eW pc ps:=by unfold eW;rw[cC,am (by rw[hs];decide)]
   have c:∀b,b∈ck pc p q (a::ps)↔b∈ck pc p q ps:=λb=>by unfold ck;rw[es]
   rw[1926];rw[<-y4 ps p q i,<-gen _ _ (λb _=>c b),cC,aV e];show oQ _ (a::_)=pc a::_;rw[cB,am e]
def Pk{A B:List α}{p:α}(h:#[BW].Nodup):#[BW].filter (λa=> !decide (a=p))=A++B:=by
 rw[f6]at h;let(i,b,c):=40 h;let(d,h5):=20 (eX.mp b);rw[eV,cC];have e:∀l:List α,p∉l->l.filter (λa=> !decide (a=p))=l:=λl f=>by rw[jy];intro a g;rw[aV (λz:a=p=>f (z▸g))];rfl
 rw[e A λz=>c p z p bg rfl,e B d];simp
def UY{f f':α->Bool}{p:α}:∀{ps:List α},ps.Nodup->p∈ps->(∀a,a∈ps->a≠p->f' a=f a)->ps.countP f'+#[od]=ps.countP f+(if f' p=true then 1 else 0)
 |a::ps,h,g,hf=>by
  let(i,j):=20 #[vZ];rw[JK,JK];by_cases e:a=p
  ·rw[2046];have:ps.countP f'=ps.countP f:=by
    apply HW;intro b c;rw[hf b (a9 _ c) λz=>i (z▸c)]
   lia
  ·have d:p∈ps:=(b7.mp g).resolve_left λz=>e z.symm;have k:=UY (f:=f) (f':=f') j d λb c=>hf b (a9 _ c);rw[hf a bg e]
   lia
def UZ{f:α->Bool}{A B:List α}{p:α}:(A++B).countP f+#[od]=#[BW].countP f:=by rw[Qw,Qw,JK];lia
abbrev Path(nx pv:α->α):α->List α->Prop
 |_,[]=>True
 |x,b::l=>nx x=b/\pv b=x/\Path nx pv b l
def Path.congr{nx pv a c:α->α}:∀{x:α} {l:List α},Path nx pv x l->(∀u,u∈(x::l).dropLast->a u=nx u)->(∀v,v∈l->c v=pv v)->Path a c x l
 |x,[],_,_,_=>trivial
 |x,b::l,(f,g,h),d,e=>by refine(by rw[d x (by rw[Aq];exact bg)];exact f,by rw[e b bg];exact g,h.congr (λu i=>d u ?_) λv j=>e v (a9 _ j));rw[Aq];exact a9 _ i
abbrev lastOf(x:α)(A:List α):α:=A.getLast?.getD x
def ZP(x a:α)(A:List α):lastOf x (a::A)=lastOf a A:=by unfold lastOf;rw[gb];rfl
def Path.app{nx pv:α->α}:∀{x:α} {A:List α} {b:α} {B:List α},Path nx pv x #[j5]↔Path nx pv x A/\nx (lastOf x A)=b/\pv b=lastOf x A/\Path nx pv b B
 |x,[],b,B=>(λh=>(trivial,h),λh=>h.2)
 |x,a::A,b,B=>by
  rw[ZP];show(nx x=a/\pv a=x/\Path nx pv a #[j5])↔(nx x=a/\pv a=x/\Path nx pv a A)/\_;rw[Path.app (x:=a)];constructor
  ·(intro c;let(d,e,f,g):=60 c);exact((d,e,f),g)
  ·(intro c;let(i,g):=20 c;let(d,e,f):=40 i);exact(d,e,f,g)
def xW(x:α)(A:List α):lastOf x A=x/\A=[]\/lastOf x A∈A:=by
 cases h:A.getLast? with
 |none=>left;exact(by unfold lastOf;rw[h];rfl,G4.mp h)
 |some y=>right;unfold lastOf;rw[h];exact xJ h
def wU{l:List α}{u:α}(h:u∈l.dropLast):u∈l:=by rw[LH]at h;exact kq h
def XC{x:α}{l:List α}(h:(l++[x]).Nodup){u:α}(a:u∈l):u≠x:=λz=>by rw[f6]at h;exact h.2.2 u a x (bh.mpr rfl) z
def aew{x b:α}{A B:List α}{last:α}{pre:List α}(c:A++b::B=pre++[last])(a:#[j5].Nodup):∀u,u∈(b::B).dropLast->u≠lastOf last A:=by
 intro u f;have e:(b::B)=(b::B).dropLast++[last]:=by
  have g:(b::B).getLast?=some last:=by
   have:#[j5].getLast?=some last:=by rw[c];simp
   rw[pT]at this;rw[gb]at this ⊢;rw[1928]
  obtain⟨l,c⟩:=lC.mp g;rw[c];simp
 rcases xW last A with⟨d,_⟩|d
 ·rw[d];rw[e,<-fz]at a;exact XC a (a4.mpr (.inr f))
 ·intro z;rw[f6]at a;exact a.2.2 _ d u (wU f) z.symm
def ah4{A:List α}{b:α}{B:List α}{last:α}{pre:List α}(c:A++b::B=pre++[last])(a:#[j5].Nodup):(last::A).Nodup:=by
 have hm:last∈b::B:=by
  have d:(b::B).getLast?=some last:=by
   have:#[j5].getLast?=some last:=by rw[c];simp
   rw[pT]at this;rw[gb]at this ⊢;rw[1928]
  exact xJ d
 rw[f6]at a;exact eX.mpr (λz=>a.2.2 last z last hm rfl,a.1)
def OF{x:α}{A:List α}(h:(x::A).Nodup){u:α}(a:u∈(x::A).dropLast):u≠lastOf x A:=by
 have b:(x::A).getLast?=some (lastOf x A):=by rw[gb];rfl
 obtain⟨l,c⟩:=lC.mp b;rw[c]at h a;rw[List.dropLast_concat]at a;exact XC h a
abbrev cp{β:Type}(f:α->β)(a:α)(v:β):α->β:=λb=>if b=a then v else f b
def df{f:α->β}{a:α}{v:β}:cp f a v a=v:=aq rfl
def bJ{f:α->β}{a b:α}{v:β}(h:b≠a):cp f a v b=f b:=am h
def ai1{nx pv:α->α}{A B pre:List α}{b p last:α}(h:Path nx pv last #[j5])(j:A++b::B=pre++[last])(f:#[j5].Nodup)(k:p∉A++b::B):pv b=lastOf last A/\Path (cp (cp nx #[ku] p) p b) (cp (cp pv p #[ku]) b p) last #[uk]:=by
 let(s,y,t,w):=60 #[yQ];have l:p∉A:=λz=>k #[nw];have m:p∉b::B:=λz=>k (a4.mpr #[Ab]);have a:last∈A++b::B:=by rw[j];rw[1942]
 have g:last≠p:=λz=>k (z▸a);have n:lastOf last A≠p:=by
  rcases xW last A with⟨e,_⟩|e
  ·rw[e];exact g
  ·exact λz=>l (z▸e)
 have o:∀v,v∈A->v≠b:=λv c z=>by rw[f6]at f;exact f.2.2 v c b bg z
 have q:b≠p:=λz=>m (z▸bg);refine(t,Path.app.mpr (s.congr (λu i=> ?_) (λv c=> ?_),?_,?_,?_,?_,?_))
 ·have d:=OF (ah4 j f) i;have r:u≠p:=by
   rcases b7.mp (wU i)with rfl|z
   ·exact g
   ·exact λe=>l (e▸z)
  rw[bJ r,bJ d]
 ·rw[bJ (o v c),bJ (λz:v=p=>l (z▸c))]
 ·rw[bJ n,df]
 ·rw[bJ q.symm,df]
 ·exact df
 ·exact df
 ·refine w.congr (λu i=> ?_) λv c=> ?_
  ·have d:=aew (x:=b) j f u i;rw[bJ (λz:u=p=>m (z▸wU i)),bJ d]
  ·have:v≠b:=λz=>by rw[f6]at f;exact(eX.mp f.2.1).1 (z▸c)
   rw[bJ this,bJ (λz:v=p=>m (z▸a9 _ c))]
def agJ{nx pv:α->α}{A B pre:List α}{b p last:α}(h:Path nx pv last #[uk])(f:A++p::b::B=pre++[last])(c:#[uk].Nodup):nx p=b/\pv p=lastOf last A/\Path (cp nx #[ku] b) (cp pv b #[ku]) last #[j5]:=by
 let(g,n,i,j,h5,k):=100 #[yQ];have a:=f6.mp c;let(o,l):=20 (eX.mp a.2.1);let(m,q):=20 (eX.mp l);refine(j,i,Path.app.mpr (g.congr (λu d=> ?_) (λv e=> ?_),?_,?_,k.congr (λu d=> ?_) λv e=> ?_))
 ·rw[bJ (OF (ah4 f c) d)]
 ·rw[bJ λz=>a.2.2 v e b (a9 _ bg) z]
 ·exact df
 ·exact df
 ·have:=aew (x:=p) f c u (by rw[Aq];exact a9 _ d);rw[bJ this]
 ·rw[bJ (λz:v=b=>m (z▸e))]
#where
#print Pe
#where
section
namespace Pe
open Vatrka (Piece Pending shown visible onStretch putBefore bears next finish shownValue shownLook props count isSign outright cutPiece paintPiece newPieces doPut doCut doPaint has)
variable {n c v p:Nat}{l:List Nat}{s:aU}
structure i3(n:Nat)(x:Piece):Prop where
 look:x.look.length=4
 ins:∀c∈x.ins,1<=c/\c<=n
 Pl:x.ins.length<=1
 del:∀c∈x.del,1<=c/\c<=n
 pend:∀y∈x.pend,1<=y.change/\y.change<=n/\y.prop<4
 tags:x.tags=[]
 Md:(x.pend.map (·.change)).Pairwise (·< ·)
 XD:∀y∈x.pend,y.change∉x.ins
 sgn:tI (x.sign:Int)=true
def i3.mono{m:Nat}{x:Piece}(h:i3 n x)(hm:n<=m):i3 m x:=(h.look,λc a=>((h.ins c a).1,by have:=(h.ins c a).2;exact dk ‹_› ‹_›),h.Pl,λc a=>((h.del c a).1,by have:=(h.del c a).2;lia),λy b=>(#[ja].1,by have:=#[ja].2.1;exact dk ‹_› ‹_›,#[ja].2.2),h.tags,h.Md,h.XD,h.sgn)
structure Good(s:aU):Prop where
 last:∃r x,s.row=r++[x]/\x.sign=10/\x.ins=[]/\x.del=[]
 all:∀x∈s.row,i3 s.changes.length x
def abu:has l c=true↔c∈l:=by
 unfold has;rw[rq];constructor
 ·(intro a;let(x,b,d):=21 a);rw[<-beq_iff_eq.mp d];exact b
 ·intro h;exact(c,h,beq_iff_eq.mpr rfl)
abbrev nN(x:Piece):List Nat:=x.ins++x.del++x.pend.map (·.change)
def mV{x:Piece}:dn c x=true↔c∈nN x:=by
 unfold dn nN;rw[oE,oE,abu,abu,rq,a4,a4,ci];constructor
 ·rintro(h|h|⟨y,a,b⟩)
  ·rw[2011]
  ·rw[2010]
  ·exact .inr (y,a,beq_iff_eq.mp b)
 ·rintro((h|h)|⟨y,a,b⟩)
  ·rw[2061]
  ·exact .inr #[nG]
  ·exact .inr (.inr (y,a,beq_iff_eq.mpr b))
def i3.Kc{x:Piece}(h:i3 n x)(a:c∈nN x):1<=c/\c<=n:=by
 unfold nN at a;rw[a4,a4,ci]at a;rw[2025]
 ·exact h.ins c a
 ·exact h.del c a
 ·exact(#[ja].1,#[ja].2.1)
def i3.zQ{x:Piece}(h:i3 n x):dn (n+1) x=false:=by
 cases e:dn (n+1) x with
 |false=>rfl
 |true=>have:=(h.Kc (mV.mp e)).2;lia
def akw(h:l.length<=1):l.Nodup:=by
 match l,h with
 |[],_=>exact BF
 |[a],_=>simp
def Me(h:l.Pairwise (·< ·)):l.Nodup:=h.imp λh=>by lia
def i3.ZQ{x:Piece}(h:i3 n x)(hs:shown x=true):(nN x).Nodup:=by have hd:x.del=[]:=uQ.mp hs;unfold nN;rw[hd,ah,f6];refine(akw h.Pl,Me h.Md,λa c b d z=> ?_);let(y,e,rfl):=21 #[v2];exact h.XD y e (z▸c)
def gA(x:Piece):(dZ x).length=4:=by unfold dZ;rw[aD];rfl
def qp{x:Piece}{k:Nat}(h:k<4):(dZ x)[k]?=some (jQ x k):=by
 match k,h with
 |0,_=>rfl
 |1,_=>rfl
 |2,_=>rfl
 |3,_=>rfl
def Mf{a b:List Nat}(d:a.length=4)(e:b.length=4)(h:∀k,k<4->a[k]?=b[k]?):a=b:=by
 apply List.ext_getElem?;intro i;by_cases c:i<4
 ·exact h i c
 ·rw[eT #[j],eT #[f]]
abbrev uh(k v:Nat)(x:Piece):Piece:={x with look:=x.look.set k v,pend:=x.pend.filter λy=> !#[iF]}
abbrev wV(m k v:Nat)(x:Piece):Piece:={x with pend:=x.pend++[{change:=m,prop:=k,value:=v}]}
def XE{x:Piece}{k:Nat}(d:k<4)(f:x.look.length=4):dZ #[pd]=(dZ x).set k v:=by
 rw[2004];rw[qp b,BG,gA,qp b];unfold jQ uh;rw[1897];rw[mM];rw[2145]
 ·rw[2046];rw[aq rfl,aq d];have:(x.pend.filter λa=>(a.prop==k&& !#[wg]))=[]:=by rw[qO];intro a _;cases #[wg]<;>decide
  rw[1924];show some (#[jx].getD k 0)=_;rw[ei,BG,aq rfl,aq #[j]];rfl
 ·rw[am e];have:(x.pend.filter λa=>(a.prop==j&& !#[wg]))=x.pend.filter λa=>a.prop==j:=by
   apply fA;intro a _;by_cases c:a.prop=j
   ·have:¬a.prop=k:=λz=>e #[j];simp[c,Ne.symm e]
   ·simp[c]
  rw[1924];cases (x.pend.filter λa=>a.prop==j).getLast? with
  |some y=>rfl
  |none=>show some (#[jx].getD j 0)=some (x.look.getD j 0);rw[ei,ei,BG,am e]
def ZR{x:Piece}{m k:Nat}(c:k<4):dZ #[oA]=(dZ x).set k v:=by
 rw[2004];rw[qp b,BG,gA,qp b];unfold jQ wV;rw[1897];rw[eV];rw[2145]
 ·rw[2046];rw[aq rfl,aq c];simp
 ·rw[am e];have:([{change:=m,prop:=k,value:=v}]:List lX).filter (λa=>a.prop==j)=[]:=by simp[e]
  rw[this,ah]
def akx{k:Nat}(h:k<l.length):l.set k v=l.take k++[v]++l.drop (k+1):=by rw[List.set_eq_take_append_cons_drop,aq h];simp
abbrev ui(k:Nat)(x:Piece):List Nat:=#[cB].map (·.change)
def Lb{x:Piece}(h:i3 n x)(hs:shown x=true)(k v c:Nat):dn c #[pd]=(dn c x&& !decide (c∈ui k x)):=by
 rw[dr,mV,bK,mV];unfold nN uh ui;rw[1897];simp only[a4,ci,cT,Bool.not_eq_true',decide_eq_false_iff_not];have inj:∀y∈x.pend,∀z∈x.pend,y.change=z.change->y=z:=λy b z hz e=>by
  let(i,s):=1 (fC.mp b);let(j,t):=1 (fC.mp hz);have d:=h.Md;rw[yx]at d;have f:=iX.mp s;have g:=iX.mp t;obtain⟨li,l⟩:=f;obtain⟨p,m⟩:=g;have u:i=j:=by
   rcases Nat.lt_trichotomy i j with q|q|q
   ·have:=d i j #[s8] #[tR] q;rw[uR,uR,l,m]at this;simp_all
   ·rw[2105]
   ·have:=d j i #[tR] #[s8] q;rw[uR,uR,l,m]at this;simp_all
  subst u;rw[<-l,<-m]
 constructor
 ·rintro((a|a)|⟨y,⟨b,r⟩,rfl⟩)
  ·refine(.inl (.inl a),?_);rintro⟨y,⟨b,_⟩,rfl⟩;exact h.XD y b a
  ·rw[uQ.mp hs]at a;cases a
  ·refine(.inr (y,b,rfl),?_);rintro⟨z,⟨hz,w⟩,e⟩;have:=inj y b z hz e.symm;rw[1936];rw[w]at r;cases r
 ·(intro o;let(a,A):=20 o)
  rw[2025]
  ·exact .inl (.inl a)
  ·exact .inl (.inr a)
  ·refine .inr (y,(b,?_),rfl);cases e:#[iF]with
   |false=>rfl
   |true=>exact absurd (y,(b,e),rfl) A
def Mg{x:Piece}{m k:Nat}:dn c #[oA]=#[ru]:=by
 rw[dr,mV,oE,mV,eh];unfold nN wV;rw[1897];simp only[a4,bb,cB,K1,bh];constructor
 ·rintro(h|h|h)
  ·rw[2011]
  ·rw[2010]
  ·rw[1923]
 ·rintro((h|h)|h)
  ·rw[2061]
  ·exact .inr #[nG]
  ·exact .inr #[wK]
abbrev wW(m:Nat)(x:Piece):Piece:={x with del:=[m]}
def Mh{x:Piece}(hs:shown x=true){m:Nat}:dn c (wW m x)=#[ru]:=by
 rw[dr,mV,oE,mV,eh];have hd:x.del=[]:=uQ.mp hs;unfold nN wW;rw[1897];rw[hd];simp only[a4,bh,ah];constructor
 ·rintro((h|h)|h)
  ·rw[2011]
  ·rw[1923]
  ·rw[2010]
 ·rintro((h|h)|h)
  ·rw[2011]
  ·rw[1923]
  ·rw[2010]
def i3.wW{m:Nat}{x:Piece}(h:i3 n x)(d:1<=m)(a:n<=m):i3 m (wW m x):=by have h:=h.mono a;exact(h.look,h.ins,h.Pl,λc b=>by rw[bh.mp b];solve_by_elim,h.pend,h.tags,h.Md,h.XD,h.sgn)
def i3.uh{k:Nat}{x:Piece}(h:i3 n x):i3 n #[pd]:=(by show #[jx].length=4;rw[Er];exact h.look,h.ins,h.Pl,h.del,λy a=>h.pend y #[po].1,h.tags,by refine iJ.sublist ?_ h.Md;exact K4.map _ ii,λy a=>h.XD y #[po].1,h.sgn)
def i3.wV{k:Nat}{x:Piece}(h:i3 n x)(e:k<4):i3 (n+1) (wV (n+1) k v x):=by
 have h':=h.mono (qW n);refine(h.look,h'.ins,h.Pl,h'.del,λy c=> ?_,h.tags,?_,λy c=> ?_,h.sgn)
 ·rcases a4.mp c with c|c
  ·exact h'.pend y c
  ·rw[bh.mp c];exact(by show 1<=n+1;lia,be _,e)
 ·show((x.pend++[_]).map _).Pairwise _;rw[bb,List.pairwise_append];refine(h.Md,by simp,λa f b d=> ?_);let(y,c,rfl):=21 (ci.mp f);have:=(h.pend y c).2.1;rw[Aa,bh]at d;subst d;show y.change<n+1
  lia
 ·rcases a4.mp c with c|c
  ·exact h.XD y c
  ·rw[bh.mp c];intro z;have:=(h.ins _ z).2;have:n+1<=n:=this
   lia
def ai2{new row:List Piece}(c:∀x∈new,shown x=true)(d:p<#[np].length):bT #[zr]=#[np].take p++new++#[np].drop p:=by let(a,x,b,rfl,f,rfl):=43 (J5 row p d);have e:bT new=new:=jy.mpr c;rw[wR new a x b f,mT,mT,e,mT,GO,GP,fz]
def Im{f:Piece->List Piece}(b:∀x,shown x=true->bT (f x)=[]):∀(row:List Piece) (p q:Nat),p<=q->bT #[zB]=#[np].take p++#[np].drop q
 |[],p,q,_=>by rw[oy];simp[bT]
 |x::r,p,q,h=>by
  rw[1935]
  ·rw[o9 a,mT,Im b r (p-1) (q-1) #[bJ],gz a];by_cases c:p=0/\0<q
   ·rw[aq c,b x a];let(rfl,d):=20 c;rw[2006];simp
   ·rw[am c,gz a];cases p with
    |zero=>
     have:q=0:=by simp_all
     rw[1936];simp[bT]
    |succ p=>obtain⟨k,rfl⟩:∃k,q=k+1:=#[n1];simp[bT]
  ·have a:shown x=false:=by simpa using a
   rw[qQ a,kO a,kO a,Im b r p q h]
def XF(x:Piece)(h:shown x=true):bT (cutPiece s x)=[]:=by
 unfold cutPiece;split
 ·rfl
 ·rw[kO #[aT]];rfl
def S8{f:Piece->Piece}(b:∀x,shown (f x)=shown x):∀(row:List Piece) (p q:Nat),(bT (hQ (λx=>[f x]) p q row)).length=#[np].length
 |[],p,q=>by rw[oy]
 |x::r,p,q=>by
  rw[1935]
  ·rw[o9 a,mT,aM,S8 b r,gz a,ak];split
   ·rw[gz (by rw[b];exact a)];simp[bT];lia
   ·rw[gz a];simp[bT];lia
  ·have a:shown x=false:=by simpa using a
   rw[qQ a,kO a,kO a,S8 b r]
def sy{k:Nat}{x:Piece}:pG s k v x=if CU s x=true then uh k v x else if jQ x k=v then x else wV (next s) k v x:=rfl
def FS{k:Nat}(x:Piece):shown (pG s k v x)=shown x:=by
 rw[sy];split
 ·rfl
 ·split<;>rfl
def vk{k:Nat}{row:List Piece}:#[of].1.row=row:=by unfold finish;split<;>rfl
def Ra{k:Nat}{row:List Piece}:#[of].1.changes.length=if row.any #[nb]=true then s.changes.length+1 else s.changes.length:=by
 unfold finish;split
 ·show #[w6].length=_;rw[aM];rfl
 ·rfl
def Io{k:Nat}{row:List Piece}(i:∃r x,row=r++[x]/\x.sign=10/\x.ins=[]/\x.del=[])(h:∀x∈row,i3 #[bw] x):Good #[of].1:=by
 refine(by rw[vk];exact i,λx d=> ?_);rw[vk]at d;rw[Ra];split
 ·exact h x d
 ·rename_i f;have f:∀x∈row,¬dn (next s) x=true:=λx d z=>f (rq.mpr (x,d,z));have a:=h x d;have g:=f x d;rw[mV]at g;have le:∀c,c∈nN x->c<=s.changes.length:=λc b=>by
   have m:=(a.Kc b).2;have:c≠s.changes.length+1:=λz=>g (by show s.changes.length+1∈_;rw[<-z];exact b)
   lia
  have j:∀c∈x.ins,c∈nN x:=λc b=>by unfold nN;simp[b]
  have hd:∀c∈x.del,c∈nN x:=λc b=>by unfold nN;simp[b]
  have l:∀y∈x.pend,y.change∈nN x:=λy e=>by unfold nN;rw[a4];exact .inr (ci.mpr (y,e,rfl))
  exact(a.look,λc b=>((a.ins c b).1,le c (j c b)),a.Pl,λc b=>((a.del c b).1,le c (hd c b)),λy e=>((a.pend y e).1,le _ (l y e),(a.pend y e).2.2),a.tags,a.Md,a.XD,a.sgn)
def C2{f:Piece->List Piece}{y:Piece}:∀{row:List Piece} {p q:Nat},y∈hQ f p q row->y∈row\/∃x∈row,shown x=true/\y∈f x
 |[],p,q,h=>by rw[oy]at h;rw[1914]
 |x::r,p,q,h=>by
  rw[1935]
  ·rw[o9 a]at h;rcases a4.mp h with h|h
   ·split at h
    ·exact .inr (x,bg,a,h)
    ·rw[bh.mp h];exact .inl bg
   ·rcases C2 h with h|⟨z,b,c⟩
    ·exact .inl #[zT]
    ·exact .inr #[wV]
  ·have a:shown x=false:=by simpa using a
   rw[qQ a]at h;rw[1963]
   ·exact .inl bg
   ·rcases C2 h with h|⟨z,b,c⟩
    ·exact .inl #[zT]
    ·exact .inr #[wV]
def i3.al7{look ins:List Nat}(b:look.length=4)(a:ins=[]\/ins=[n])(f:1<=n)(e:tI (c:Int)=true):i3 n {sign:=c,look:=look,ins:=ins}:=by
 refine(b,λd hd=> ?_,?_,(λ_ h=>by cases h),(λ_ h=>by cases h),rfl,iJ.nil,(λ_ h=>by cases h),e)
 ·rcases a with rfl|rfl
  ·cases hd
  ·rw[bh.mp hd];solve_by_elim
 ·rcases a with rfl|rfl<;>simp
def Ip(p:Nat)(row:List Piece):(pU p row).length=4:=by unfold pU;split;exact gA _;rfl
def FT(p:Nat)(row:List Piece):(mE p row).length=4:=by
 unfold mE;split
 ·rfl
 ·split
  ·split
   ·rfl
   ·exact gA _
  ·rfl
def Good.tags(g:Good s)(p:Nat):SD p s.row=[]:=by
 unfold SD;split
 ·rfl
 ·split
  ·rename_i x y a c;have b:x∈s.row:=(cT.mp (bO a)).1;rw[(g.all x b).tags];rfl
  ·rfl
def AE(g:Good s)(p:Nat)(signs:List Nat):DR s p signs=signs.map λc=>{sign:=c,look:=if c=10 then pU p s.row else mE p s.row,ins:=if s.tracking=true then[next s]else[]}:=by unfold DR;rw[g.tags p];rfl
def Good.put(g:Good s){signs:List Nat}(m:p<ba s)(hs:∀c∈signs,tI (c:Int)=true):Good (Fp s p signs).1:=by
 unfold Fp;let(a,x,b,e,n,h):=43 (J5 s.row p m);have k:oH (DR s p signs) p s.row=a++(DR s p signs++x::b):=by rw[e,<-h];exact wR _ a x b n
 rw[2107]
 ·rw[k];let(r,z,hr,o):=22 #[zE];rw[e]at hr;have:∃i,x::b=i++[z]:=by
   have l:#[sm].getLast?=some z:=by rw[hr];simp
   rw[pT,gb]at l;have q:(x::b).getLast?=some z:=by rw[gb];exact l
   exact lC.mp q
  let(i,j):=1 this;exact(a++(DR s p signs++i),z,by rw[j];simp,o)
 ·rw[k];intro y d;have f:∀y∈s.row,i3 #[bw] y:=λy d=>(g.all y d).mono (qW _);rw[a4,a4]at d;rcases d with d|d|d
  ·exact f y (by rw[e];simp[d])
  ·rw[AE g]at d;let(c,t,rfl):=21 #[v2];exact i3.al7 (by split;exact Ip _ _;exact FT _ _) (by split;exact .inr rfl;exact .inl rfl) #[f] (hs c t)
  ·exact f y (by rw[e,a4];exact .inr d)
def Good.cut(g:Good s){q:Nat}(f:q<=ba s-1):Good (Fq s p q).1:=by
 unfold Fq;rw[2107]
 ·let(r,z,hr,c,d,b):=62 #[zE];have hz:shown z=true:=by show z.del.isEmpty=true;rw[b];rfl
  have h:ba s=(bT r).length+1:=by unfold ba;rw[hr,mT,gz hz,aM];rfl
  refine(hQ (cutPiece s) p q r,z,?_,c,d,b);rw[hr,vi,show q-(bT r).length=0 by simp_all,B9]
 ·intro y a;rcases C2 a with a|⟨x,e,hs,a⟩
  ·exact(g.all y a).mono (qW _)
  ·unfold cutPiece at a;split at a
   ·cases a
   ·rw[bh.mp a];exact #[qL].wW (by show 1<=s.changes.length+1;lia) (qW _)
def Good.paint(g:Good s){q k:Nat}(f:k<4):Good #[z3].1:=by
 unfold FE;rw[2107]
 ·let(r,z,hr,c,d,a):=62 #[zE];have hz:shown z=true:=by show z.del.isEmpty=true;rw[a];rfl
  rw[hr,vi,o9 hz,oy,ah];split
  ·refine(_,pG s k v z,rfl,?_);rw[sy];split
   ·exact #[vf]
   ·split
    ·exact #[vf]
    ·exact #[vf]
  ·exact(_,z,rfl,c,d,a)
 ·intro y b;rcases C2 b with b|⟨x,e,hs,b⟩
  ·exact(g.all y b).mono (qW _)
  ·rw[bh.mp b,sy];split
   ·exact #[qL].uh.mono (qW _)
   ·split
    ·exact #[qL].mono (qW _)
    ·exact #[qL].wV f
def acn:Good Vatrka.start:=by refine(([],_,rfl,rfl,rfl,rfl),λx a=> ?_);rw[bh.mp a];exact(rfl,(λ_ h=>by cases h),dR _,(λ_ h=>by cases h),(λ_ h=>by cases h),rfl,iJ.nil,(λ_ h=>by cases h),rfl)
#print Pe
#where
section
namespace Pe
open Vatrko (Text Item Fit Part Search Trim alike)
open Vatrka (Piece shown visible onStretch putBefore isSign count doPut doCut doPaint)
variable {p:Nat}
def FU:∀(l r:bB),BO l r<=l.length/\BO l r<=r.length
 |[],r=>by unfold BO;exact(be _,dR _)
 |a::l,[]=>by unfold BO;exact(dR _,be _)
 |a::l,b::r=>by
  unfold BO;have:=FU l r;split
  ·rw[1901];simp_all
  ·exact(dR _,dR _)
def FV:∀(k:Nat) (l r:bB),k<=l.length->k<=r.length->(∀i,i<k->l[i]?=r[i]?)->(k=l.length\/k=r.length\/l[k]?≠r[k]?)->BO l r=k
 |0,[],r,_,_,_,_=>rfl
 |0,a::l,[],_,_,_,_=>rfl
 |0,a::l,b::r,_,_,_,h=>by
  unfold BO;rw[am];intro z;subst z;rcases h with h|h|h
  ·rw[1914]
  ·rw[1914]
  ·exact h rfl
 |k+1,[],r,h,_,_,_=>by cases h
 |k+1,a::l,[],_,h,_,_=>by cases h
 |k+1,a::l,b::r,f,g,d,c=>by
  unfold BO;have e:=d 0 #[j];rw[j0,j0]at e;rw[aq (dm.inj e),FV k l r #[u0] (by simpa using g) (λi j=> ?_) ?_]
  ·rcases c with c|c|c
   ·exact .inl #[fA]
   ·exact .inr (.inl #[fA])
   ·rw[d9,d9]at c;exact .inr (.inr c)
  ·have:=d (i+1) #[j];rw[d9,d9]at this;rw[1928]
abbrev kb(c new:bB)(s:Nat):Trim:=
 let a:=BO c new
 let b:=BO (c.drop a).reverse (new.drop a).reverse
 {at_:=s+a,new:=(new.drop a).take (new.length-a-b),gone:=c.length-a-b}
def aco(x:Search)(m:bq)(new:bB):r8 x m new=kb (CQ x m.first m.last) new m.first:=rfl
def Kd(a new:bB)(s:Nat):#[hj].new.length+a.length=new.length+#[hj].gone/\s<=#[hj].at_/\#[hj].at_+#[hj].gone<=s+a.length/\#[hj].new.length<=new.length:=by
 unfold kb;rw[1897];have c:=FU a new;have b:=FU (a.drop (BO a new)).reverse (new.drop (BO a new)).reverse;rw[fK,fK,bN,bN]at b;rw[bE,bN]
 lia
def XG{a new:bB}{s c:Nat}(h:c∈#[hj].new):c∈new:=xK (kq h)
abbrev dw(d:aU):bB:=(bT d.row).map (·.sign)
def eZ(d:aU):#[v0].length=ba d:=by unfold dw;rw[aD];rfl
abbrev tL(d:aU)(t:Trim):aU:=if t.new.isEmpty=true then d else(Fp d t.at_ t.new).1
abbrev Ke(d:aU)(t:Trim):aU:=if t.gone=0 then d else(Fq d #[sS] #[n9]).1
def U0{d:aU}(g:Good d){signs:bB}(a:p<ba d):dw #[q6].1=#[v0].take p++signs++#[v0].drop p:=by
 unfold dw Fp;rw[vk,ai2 ?_ a]
 ·rw[AE g,bb,bb,fO,gW,mh];congr 2;exact(dO λc _=>rfl).trans (DO signs)
 ·rw[AE g];intro y b;let(c,_,rfl):=21 (ci.mp b);rfl
def U1{d:aU}{q:Nat}(h:p<=q):dw #[yT].1=#[v0].take p++#[v0].drop q:=by unfold dw Fq;rw[vk,Im (λx a=>XF x a) _ _ _ h,bb,gW,mh]
def iN{d:aU}(g:Good d):1<=ba d:=by
 let(r,z,hr,b,c,a):=62 #[zE];have hz:shown z=true:=by show z.del.isEmpty=true;rw[a];rfl
 unfold ba;rw[hr,mT,gz hz,aM,ak];lia
def ZS{l:bB}(h:∀c∈l,tI (c:Int)=true):#[yK].all tI=true:=by rw[dH];intro z hz;let(c,a,rfl):=21 (ci.mp hz);exact h c a
def agK(l:bB):#[yK].map (λz=>z.toNat)=l:=by unfold Vatrko.ints;rw[fO];exact(dO λc _=>by show((c:Int)).toNat=c;simp_all).trans (DO l)
structure AF(d:aU)(t:Trim):Prop where
 room:t.at_+t.gone+1<=ba d
 sgn:∀c∈t.new,tI (c:Int)=true
def Mi{d:aU}(g:Good d){t:Trim}(h:AF d t):Good #[mU]/\dw #[mU]=#[v0].take t.at_++t.new++#[v0].drop t.at_:=by
 have:=h.room;unfold tL;split
 ·rename_i e;have e:t.new=[]:=uQ.mp e;rw[e];exact #[xO]
 ·exact(g.put #[f] h.sgn,U0 g #[f])
def Kf{d:aU}(g:Good d){t:Trim}(h:AF d t):ba #[mU]=ba d+t.new.length:=by have:=h.room;rw[<-eZ,(Mi g h).2,aM,aM,bE,bN,eZ];lia
def aex{d:aU}(g:Good d){t:Trim}(h:t.at_+t.new.length+t.gone+1<=ba d):Good (Ke d t)/\dw (Ke d t)=#[v0].take #[sS]++#[v0].drop #[n9]:=by
 unfold Ke;split
 ·rename_i e;rw[e];exact #[xO]
 ·exact(g.cut #[bJ],U1 #[j])
def Iq{d:aU}(g:Good d){t:Trim}(h:AF d t):cU d t=Ke #[mU] t:=by
 have hr:=h.room;have c:(if t.new.isEmpty=true then d else oG d (.put #[qx] #[hp]))=tL d t:=by
  unfold tL;by_cases h0:t.new.isEmpty=true
  ·rw[aq h0,aq h0]
  ·rw[am h0,am h0];show(GQ d #[qx] #[hp]).1=_;unfold GQ;have b:mF #[qx] (ba d)=true:=by unfold mF;simp;lia
   have e:(#[hp].isEmpty|| !(Vatrko.ints t.new).all tI)=false:=by
    rw[ZS h.sgn];cases f:t.new with
    |nil=>rw[f]at h0;exact absurd rfl h0
    |cons a l=>rfl
   rw[am #[nm],am (by rw[e];decide),agK];show(Fp d (#[qx]).toNat t.new).1=_;rw[lR]
 unfold cU;rw[1897];rw[c];unfold Ke;by_cases h0:t.gone=0
 ·rw[aq h0,aq h0]
 ·rw[am h0,am h0];show(GR #[mU] #[fS] #[d2]).1=_;unfold GR;have i:=Kf g h;have b:lw #[fS] #[d2] (ba #[mU]-1)=true:=by
   unfold lw;simp only[bK,ud]
   lia
  rw[am #[nm]];show(Fq #[mU] (#[fS]).toNat (#[d2]).toNat).1=_;rw[lR,lR]
def Lc{d:aU}(g:Good d){t:Trim}(h:AF d t):Good #[v4]/\dw #[v4]=#[v0].take t.at_++t.new++#[v0].drop (t.at_+t.gone):=by
 have hr:=h.room;rw[Iq g h];let(g1,b):=20 (Mi g h);have f:=Kf g h;let(c,e):=20 (aex g1 (t:=t) #[f]);refine(c,?_);have l:=eZ d;have a:(#[v0].take t.at_++t.new).length=t.at_+t.new.length:=by rw[aM,bE];lia
 rw[e,b,<-a,GO,a,<-uS,<-a,GP,uS]
def Ji{d:aU}(g:Good d){t:Trim}(h:AF d t):ba #[v4]+t.gone=ba d+t.new.length:=by have:=h.room;rw[<-eZ,(Lc g h).2,aM,aM,bE,bN,eZ];lia
def xX{s:aU}{k:Nat}{row:List Piece}:#[q2].1.changes.length<=s.changes.length+1/\s.changes.length<=#[q2].1.changes.length:=by rw[Ra];split<;>solve_by_elim
def C3{f:Piece->List Piece}(b:∀x,(f x).length<=1):∀(row:List Piece) (p q:Nat),#[zB].length<=row.length
 |[],p,q=>by rw[oy];exact be _
 |x::r,p,q=>by
  rw[1935]
  ·rw[o9 a,aM,ak];have:=C3 b r (p-1) (q-1);have:=b x;split
   ·lia
   ·simp;lia
  ·have a:shown x=false:=by simpa using a
   rw[qQ a,ak,ak];have:=C3 b r p q
   simp_all
def DZ(new:List Piece):∀(row:List Piece) (p:Nat),#[zr].length=row.length+new.length
 |[],p=>by unfold oH;simp
 |x::r,p=>by
  unfold oH;split
  ·split
   ·simp;lia
   ·rw[ak,DZ new r];simp;lia
  ·rw[ak,DZ new r];simp;lia
def Pn{d:aU}{signs:bB}:#[q6].1.row.length=d.row.length+signs.length/\#[q6].1.changes.length<=d.changes.length+1:=by unfold Fp;rw[vk,DZ];exact(by unfold Vatrka.newPieces;rw[aD],xX.1)
def XH{d:aU}{q:Nat}:#[yT].1.row.length<=d.row.length/\#[yT].1.changes.length<=d.changes.length+1:=by unfold Fq;rw[vk];exact(C3 (λx=>by unfold Vatrka.cutPiece;split<;>simp) _ _ _,xX.1)
def Kg{d:aU}{q k v:Nat}:#[q7].1.row.length<=d.row.length/\#[q7].1.changes.length<=d.changes.length+1/\ba #[q7].1=ba d:=by unfold FE ba;rw[vk];exact(C3 (λx=>by simp) _ _ _,xX.1,S8 (λx=>FS x) _ _ _)
def Ld{d:aU}(g:Good d){t:Trim}(h:AF d t):#[v4].row.length<=d.row.length+t.new.length/\#[v4].changes.length<=d.changes.length+2:=by
 rw[Iq g h];have a:#[mU].row.length<=d.row.length+t.new.length/\#[mU].changes.length<=d.changes.length+1:=by
  unfold tL;split
  ·simp
  ·have:=Pn (d:=d) (p:=t.at_) (signs:=t.new);simp_all
 unfold Ke;split
 ·lia
 ·have:=XH (d:=tL d t) (p:=t.at_+t.new.length) (q:=t.at_+t.new.length+t.gone);lia
#print Pe
#where
section
namespace Pe
open Vatrko (Text Item Fit Part Search Trim alike)
open Vatrka (Piece shown visible isSign count)
section
variable {x:Search}{q:Nat}{items:List Item}
def agL(n:q<=x.text.length)(s:Nat):c3 x q items s=[]\/∃m,s<=m.first/\pH x q items m.first=some m/\m.first<m.last/\m.last<=q/\c3 x q items s=m::c3 x q items m.last:=by
 by_cases h:∃p,s<=p/\#[jA].isSome=true
 ·let(p,o,hs):=21 h;have:∀(d:Nat) (p:Nat),p-s<=d->s<=p->#[jA].isSome=true->∃f,s<=f/\#[w8].isSome=true/\∀i,s<=i->i<f->pH x q items i=none:=by
   intro d
   induction d with
   |zero=>intro p r j k;exact(p,j,k,λi a b=>by lia)
   |succ d v=>
    intro p r j k;by_cases t:∃i,s<=i/\i<p/\#[w7].isSome=true
    ·let(i,a,b,c):=41 t;exact v i #[f] a c
    ·refine(p,j,k,λi a b=> ?_);cases e:pH x q items i with
     |none=>rfl
     |some y=>exact absurd #[p2] t
  let(f,r,j,k):=41 (this _ p #[gw] o hs);let(l,g):=1 (du.mp j);let(k1,k2,k3,u):=60 (nL n g);have w:l.first=f:=by rw[u]
  have z:l.last=nA x q items f:=by rw[u]
  exact .inr (l,by simp_all,by rw[w];exact g,by simp_all,by simp_all,S7 n _ s f l rfl r k g)
 ·left;refine NJ n _ s rfl λp o=> ?_;cases e:pH x q items p with
  |none=>rfl
  |some y=>exact absurd (p,o,by rw[e];rfl) h
abbrev widths(l:List bq):Nat:=(l.map λm=>m.last-m.first).sum
def XI(c:q<=x.text.length):∀(n s:Nat),q+1-s=n->#[oj].Pairwise (λa b=>a.last<=b.first)/\widths #[oj]<=q-s/\#[oj].length<=q-s:=by
 intro n
 induction n using zJ with
 |_ n d=>
  intro s hs;rcases agL (items:=items) c s with e|⟨m,h,i,j,k,e⟩
  ·rw[e];exact(iJ.nil,dR _,dR _)
  ·let(f,l,o):=40 (d (q+1-m.last) #[f] m.last rfl);rw[e];refine(mP.mpr (λb g=>(aev c _ m.last rfl b g).1,f),?_,?_)
   ·show #[dL]+widths _<=_
    lia
   ·rw[ak];lia
def XJ(a:q<=x.text.length):∀(r:List Item) (s:Nat),go x q r s=true->#[wl].Pairwise (·<=·)
 |[],s,h=>iJ.nil
 |it::r,s,h=>by rw[xU a]at h;rw[1916];rw[2073];rw[Mc,he];exact mP.mpr (λb d=>(acj a r e c b d).1,XJ a r e c)
def OG:∀(a:List Item) (b:List Nat),((a.zip b).map (·.2)).Sublist b
 |[],b=>by simp
 |_::_,[]=>by simp
 |y::a,z::b=>by simp;exact OG a b
def U2:∀{l:List (Nat×Nat)},(nM l).Pairwise (·<=·)->∀g∈l,g.1<=g.2
 |[],_,g,b=>by cases b
 |a::l,h,g,b=>by
  have h:#[oq].Pairwise (·<=·):=h
  rw[2084]
  ·exact(mP.mp h).1 _ bg
  ·exact U2 (mP.mp (mP.mp h).2).2 g b
def aky(b:q<=x.text.length)(a:ox false false 0 items=true){s:Nat}{m:bq}(h:pH x q items s=some m):∀g∈m.groups,g.1<=g.2/\g.2<=m.last:=by let(d,e,f,i,h5,j,c):=120 (Ka b a h);let(k1,_):=20 (nL b h);intro g a;refine(U2 ?_ g a,(c g a).2);rw[h5];unfold flat;refine iJ.sublist ?_ (XJ b items s k1);exact #[ss].trans (OG _ _)
#where
variable {s E:Nat}{XM:bB}
abbrev dG(sg:bB)(s e:Nat):bB:=(sg.take e).drop s
def wX{sg:bB}{e:Nat}(h:e<=sg.length):(dG sg s e).length=e-s:=by unfold dG;rw[bN,bE];simp_all
def AG(s:dN):#[lQ].text.length=cF s:=by show #[pV].length=ba s.doc-1;rw[Nt];unfold qw ba bT;rw[aD]
def acp(s:dN):ZD #[lQ].text=#[pm].dropLast:=by show #[pV].map _=_;unfold qw dw bT;rw[<-HX,fO,HX];rfl
def FW(s:dN){a b:Nat}(h:b<=cF s):CQ #[lQ] a b=dG #[pm] a b:=by unfold CQ dG;have:=acp s;unfold ZD at this ⊢;rw[mh,gW,this,LH,xM,eZ,jp (show b<=ba s.doc-1 from h)]
abbrev str(m:bq):Nat->Nat×Nat
 |0=>((m.first),m.last)
 |k+1=>#[qy].getD #[vN]
abbrev wY(sg:bB)(m:bq):hJ->bB
 | .sign c=>[c]
 | .group k=>dG sg #[dA].1 #[dA].2
abbrev S9(m:bq):hJ->Nat
 | .sign _=>1
 | .group k=>#[dA].2-#[dA].1
structure fc(L:Nat)(m:bq):Prop where
 lt:m.first<m.last
 le:m.last<=L
 gs:∀g∈m.groups,g.1<=g.2/\g.2<=m.last
def fc.str{L:Nat}{m:bq}(h:fc L m)(k:Nat):#[dA].1<=#[dA].2/\(Pe.str m k).2<=m.last:=by
 cases k with
 |zero=>exact(pE h.lt,be _)
 |succ k=>
  show #[dn].1<=#[dn].2/\#[dn].2<=_;cases e:m.groups[k]? with
  |none=>exact(be _,pE h.lt)
  |some g=>exact h.gs g (bO e)
def Ta(s:dN){m:bq}(h:fc #[uW] m)(a:List hJ):lW #[lQ] a m=a.flatMap (wY #[pm] m):=by
 unfold lW;congr 1;funext p;cases p with
 |sign c=>rfl
 |group k=>
  cases k with
  |zero=>exact FW s h.le
  |succ k=>
   show(match m.groups[k]? with|some g=>CQ #[lQ] g.1 g.2|none=>[])=dG _ #[dn].1 #[dn].2;cases e:m.groups[k]? with
   |none=>show[]=dG #[pm] m.first m.first;unfold dG;rw[vG];rw[bE];lia
   |some g=>have:=h.gs g (bO e);have:=h.le;exact FW s #[f]
def ZT{sg:bB}{m:bq}(h:fc E m)(e:sg.take E=XM.take E)(a:List hJ):a.flatMap (wY sg m)=a.flatMap (wY XM m):=by
 congr 1;funext p;cases p with
 |sign c=>rfl
 |group k=>
  have b:=(h.str k).2;have d:=h.le;have:∀l:bB,dG (l.take E) #[dA].1 #[dA].2=dG l #[dA].1 #[dA].2:=λl=>by unfold dG;rw[xM,jp #[ah]]
  show dG sg _ _=dG XM _ _;rw[2070]
def Vz{sg:bB}{b:Nat}(a:b<=E)(e:sg.take E=XM.take E):dG sg s b=dG XM s b:=by
 have:∀l:bB,dG (l.take E) s b=dG l s b:=λl=>by unfold dG;rw[xM,jp #[bJ]]
 rw[2070]
def wZ{sg:bB}{E:Nat}{m:bq}(h:fc E m)(b:E<=sg.length):∀a:List hJ,(a.flatMap (wY sg m)).length=(a.map (S9 m)).sum
 |[]=>rfl
 |p::l=>by
  rw[qj,aM,wZ h b l,cB,Jc];congr 1;cases p with
  |sign c=>rfl
  |group k=>have:=(h.str k).2;have:=h.le;exact wX #[f]
abbrev sA(l:List hJ):Prop:=∀p∈l,∀c,p= .sign c->tI (c:Int)=true
def Po{d:aU}(g:Good d):∀c∈dw d,tI (c:Int)=true:=λc a=>by let(y,b,rfl):=21 #[v3];exact(g.all y (cT.mp b).1).sgn
def Pp{sg:bB}{m:bq}{a:List hJ}(e:sA a)(hs:∀c∈sg,tI (c:Int)=true):∀c∈a.flatMap (wY sg m),tI (c:Int)=true:=λc f=>by
 let(p,g,b):=21 (JJ.mp f);cases p with
 |sign d=>rw[bh.mp b];exact e _ g _ rfl
 |group k=>exact hs c (kq (xK b))
structure Kh(d0:aU)(E:Nat)(d:aU):Prop where
 good:Good d
 room:E+1<=ba d
 same:#[v0].take E=(dw d0).take E
def Kh.step{d0 d:aU}(h:Kh d0 E d){m:bq}(hm:fc E m){new:bB}(a:∀c∈new,tI (c:Int)=true):AF d #[cQ]/\Kh d0 m.first (cU d #[cQ]):=by
 have j:=hm.lt;have k:=hm.le;have l:=h.room;have n:E<=(dw d0).length:=by
  have:=dA pR h.same;rw[bE,bE,eZ]at this
  lia
 have b:=Kd (dG (dw d0) m.first m.last) new m.first;rw[wX (sg:=dw d0) (s:=m.first) (e:=m.last) #[ah]]at b;have ok:AF d #[cQ]:=(by lia,λc f=>a c (XG f));let(g,i):=20 (Lc h.good ok);have o:=Ji h.good ok;refine(ok,g,by lia,?_);rw[i,fz,List.take_append_of_le_length (by rw[bE,eZ];lia),xM,jp #[j]];have:=dA (List.take m.first) h.same;rw[xM,xM,jp #[f]]at this;rw[1928]
def AH(l:List Nat):dY l=l.sum:=by unfold dY;rw[List.sum_eq_foldl]
def XN(l:List Nat)(a:Nat):dY (l++[a])=dY l+a:=by unfold dY;rw[HY];rfl
#print Pe
#where
section
namespace Pe
open Vatrka (Piece Pending)
def Jj{j:Type}{c:j->Nat}:∀{f d:List j},f.Perm d->f.Pairwise (λa b=>c a<=c b)->d.Pairwise (λa b=>c a<c b)->f=d
 |[],d,h,_,_=>(N1.nil_eq h)
 |x::s,[],h,_,_=>absurd h.length_eq #[p]
 |x::s,y::t,h,k,l=>by
  let(m,n):=20 (mP.mp k);let(o,p):=20 (mP.mp l);have g:x∈y::t:=h.mem_iff.mp bg;have i:y∈x::s:=h.mem_iff.mpr bg;have e:x=y:=by
   rcases b7.mp g with e|g
   ·exact e
   ·have q:=o x g;rcases b7.mp i with e|i
    ·exact e.symm
    ·have r:=m y i;lia
  rw[2046];rw[Jj ((List.perm_cons x).mp h) n p]
def filter_or{d:Type}{p q:d->Bool}:∀(l:List d),(∀a∈l,¬(p a=true/\q a=true))->(l.filter p++l.filter q).Perm (l.filter λa=>p a||q a)
 |[],_=>N1.nil
 |a::l,h=>by
  have c:=filter_or l λb f=>h b (a9 _ f);rw[cC,cC,cC];cases g:p a with
  |true=>
   have e:q a=false:=by
    cases z:q a with
    |false=>rfl
    |true=>exact absurd (g,z) (h a bg)
   rw[e];simp;exact c
  |false=>
   cases e:q a with
   |true=>simp;exact UE.trans (c.cons a)
   |false=>simpa using c
def U3(pend:List lX):∀(b:List Nat),b.Nodup->(b.flatMap λk=>pend.filter λy=>y.prop==k).Perm (pend.filter λy=>decide (y.prop∈b))
 |[],_=>by
  have:(pend.filter λy=>decide (y.prop∈#[Dw,Nat]))=[]:=by rw[qO];simp
  rw[1924];exact N1.nil
 |k::b,h=>by
  let(c,d):=20 #[vZ];rw[qj];refine((U3 pend b d).append_left _).trans ((filter_or pend λa _ z=> ?_).trans ?_)
  ·have f:=beq_iff_eq.mp z.1;have z2:=eo z.2;rw[f]at z2;exact c z2
  ·have:(pend.filter λa=>(a.prop==k||decide (a.prop∈b)))=pend.filter λy=>decide (y.prop∈k::b):=by apply fA;intro y _;by_cases e:y.prop=k<;>simp[e]
   rw[1924]
def agM{pend:List lX}{a:List Nat}(b:a.Nodup)(hr:∀k,k∉a->pend.filter (λy=>y.prop==k)=[]):(a.flatMap λk=>pend.filter λy=>y.prop==k).Perm pend:=by
 have h:=U3 pend a b;have e:(pend.filter λy=>decide (y.prop∈a))=pend:=by
  rw[jy];intro y c;by_cases z:y.prop∈a
  ·exact aT z
  ·have:=hr y.prop z;rw[qO]at this;exact absurd (beq_iff_eq.mpr rfl) (this y c)
 rwa [e]at h
#print Pe
#where
section
namespace Pe
open Vatrko (Text Item Fit Part Search)
abbrev bits(f:Nat->Bool):Nat->Nat
 |0=>0
 |n+1=>bits f n|||(if f n=true then 2^n else 0)
def p6(f:Nat->Bool):∀(n p:Nat),(bits f n).testBit p=(decide (p<n)&&f p)
 |0,p=>by unfold bits;rw[jw];simp
 |n+1,p=>by
  unfold bits;rw[rY,p6 f n p];by_cases h:p=n
  ·subst h;rw[aV (l9 p),aT (yn p)];cases hf:f p with
   |true=>rw[aq rfl,yY,aT rfl];rfl
   |false=>rw[am #[c],jw];rfl
  ·have a:(if f n=true then 2^n else 0).testBit p=false:=by
    split
    ·rw[yY,aV λz=>h z.symm]
    ·exact jw p
   rw[a,zj];have:decide (p<n)=decide (p<n+1):=decide_eq_decide.mpr #[f];rw[1924]
def FX{b n:Nat}{f:Nat->Bool}(h:∀p,b.testBit p=(decide (p<n)&&f p)):b=bits f n:=xH λp=>by rw[h,p6]
def ai3(f:Nat->Bool)(n:Nat):bits f n<2^n:=Nat.lt_pow_two_of_testBit _ λi a=>by rw[p6,aV #[j]];rfl
def OH(c:Nat):fb (fb c)=c:=by
 unfold fb;by_cases b:jq c=true
 ·rw[aq b];have:65<=c/\c<=90:=by unfold jq at b;simp at b;exact b
  have a:¬jq (c+32)=true:=by unfold jq;simp;lia
  have d:mi (c+32)=true:=by unfold mi;simp;omega
  rw[am a,aq d];rfl
 ·rw[am b];by_cases a:mi c=true
  ·rw[aq a];have:97<=c/\c<=122:=by unfold mi at a;simp at a;exact a
   have d:jq (c-32)=true:=by unfold jq;simp;lia
   rw[aq d];lia
  ·rw[am a,am b,am a]
def aey{c:Nat}(h:c<65):fb c=c:=by
 unfold fb;have a:¬jq c=true:=by unfold jq;simp;lia
 have b:¬mi c=true:=by unfold mi;simp;lia
 rw[am a,am b]
abbrev NK:Fit->Prop
 | .sign c=>c<=126
 | .any=>True
 | .set _ l=>∀x∈l,32<=x.1/\x.1<=126/\x.2<=126
abbrev FY:Item->Prop
 | .unit f lo a _=>NK f/\lo<=99/\a<=99
 |_=>True
abbrev listed(a:Bool)(l:List #[aw])(c:Nat):Bool:=pV l c||(a&&pV l (fb c))
abbrev Ki:Fit->Bool×List #[aw]
 | .sign c=>#[yo]
 | .any=>((true),[])
 | .set d l=>((d),l)
def ZU{g:Bool}{f:Fit}(j:NK f)(c:Nat):qY g f c=if(Ki f).1=true then !(listed g (Ki f).2 c||decide (c=10))else listed g (Ki f).2 c:=by
 have i:∀a b:Nat,(a==b)=decide (a=b):=λa b=>by rw[dr];simp
 cases f with
 |sign d=>
  show(c==d||(g&&fb c==d))=listed g [((d),d)] c;unfold listed pV;have e:∀a,([((d),d)].any λx=>decide (x.1<=a)&&decide (a<=x.2))=(a==d):=λa=>by rw[nI,List.any_nil,zj,dr];simp;lia
  rw[e,e]
 |any=>show(!(c==10))= !(listed g [] c||decide (c=10));rw[i];unfold listed pV;cases g<;>simp
 |set d l=>
  have low:c=10->listed g l c=false:=λh=>by
   subst h;have k:pV l 10=false:=by unfold pV;rw[BB];intro x m;have:=j x m;simp;lia
   unfold listed;rw[aey #[c],k];cases g<;>rfl
  show(!(c==10)&&(d !=listed g l c))=if d=true then !(listed g l c||decide (c=10))else listed g l c
  rw[i];by_cases h:c=10
  ·rw[low h,aT h];cases d<;>rfl
  ·rw[aV h];cases d<;>cases listed g l c<;>rfl
#print Pe
#where
section
namespace Pe
variable {p:Nat->Bool}{hi:Nat}{sp:Bool}
def ai4(lo m:Nat):(cw (m+1-lo)).map (λk=>lo+k)=#[yt].filter λk=>decide #[qz]:=by
 induction m with
 |zero=>
  cases lo with
  |zero=>rfl
  |succ lo=>rw[show 0+1-(lo+1)=0 by lia];simp
 |succ m a=>
  rw[sL (n:=m+1),eV,<-a];by_cases h:lo<=m+1
  ·rw[show m+1+1-lo=(m+1-lo)+1 by lia,sL,bb];have:[m+1].filter (λk=>decide #[qz])=[m+1]:=by rw[cC,aq (aT h)];rfl
   rw[1924];have:lo+(m+1-lo)=m+1:=by simp_all
   simp[this]
  ·have:[m+1].filter (λk=>decide #[qz])=[]:=by rw[cC,am (by rw[aV h];decide)];rfl
   rw[this,ah,show m+1+1-lo=m+1-lo by omega]
def Tb{a b:List Nat}(h:∀k∈b,p k=false):(a++b).find? p=a.find? p:=by
 rw[HV];have:b.find? p=none:=Qx.mpr λk c=>by rw[h k c];decide
 rw[1924];cases a.find? p<;>rfl
def Rb{a b:List Nat}(h:∀k∈b,p k=false):(b++a).find? p=a.find? p:=by
 rw[HV];have:b.find? p=none:=Qx.mpr λk c=>by rw[h k c];decide
 rw[1924];rfl
def ZV{m:Nat}(h:m<=hi):cw (hi+1)=cw (m+1)++(cw (hi-m)).map (λk=>m+1+k):=by have:=List.range_add (n:=m+1) (m:=hi-m);rw[show m+1+(hi-m)=hi+1 by lia]at this;exact this
def ZW{lo m:Nat}(h:m<=hi)(c:∀k,m<k->k<=hi->p k=false):#[aA].find? p=#[v1].find? p:=by
 unfold counts;rw[1897];rw[ZV h,eV];have b:∀k∈((cw (hi-m)).map (λk=>m+1+k)).filter (λk=>decide #[qz]),p k=false:=λk a=>by let(a,_):=20 #[po];let(j,d,rfl):=21 #[v3];rw[uO]at d;exact c _ #[f] #[f]
 cases sp with
 |true=>rw[aq rfl,aq rfl,Tb b]
 |false=>rw[am #[c],am #[c],List.reverse_append];rw[Rb λk a=>b k (uT.mp a)]
def Rc{lo m k:Nat}(h:k∈counts lo m sp):lo<=k/\k<=m:=by
 unfold counts at h;rw[1913];have:k∈#[yt].filter λk=>decide #[qz]:=by
  split at h
  ·exact h
  ·exact uT.mp h
 let(a,b):=20 (cT.mp this);rw[uO]at a;have:=eo b
 lia
def Mj(lo m:Nat)(sp:Bool):#[aA].Nodup:=by
 unfold counts;rw[1897];have:#[da].Nodup:=iJ.sublist ii List.nodup_range;split
 ·rw[1928]
 ·exact LI.mpr (this.imp λh=>h.symm)
def akz{fit F:Nat->Bool}{m:Nat}(h:∀s,R fit F m s=false):∀k s,m<k->R fit F k s=false:=λk s c=>by
 cases e:R fit F k s with
 |false=>rfl
 |true=>let(a,b):=20 ((Q8 k s).mp e);have:R fit F m (s+(k-m))=true:=(Q8 m _).mpr (λj d=>by rw[show s+(k-m)+j=s+(k-m+j) by lia];exact a _ #[f],by rw[show s+(k-m)+m=s+k by lia];exact b);rw[h]at this;rw[1908]
abbrev jj(fit a:Nat):Nat->Nat
 |0=>a
 |j+1=>fit&&&#[xi]
def Pq(fit a:Nat):∀(j s:Nat),(jj fit a j).testBit s=R (λp=>fit.testBit p) (λp=>a.testBit p) j s
 |0,s=>rfl
 |j+1,s=>by show(fit&&&#[xi]).testBit s=_;rw[oF,Fy,Pq fit a j,K3 1 s];rfl
#print Pe
#where
section
namespace Pe
open Vatrko (Text Item Fit Part)
open Vatrka (isSign)
variable {c:Nat}{l:List Item}
abbrev qD(t:bB):Prop:=∀c∈t,32<=c/\c<=126
def qD.tail{t:bB}(h:qD (c::t)):qD t:=λd hd=>h d (a9 _ hd)
def qD.head{t:bB}(h:qD (c::t)):32<=c/\c<=126:=h c bg
def Re{t:bB}{x:Nat×bB}(h:eO t=some x)(a:qD t):(32<=x.1/\x.1<=126)/\qD x.2:=by
 unfold eO at h;split at h
 ·rw[1914]
 ·split at h
  ·rw[1914];exact(a.tail.head,a.tail.tail)
  ·rw[1914]
 ·split at h
  ·rw[1914]
  ·rw[1914];exact(a.head,a.tail)
abbrev WH(l:List #[aw]):Prop:=∀y∈l,32<=y.1/\y.1<=126/\y.2<=126
def WH.cons{y:Nat×Nat}{l:List #[aw]}(h:32<=y.1/\y.1<=126/\y.2<=126)(r:WH l):WH (y::l):=λz hz=>by
 rcases b7.mp hz with rfl|hz
 ·exact h
 ·exact r z hz
def Kj:∀(n:Nat) {t:bB} {x:List (Nat×Nat)×bB},jo n t=some x->qD t->WH x.1/\qD x.2
 |0,t,x,h,_=>by cases h
 |n+1,t,x,h,a=>by
  unfold jo at h;split at h
  ·rw[1914];exact⟨(λy c=>by cases c),a.tail⟩
  ·rw[2071];let(b,d):=20 (Re f a);split at h
   ·rename_i r hr;let(y,c,h):=21 #[jW];rw[hr]at d;let(g,i):=20 (Re c d.tail);split at h
    ·rw[2041];let(e,z2):=20 (Kj n hz i);exact(e.cons (b.1,b.2,g.2),z2)
    ·rw[1914]
   ·rw[2041];let(e,z2):=20 (Kj n hz d);exact(e.cons (b.1,b.2,b.2),z2)
def Rf{d:Bool}{t:bB}{x:Fit×bB}(h:rX d t=some x)(a:qD t):NK x.1/\qD x.2:=by
 unfold rX at h;let(u,b,h):=21 #[jW];let(c,e):=20 (Kj _ b a);split at h
 ·rw[1914]
 ·rw[1914];exact(c,e)
def ZX{t:bB}{x:Fit×bB}(h:iy t=some x)(a:qD t):NK x.1/\qD x.2:=by
 cases t with
 |nil=>cases h
 |cons c r=>
  simp only[iy]at h;split at h
  ·cases r with
   |nil=>cases h
   |cons d s=>cases h;refine(?_,a.tail.tail);show(if d=110 then 10 else d)<=126;have:=a.tail.head;split<;>simp_all
  ·split at h
   ·rw[1914];exact(trivial,a.tail)
   ·split at h
    ·split at h
     ·exact Rf h a.tail.tail
     ·exact Rf h a.tail
    ·split at h
     ·rw[1914]
     ·rw[1914];exact(a.head.2,a.tail)
def Le{t:bB}{x:Nat×bB}(h:gL t=some x)(a:qD t):x.1<=99/\qD x.2:=by
 unfold gL at h;split at h
 ·rename_i c d r;split at h
  ·rename_i b;unfold d7 at b;simp at b;split at h
   ·rename_i e;unfold d7 at e;simp at e;rw[1914];exact(by show 10*(c-48)+(d-48)<=99;omega,a.tail.tail)
   ·rw[1914];exact(by show c-48<=99;omega,a.tail)
  ·rw[1914]
 ·rw[1914]
def XO{t:bB}{x:Nat×Nat×Bool×bB}(h:fy t=some x)(a:qD t):x.1<=99/\x.2.1<=99/\qD x.2.2.2:=by
 unfold fy at h;split at h
 ·rw[2071];let(c,d):=20 (Le f a.tail);split at h
  ·rename_i s hs;rw[hs]at d;let(y,g,h):=21 #[jW];let(e,b):=20 (Le g d.tail);split at h
   ·rename_i v i;rw[i]at b;split at h
    ·split at h
     ·rw[1914];exact(c,e,b.tail.tail)
     ·rw[1914];exact(c,e,b.tail)
    ·rw[1914]
   ·rw[1914]
  ·rw[1914]
 ·rw[1914];exact⟨(by decide:1<=99),(by decide:99<=99),a.tail.tail⟩
 ·rw[1914];exact⟨(by decide:1<=99),(by decide:99<=99),a.tail⟩
 ·rw[1914];exact⟨(by decide:1<=99),(by decide:1<=99),a⟩
def FA{it:Item}(h:FY it)(r:∀x∈l,FY x):∀x∈it::l,FY x:=λx a=>by
 rw[1929]
 ·exact h
 ·exact r x a
def rB:∀(n:Nat) {g f:Bool} {k:Nat} {t:bB} {l:List Item},uP n g f k t=some l->qD t->∀it∈l,FY it
 |n,g,f,k,[],l,h,_=>by
  unfold uP at h;split at h
  ·rw[1914]
  ·rw[1914];intro it e;rw[2048]
 |0,g,f,k,c::r,l,h,_=>by cases h
 |n+1,g,f,k,c::r,l,h,a=>by
  unfold uP at h;split at h
  ·rw[1903];rw[1941]
  ·split at h
   ·rw[1903];rw[1941]
   ·split at h
    ·split at h
     ·rw[1914]
     ·rw[1903];rw[1941]
    ·split at h
     ·split at h
      ·rw[1903];rw[1941]
      ·rw[1914]
     ·split at h
      ·rw[1903];exact FA (trivial,by decide,by decide) #[hK]
      ·let(x,i,h):=21 #[jW];let(y,j,h):=21 #[jW];rw[1903];let(m,o):=20 (ZX i a);let(p,q,s):=40 (XO j o);exact FA (m,p,q) (rB n b s)
def abv{t:bB}(h:t.all qX=true):qD t:=λc a=>by have:=dH.mp h c a;unfold qX at this;simp at this;omega
structure C4(l:List Item):Prop where
 ik:∀it∈l,FY it
 gk:ox false false 0 l=true
 Af:l.length<=40
def XP{t:bB}(h:yp t=some l):C4 l:=by
 have h0:=h;rw[FM]at h0;unfold yp at h;split at h
 ·rw[1914]
 ·rename_i b;rw[am b]at h0;simp at b;have a:qD t:=abv (by rw[dH];exact λc f=>b.2.2 c f);let(i,d,h):=21 #[jW];let(j,g,h0):=21 (fB.mp h0);split at h
  ·rw[1914];split at h0
   ·rename_i e;cases h0;exact(rB _ d a,e.1,e.2)
   ·cases h0
  ·rw[1914]
def aez(h:32<=c/\c<=126):tI (c:Int)=true:=by unfold tI;simp;lia
def agN{t:bB}{x:hJ×bB}(h:vh t=some x)(a:qD t):(∀c,x.1= .sign c->tI (c:Int)=true)/\qD x.2:=by
 unfold vh at h;split at h
 ·rw[1914]
 ·split at h
  ·split at h
   ·rw[1914]
   ·split at h;·cases h;exact(λc e=>(by cases e),a.tail.tail)
    split at h;·cases h;rw[1989]
    split at h;·cases h;rw[1989]
    rw[1914]
  ·rw[1914];exact(λc e=>(by cases e;exact aez a.head),a.tail)
def Ml:∀(n:Nat) (t:bB) {l:List hJ},t.length<=n->c5 t=some l->qD t->sA l/\l.length<=t.length
 |n,[],l,_,h,_=>by cases h;exact(λp b=>(by cases b),be _)
 |0,c::r,l,f,h,a=>by simp at f
 |n+1,c::r,l,f,h,a=>by
  rw[Jh #[p]]at h;let(x,g,h):=21 #[jW];let(o,i,rfl):=21 #[iO];let(j,k):=20 (agN g a);have q:=Xw g;let(m,s):=20 (Ml n x.2 #[f] i k);refine(λp b d e=> ?_,by rw[ak];lia);rw[2084]
  ·exact j d e
  ·exact m p b d e
def Pr{t:bB}{l:List hJ}(h:tG t=some l):sA l/\l.length<=200:=by
 unfold tG at h;split at h
 ·rw[1914]
 ·rename_i b;simp at b;have a:qD t:=abv (by rw[dH];exact λc d=>b.2 c d);let(e,f):=20 (Ml _ t #[gw] h a);exact(e,by lia)
#print Pe
#where
section
namespace L2
open PySem PySem.Spec PyProof.Rows
variable {α:Type}{C:ae}{X:Cx}{pins:List (ae×Obj)}{σ:St}{H:Hp}{s:aL}
abbrev u0(P:cj)(w:cY):Hl:=λouter H s E e s'=>
 ∃(a:ae) (cls c:ax) (H':Hp) (B:cZ),e= .ref a/\s'.os=s.os/\AllBare s'.gens/\Heap.FlyingW B outer a cls c s'.heap/\Un (pX outer) [] H H' s.heap s'.heap/\(∀b o,s.heap.get? b=some o->H b=none->b∉pX outer->B.get? b=some o)/\(∀b o,s.heap.get? b=some o->b∉pX outer->∃d,B.get? b=some d)/\ow P w H' B/\E cls none H'
structure XOk(X:Cx)(E:XK):Prop where
 pass:Passes (u0 X.prog X.w) X E
 own:PassesOwn #[g] X.A X.env X.xe
structure XMk(X:Cx)(E:XK):Prop where
 made:∀(pins:List (ae×Obj)) (σ:St) (H:Hp) (s:aL) (h':cZ) (e C:ae) (vs:List ax),Inv X pins σ H s->Heap.MadeExcOf s.heap h' e #[dz] vs->E #[dz] none H->X.xe #[wC] {s with heap:=h'}
 hd:X.A.handled=none
def agO{env:Env}{outer:List Env}{L b:ae}(a:env.frame=some L):b∈pX (env::outer)↔b=L\/b∈pX outer:=by unfold pX;rw[yW,a];exact b7
section
variable {P:cj}{w:cY}{K:aA}{mg:Str->Option ax}{base:cZ}{N:List Str}{qual:Str}{scope:lS}{f:ae}{cd:ax}{A:dE}{outer:List Env}{pW:aL}{LK:Hp}{E:XK}
def akA{X:Cx}{pins:List #[H]}{σ:St}{H:Hp}{s:aL}(I:Inv X pins σ H s):ow X.prog X.w H (Eo s.heap #[oE]):=λa o e=>
 (I.cQ a o e).yz (λb u c q=>EH _ q λm=>by
  have z:=I.SM b m;rcases c with rfl|c
  ·rw[e]at z;cases z
  ·rw[c]at z;cases z) (λ_ q=>q) λ_ _ q=>q
def aeA(Q:(A.deeper (envOfC qual scope pW.heap.objs.size f cd)).handled=none):XOk #[eS] E/\XMk #[eS] E:=by
 have g:∀{b:ae} {o:Obj},pW.heap.get? b=some o->b≠pW.heap.objs.size:=λe=>gj #[a7];have mem:∀{b:ae},b∈pX #[ad]↔b=pW.heap.objs.size\/b∈pX outer:=agO rfl;refine((λpins R H s e s' I h=> ?_,PassesOwn.leaving),(λpins R H s h' e C vs I M he=> ?_,Q))
 rotate_left
 ·have y:∀env∈(envOfC qual scope pW.heap.objs.size f cd::outer),∀b,env.frame=some b->b∈pX #[ad]:=λenv he b c=>GJ.mpr (env,he,c);refine wpAny_leaves_madeW (s:={s with heap:=h'}) (base:=Eo s.heap (pX #[ad])) I.ok.frames rfl (λb o q=>Qs _ q) (PySem.W.funFrames_hide I.stack y) M λp t v _ _ D=> ?_;have i:∀{b:ae} {o:Obj},s.heap.get? b=some o->b≠pW.heap.objs.size->b∉pX outer->(Eo s.heap (pX #[ad])).get? b=some o:=λq S T=>EH _ q λm=>#[sY].elim S T;have slot:∀{b:ae} {o:Obj},s.heap.get? b=some o->b∈pX outer->∃sl,p.get? b=some {o with slots:=sl}:=λ{b o} q m=>by
   (let(_,k):=20 (I.stack.mem #[uK]);let(j,d,F):=21 k)
   rw[q]at d;cases d;exact D b o (M.keeps b o q) F
  refine(e,.ref C,.ref t,H,_,rfl,I.os,I.bare,v,(λb o q n c _=> ?_,λb o q n c _=> ?_,λb o q n _=>I.base.free b o q n #[b],λb o q _=> ?_,I.base.zL,I.base.zM,I.base.B4),λb o q n c=> ?_,λb o q c=> ?_,akA I,he)
  ·exact v.1 b o (i #[gA] (g q) c)
  ·rw[2086];let(x,l):=1 (slot d c);exact(x,l)
  ·rw[1917];by_cases c:b∈pX outer
   ·let(sl,l):=1 (slot d c);exact(_,l)
   ·exact(j,v.1 b j (i d (g q) c))
  ·exact i #[gA] (g q) c
  ·rw[1917];exact(j,i d (g q) c)
 ·(let(a,cls,U,H',B,k):=5 h;let(rfl,os,bare,v,un,kp,O,cQ,he):=160 k)
  refine wpAny_leaves_onW I.ok.frames rfl v λp r D=> ?_;have i:∀{b:ae} {o:Obj},pW.heap.get? b=some o->LK b=none->b∉pX outer->B.get? b=some o:=λ{b o} q n c=>
   kp b o #[gA] #[hr] λm=>#[sY].elim (g q) c
  have slot:∀{b:ae} {o:Obj},s'.heap.get? b=some o->b∈pX outer->∃sl,p.get? b=some {o with slots:=sl}:=λ{b o} q m=>by
   (let(_,k):=20 (v.2.2.1.mem #[uK]);let(j,d,F):=21 k)
   rw[q]at d;cases d;exact D b o q F
  refine(a,cls,U,H',B,rfl,os.trans I.os,bare,r,(λb o q n c _=>r.1 b o (i q n c),λb o q n c _=> ?_,λb o q n _=> ?_,λb o q _=> ?_,λb xs q=>un.zL b xs (I.base.zL b xs q),λb o u q=>un.zM b o u (I.base.zM b o u q),λb ps q=> ?_),λb o q n c=>i q n c,λb o q c=> ?_,cQ,he)
  ·rw[2086];let(x,l):=1 (un.slot b _ d #[hr] (mem.mpr (.inr c)) #[b]);let(G,J):=1 (slot l c);exact(G,J)
  ·rw[1917];exact un.free b j d #[hr] #[b]
  ·rw[1917];by_cases c:b∈pX outer
   ·let(L,l):=1 (un.there b j d #[b]);let(sl,J):=1 (slot l c);exact(_,J)
   ·let(L,l):=1 (O b j d λm=>#[sY].elim (g q) c);exact(L,r.1 b L l)
  ·let(V,X):=1 (I.base.B4 b ps q);let(Y,Z):=1 (un.B4 b _ X);exact(V++Y,by rw[Z,Qt])
  ·rw[1917];exact O b j d λm=>#[sY].elim (g q) c
#where
def OD.okE{P:cj}{w:cY}{K:aA}{mg:Str->Option ax}{base:cZ}{x a:Str}{st:bu}{f:ae}{g:jF}{N ps:List Str}{k:Nat}{sp:Sp}(F:OD K x a st f g)(S:aY N ps #[sl])(len:∀vs H Q E,sp vs H Q E->vs.length=ps.length) (b:∀(gn:ax) (A:dE) (outer:List Env) (s:aL) (H:Hp) (vs:List V) (Q:VK) (E:XK),XOk #[bu] E->XMk #[bu] E->jA k #[gB]->sp vs H Q E->∃t,BS #[bu] #[vz] t/\t {nx:=λ_ H'=>Q .cG H',rt:=Q} #[fV] H):ff P w K mg base #[f4] (k+1) f g ps sp:=by
 (let(i,j,kV,doc,l,m,gn,ct,h,c):=9 (F.ex);let(rfl,lk,d):=40 c)
 exact ah1 lk d S len λA outer s H vs Q E hr e=>b gn A outer s H vs Q E (aeA hr.hd).1 (aeA hr.hd).2 hr e
abbrev vbm:List ax:=[.type "ValueError",.type "Exception",.type "BaseException",.type "object"]
abbrev agP(es:Array jz):Bool:=es.all λe=>match e.key with| .str _ _=>true|_=>false
abbrev ah7(d:Data)(k:ClassData->Bool):Bool:=match d with
 | .cls cd=>k cd
 |_=>false
def agQ{d:Data}{k:ClassData->Bool}(q:ah7 d k=true):∃a,d= .cls a/\k a=true:=by cases d<;>first|exact⟨_,rfl,q⟩|cases q
abbrev aeB(d:Data)(k:Array jz->Bool):Bool:=match d with
 | .dict es _=>k es
 |_=>false
def aeC{d:Data}{k:Array jz->Bool}(q:aeB d k=true):∃es a,d= .dict es a/\k es=true:=by cases d<;>first|exact⟨_,_,rfl,q⟩|cases q
abbrev akC(v:ax)(k:String->Bool):Bool:=match v with
 | .builtin n=>k n
 |_=>false
def ai5{v:ax}{k:String->Bool}(q:akC v k=true):∃n,v= .builtin n/\k n=true:=by cases v<;>first|exact⟨_,rfl,q⟩|cases q
abbrev Rg{α:Type}(o:Option α)(k:α->Bool):Bool:=o.elim false k
def Mm{o:Option α}{k:α->Bool}(q:Rg o k=true):∃a,o=some a/\k a=true:=by cases o<;>first|exact⟨_,rfl,q⟩|cases q
def Pt{a b:Bool}(q:(a&&b)=true):a=true/\b=true:=(bK _ _).mp q
abbrev agR(K:aA)(C:ae)(b:List ax)(x y:Str)(c:String->Bool):Bool:=Rg (K.lookup C) λo=>decide (o.cls= .type "type")&&(decide (o.slots.size=6)&&ah7 o.data λa=>Rg (o.slots.getD 4 none) λv=>akC v λn=>c n&&(decide (a.mro= .ref C::b)&&(!a.hasDel&&Rg (K.lookup a.ns) λo=>aeB o.data λes=>agP es&&((nsFind es x).isNone&&(nsFind es y).isNone))))
def ah8{o:Option α}(q:o.isNone=true):o=none:=by cases o<;>first|rfl|cases q
def six{l:List #[iR]}{v:Option ax}(h:l.length=6)(e:l.getD 4 none=v):∃k0 k1 k2 k3 k5,l=[k0,k1,k2,k3,v,k5]:=by
 obtain _|⟨k0,l⟩:=l
 ·rw[1914]
 obtain _|⟨k1,l⟩:=l
 ·rw[1914]
 obtain _|⟨k2,l⟩:=l
 ·rw[1914]
 obtain _|⟨k3,l⟩:=l
 ·rw[1914]
 obtain _|⟨a,l⟩:=l
 ·rw[1914]
 obtain _|⟨k5,l⟩:=l
 ·rw[1914]
 obtain _|⟨b,l⟩:=l
 ·exact(k0,k1,k2,k3,k5,by cases e;rfl)
 ·rw[1914]
def aot{o:Obj}{a:ClassData}{b:List ax}{k0 k1 k2 k3 k5:Option ax}{n:String}(c:o.cls= .type "type")(d:o.data= .cls a)(e:o.slots=⟨[k0,k1,k2,k3,some (.builtin n),k5]⟩)(f:a.mro= .ref C::b)(h5:a.hasDel=false):o=excClassObj a.name a.qualname C a.ns a.bases b a.hasDict a.slotNames a.subclasses a.abstract a.collection o.dict k0 k1 k2 k3 k5 n:=by obtain⟨i,dd,j,sl⟩:=o;obtain⟨k,l,m,p,q,r,s,t,u,g,h⟩:=a;cases c;cases d;cases e;cases f;cases h5;rfl
def abw{K:aA}{b:List ax}{x y:Str}{f:String->Bool}(q:agR K C b x y f=true){h:cZ}(X:K.In h):∃nm j N bs hdct sn sub ab col dd k0 k1 k2 k3 k5 n mN,h.get? C=some (excClassObj nm j C N bs b hdct sn sub ab col dd k0 k1 k2 k3 k5 n)/\f n=true/\h.Ns N mN/\mN x=none/\mN y=none:=by let(o,k,q):=21 (Mm q);let(m,q):=20 (Pt q);let(p,q):=20 (Pt q);let(r,a,q):=21 (agQ q);let(v,s,q):=21 (Mm q);let(n,t,q):=21 (ai5 q);let(u,q):=20 (Pt q);let(w,q):=20 (Pt q);let(g,q):=20 (Pt q);let(D,c,q):=21 (Mm q);let(es,A,d,q):=22 (aeC q);let(B,q):=20 (Pt q);have i:=Pt q;let(k0,k1,k2,k3,k5,e):=5 (six (v:=some (.builtin n)) (l:=o.slots.toList) (eo p) (by rw[<-t,<-s];simp));refine(_,_,_,_,_,_,_,_,_,_,k0,k1,k2,k3,k5,n,nsFind es,(X _ _ k).trans (dA some (aot (eo m) a (Array.toList_inj.mp e) (eo w) (by cases z:r.hasDel<;>first|rfl|(rw[z]at g;cases g)))),u,(_,es,A,X _ _ c,d,?_,λ_=>rfl),ah8 i.1,ah8 i.2);intro e he;have z:=Array.all_eq_true'.mp B e he;revert z;cases e.key<;>intro z<;>first|exact⟨_,_,rfl⟩|cases z
abbrev acq(K:aA)(C:ae):Bool:=agR K C vbm "__init__" "__init__" (·=="ValueError.__new__")
abbrev XQ(K:aA)(C:ae):Prop:=∀h:cZ,K.In h->∃nm a N bs hdct sn sub ab col dd k0 k1 k2 k3 k5 mN,h.get? C=some (excClassObj nm a C N bs vbm hdct sn sub ab col dd k0 k1 k2 k3 k5 "ValueError.__new__")/\h.Ns N mN/\mN "__init__"=none
def abx{K:aA}(q:acq K C=true):XQ K C:=by
 intro h X
 (let(c,f,g,i,j,k,l,o,a):=8 (abw q X);let(p,d,k0,k1,k2,k3,k5,n,m,b):=9 a;let(e,w,y,z,_):=80 b)
 have w:n="ValueError.__new__":=eq_of_beq w;subst w;exact(c,f,g,i,j,k,l,o,p,d,k0,k1,k2,k3,k5,m,e,y,z)
abbrev aeD(C:ae)(E:XK)(t:TA):TS:=λ_ σ H=>t σ H λvs a=>vs.length<=aS/\E #[dz] none a
section
variable {X:Cx}{E:XK}{C:ae}{n:Str}{np lD pos:Pos}{e:cz}{es:List cz}{t:TA}
def mG(x:XMk X E)(c:XQ X.K C)(m:Gl X n)(hm:X.mg n=some #[dz])(o:PA X (e::es) t)(b:#[rr]=false:=by decide) (he:bV (e::es) X.env=#[A]::bV es X.env:=by rfl) (d:#[jS].any (·.1)=false:=by rfl):PS X (.Raise (some (.Call (.Name n np) (e::es) [] lD)) none pos) (aeD C E t):=by
 intro pins s l H D I h
 (let(nm,p,N,bs,hdct,sn,sub,ab,f):=8 (c _ I.ok.mod.WT);let(col,dd,k0,k1,k2,k3,k5,mN,g):=8 f;let(u,v,i):=40 g)
 refine wpAny_Raise_call_subU (C:=C) (nm:=nm) (q:=p) (N:=N) (bs:=bs) (bm:=vbm) (hdct:=hdct) (sn:=sn) (sub:=sub) (ab:=ab) (col:=col) (dd:=dd) (k0:=k0) (k1:=k1) (k2:=k2) (k3:=k3) (k5:=k5)
  GS #[c] GS (mN:=mN) #[c] x.hd ?_ i (B5 I m hm (rfl,?_) b)
 ·rw[he];exact d
 ·have q:=o lD pins s l H _ I h;rw[he]at q ⊢;refine Calls.evalArgs_plain (da q λus w j=>e2_3 j λvs y k r z A=> ?_);refine(rfl,by rw[<-r.length];exact z,k.bk _ _ u,v.keeps k.bk,.base,λh' a B=>x.made pins l y w h' a C us k B A)
#where
def Inv.al8{H':Hp}{s':aL}{B h5:cZ}{e:ae}{cls i:ax}(I:Inv X pins σ H s)(os:s'.os=s.os)(bare:AllBare s'.gens)(j:Heap.FlyingW B X.stack e cls i s'.heap)(un:Un #[oE] [] H H' s.heap s'.heap) (kp:∀b o,s.heap.get? b=some o->H b=none->b∉pX X.stack->B.get? b=some o) (k:∀b o,s.heap.get? b=some o->b∉pX X.stack->∃l,B.get? b=some l) (cQ:ow X.prog X.w H' B) (st:B.StaysIn h5) (p:s'.heap.UpToSlots h5):Inv X pins σ H' {s' with heap:=h5}:=by
 have slot:∀{b:ae} {o:Obj},s'.heap.get? b=some o->b∈pX X.stack->∃sl,h5.get? b=some {o with slots:=sl}:=λ{b o} q m=>by
  (let(_,f):=20 (j.2.2.1.mem m);let(d,a,r):=21 f)
  rw[q]at a;cases a;exact p b o q r
 refine I.ahT (s':={s' with heap:=h5}) (ch:=[]) os (λb o q n c _=>st b o (kp b o q n c),λb o q n c _=> ?_,λb o q n _=>un.free b o q n #[b],λb o q _=> ?_,un.zL,un.zM,un.B4) (cQ.kept st) bare (λb z=>nomatch z)
 ·let(sl,a):=1 (un.slot b o q n c #[b]);let(g,h):=1 (slot a c);exact(g,h)
 ·by_cases c:b∈pX X.stack
  ·let(d,a):=1 (un.there b o q #[b]);let(sl,h):=1 (slot a c);exact(_,h)
  ·let(d,a):=1 (k b o q c);exact(d,st b d a)
def Inv.forget(I:Inv X pins σ H s):Inv X pins #[sQ] H s:=I.weak (by rw[LC,I.len]) λi v e=>by rw[JH]at e;split at e<;>cases e
abbrev akD(C:ae)(E:XK)(n:Nat)(tb b:TS):TS:=λD σ H=>tb D σ H/\∀c a,E c none a->c= .ref C/\b D (xG n none) a
section
variable {X:Cx}{E:XK}{C:ae}{n:Str}{np akE pos:Pos}{body acr:List bu}{b0:bu}{tb th:TS}
nonrec abbrev Cx.NL (X:Cx) (xe:ax->aL->Prop) (pn:List #[H]):Cx:={X with xe:=xe,pn:=pn}
nonrec abbrev Cx.zR (X:Cx) (e:ae):Cx:={X with A:=X.A.mark #[Dc,#[wC]],calm:=false,xe:=λ_ _=>False}
def Cx.Ok.NL{X:Cx}(ok:X.Ok)(xe:ax->aL->Prop)(pn:List #[H]):#[uc].Ok:=#[D]
def Cx.Ok.zR{X:Cx}(ok:X.Ok)(e:ae):(X.zR e).Ok:=(ok.mod,ok.kind,ok.glob,ok.blt,ok.above,ok.inj,ok.has,ok.WV,(λz=>nomatch z),ok.frames,ok.stk,ok.exf,ok.bs,ok.LL,ok.O7,ok.O8,ok.Aw,ok.QE)
def aeE(c:XQ X.K C)(V:Gl X n)(hm:X.mg n=some #[dz])(g:X.stack=X.env::X.outer/\X.env.frame=some X.env.locals) (W:∀(xe:ax->aL->Prop) (pn:List (ae×Obj)),XOk #[uc] E->BS #[uc] body tb) (Y:∀e:ae,BS (X.zR e) (b0::acr) th) (y:#[rr]=false:=by decide):PS X (.Try body #[fK] [] [] pos) (akD C E X.N.length tb th):=by
 intro pins s Z H D I h;refine wpAny_Try_except ?_;have body:=W (λe F=>bF #[g] X.A (noteFrame e X.env) (λ_ l=>bF #[g] X.A (setFlight e none) (λ_ s3=>
  bF #[g] X.A (handleBy e X.env #[fK]) #[sr] X.xe s3) X.xe l) X.xe F) (X.pn++pins) ?_ [] s Z H D (I.ok.NL _ _,I.os,I.bare,I.base,I.loc,I.cell,I.free,I.sM,λp k=>I.pin p (by rw[ah]at k;exact k),I.cQ,I.len) h.1
 ·refine jR body (λf F q=> ?_) λ_ _ z=>z;have d:∀{b:St} {H':Hp} {s':aL} {xe:ax->aL->Prop},Inv (X.NL xe (X.pn++pins)) [] b H' s'->Inv X pins b H' s':=λJ=>
   (I.ok,J.os,J.bare,J.base,J.loc,J.cell,J.free,J.sM,λp k=>J.pin p (xF _ k),J.cQ,J.len)
  cases f with
  |next=>let(b,H',J,q):=22 q;exact wK #[e7]
  |brk=>let(b,H',J,q):=22 q;rw[2093]
  |cont=>let(b,H',J,q):=22 q;rw[2093]
  |ret u=>let(v,b,H',J,r,q):=43 q;exact #[sF]
 ·refine(λG σ1 H1 F e l I1 hx=> ?_,PassesOwn.looking)
  (let(a,cls,a0,H',B,i):=5 hx;let(rfl,os,bare,T,un,kp,L,cQ,he):=160 i)
  let(rfl,M):=20 (h.2 cls H' he);have fr:X.A.frames=some #[xD]:=by rw[<-g.1];exact I.ok.frames
  have O:Heap.FlyingW B #[xD] a #[dz] a0 l.heap:=by rw[<-g.1];exact T
  have after:∀h5:cZ,B.StaysIn h5->l.heap.UpToSlots h5->Inv (X.zR a) pins #[sQ] H' {l with heap:=h5}:=λh5 st up=>by have J:=(I1.al8 (h5:=h5) os bare T un kp L cQ st up).forget;exact(I.ok.zR a,J.os,J.bare,J.base,J.loc,J.cell,J.free,J.sM,λp k=>J.pin p (xF _ k),J.cQ,J.len)
  refine wpAny_looks_onW fr g.2 O λh4 m o=> ?_;refine wpAny_landsW m λh5 j t=> ?_;have U:=after h5 j.1 (o.trans t);refine wpAny_handleBy_cons (codeAny_handlers_test (B5 (X:=X.zR a) U V hm ?_ y)) (by intro q;cases q)
  (let(nm,qn,N,bs,hdct,sn,sub,ab,i):=8 (c _ U.Ac);let(col,dd,k0,k1,k2,k3,k5,mN,P):=8 i;let(hC,hN,hni):=40 P)
  let(ob,Q,x):=21 (j.there);refine wpAny_excMatches_sub_self hC Q x #[c] ?_;rw[1898];refine codeAny_handlers_suite ?_;refine lands_againW j λh6 R S=> ?_;have J6:=after h6 R.1 ((o.trans t).trans S);refine jR (Y a pins _ _ H' D J6 M) (λf s7 q=> ?_) λ_ _ z=>False.elim z;have d:∀{b:St} {H':Hp} {s':aL},Inv (X.zR a) pins b H' s'->Inv X pins b H' s':=λJ=>(I.ok,J.os,J.bare,J.base,J.loc,J.cell,J.free,J.sM,J.pin,J.cQ,J.len);cases f with
  |next=>let(b,H',J,q):=22 q;rw[2093]
  |brk=>let(b,H',J,q):=22 q;rw[2093]
  |cont=>let(b,H',J,q):=22 q;rw[2093]
  |ret u=>let(v,b,H',J,r,q):=43 q;exact #[sF]
#where
abbrev aeF(K:aA)(C:ae):Bool:=agR K C #[n3] "__eq__" "__ne__" λ_=>true
abbrev agS(K:aA)(C:ae):Prop:=∀h:cZ,K.In h->∃nm b N bs hdct sn sub ab col dd k0 k1 k2 k3 k5 a mN,h.get? C=some (excClassObj nm b C N bs #[n3] hdct sn sub ab col dd k0 k1 k2 k3 k5 a)/\h.Ns N mN/\mN "__eq__"=none/\mN "__ne__"=none
def ai6{K:aA}(q:aeF K C=true):agS K C:=by
 intro h X
 (let(c,f,g,i,j,k,l,o,a):=8 (abw q X);let(p,d,k0,k1,k2,k3,k5,n,m,b):=9 a;let(e,_,y):=40 b)
 exact(c,f,g,i,j,k,l,o,p,d,k0,k1,k2,k3,k5,n,m,e,y)
abbrev intsOf:List jz->Option (List #[st])
 |[]=>some []
 |e::r=>match e.key,intsOf r with
  | .int k _,some l=>if e.hash=hashInt k then some (((k),e.val)::l)else none
  |_,_=>none
#print L2
#where
section
namespace Pe
open PySem PySem.Spec PyProof.Rows L2
variable {f:ae}{v0 v1 y v2 v3 v4 v5 v6 v7:V}
abbrev top(i:Nat):bu:=PySem.Challenge.pw_patternedits_s01_answers.main.body.getD i #[B1]
nonrec abbrev Cb:bu:=top 28
nonrec abbrev Mn:bu:=top 29
nonrec abbrev Kk:bu:=top 30
nonrec abbrev yC:bu:=top 31
nonrec abbrev yD:bu:=top 32
nonrec abbrev Cc:bu:=top 33
nonrec abbrev FZ:bu:=top 34
nonrec abbrev vm:bu:=top 35
nonrec abbrev C5:bu:=top 36
nonrec abbrev D1:bu:=inClass #[vw] 0
nonrec abbrev AI:bu:=inClass #[vw] 1
nonrec abbrev D2:bu:=inClass #[vw] 2
nonrec abbrev D3:bu:=inClass #[vw] 3
nonrec abbrev w6:bu:=inClass #[vw] 4
nonrec abbrev F0:bu:=inClass #[qw] 0
nonrec abbrev rC:bu:=inClass #[qw] 1
nonrec abbrev yE:bu:=inClass #[qw] 2
nonrec abbrev p7:bu:=inClass #[qw] 3
nonrec abbrev uj:bu:=inClass #[qw] 4
nonrec abbrev p8:bu:=inClass #[qw] 5
nonrec abbrev uk:bu:=inClass #[qw] 6
nonrec abbrev Ir:bu:=top 42
nonrec abbrev D4:bu:=inClass (top 47) 0
nonrec abbrev AJ:bu:=inClass #[iH] 0
nonrec abbrev Cd:bu:=inClass #[iH] 1
nonrec abbrev Ce:bu:=inClass #[iH] 2
nonrec abbrev zS:bu:=inClass #[iH] 3
nonrec abbrev um:bu:=inClass #[iH] 4
nonrec abbrev nO:bu:=inClass #[iH] 5
nonrec abbrev rD:bu:=inClass #[iH] 6
nonrec abbrev sr:bu:=inClass #[iH] 7
nonrec abbrev pI:bu:=inClass #[iH] 8
nonrec abbrev oJ:bu:=inClass #[iH] 9
nonrec abbrev yF:bu:=inClass #[iH] 10
nonrec abbrev rE:bu:=inClass #[iH] 11
nonrec abbrev rF:bu:=inClass #[iH] 12
nonrec abbrev D5:bu:=inClass (top 51) 0
nonrec abbrev Iu:bu:=inClass (top 62) 0
nonrec abbrev Iv:bu:=inClass (top 63) 0
nonrec abbrev Cf:bu:=inClass (top 64) 0
nonrec abbrev Cg:bu:=top 65
nonrec abbrev D6:bu:=top 66
nonrec abbrev Iw:bu:=top 67
nonrec abbrev XR:bu:=top 68
nonrec abbrev Iy:bu:=top 69
nonrec abbrev D7:bu:=top 70
nonrec abbrev Ci:bu:=top 71
nonrec abbrev yG:bu:=top 72
nonrec abbrev Kl:bu:=top 73
nonrec abbrev D8:bu:=top 74
nonrec abbrev su:bu:=top 75
nonrec abbrev F1:bu:=top 76
nonrec abbrev Km:bu:=top 77
nonrec abbrev F2:bu:=top 78
nonrec abbrev F3:bu:=top 79
nonrec abbrev Iz:bu:=top 80
nonrec abbrev Mo:bu:=top 81
nonrec abbrev zT:bu:=top 82
nonrec abbrev xa:bu:=top 87
nonrec abbrev IA:bu:=top 88
nonrec abbrev yH:bu:=top 89
nonrec abbrev vn:bu:=top 91
nonrec abbrev vZ:bu:=top 92
nonrec abbrev xb:bu:=top 93
nonrec abbrev yI:bu:=top 94
nonrec abbrev AK:bu:=top 95
nonrec abbrev xc:bu:=top 96
nonrec abbrev zU:bu:=top 97
nonrec abbrev Cj:bu:=top 100
nonrec abbrev zV:bu:=top 101
nonrec abbrev Ck:bu:=top 102
nonrec abbrev Mp:bu:=top 103
nonrec abbrev F4:bu:=top 104
nonrec abbrev Ko:bu:=top 105
nonrec abbrev F5:bu:=top 106
nonrec abbrev wa:bu:=inClass #[le] 0
nonrec abbrev pJ:bu:=inClass #[le] 1
nonrec abbrev oR:bu:=inClass #[le] 2
nonrec abbrev l0:bu:=inClass #[le] 3
nonrec abbrev lF:bu:=inClass #[le] 4
nonrec abbrev oK:bu:=inClass #[le] 5
nonrec abbrev nP:bu:=inClass #[le] 6
nonrec abbrev rG:bu:=inClass #[le] 7
nonrec abbrev F6:bu:=inClass (top 110) 0
nonrec abbrev xf:bu:=inClass (top 110) 1
nonrec abbrev IB:bu:=inClass #[vx] 0
nonrec abbrev yJ:bu:=inClass #[vx] 1
nonrec abbrev rH:bu:=inClass #[vx] 2
nonrec abbrev AL:bu:=inClass #[vx] 3
nonrec abbrev D9:bu:=inClass #[pe] 0
nonrec abbrev oS:bu:=inClass #[pe] 1
nonrec abbrev zW:bu:=inClass #[pe] 2
nonrec abbrev yK:bu:=inClass #[pe] 3
nonrec abbrev vo:bu:=inClass #[pe] 4
nonrec abbrev uo:bu:=inClass #[pe] 5
nonrec abbrev Cm:bu:=top 113
nonrec abbrev Mq:bu:=top 114
nonrec abbrev Pu:bu:=top 131
nonrec abbrev Tc:bu:=top 132
nonrec abbrev Td:bu:=top 133
nonrec abbrev acs:bu:=top 134
nonrec abbrev acu:bu:=top 135
nonrec abbrev Te:bu:=top 136
nonrec abbrev Mr:bu:=top 137
nonrec abbrev Ea:bu:=top 138
nonrec abbrev Ms:bu:=top 139
nonrec abbrev F7:bu:=top 140
nonrec abbrev F8:bu:=top 141
nonrec abbrev Cn:bu:=top 142
nonrec abbrev Eb:bu:=top 143
nonrec abbrev zr:bu:=top 144
nonrec abbrev IC:bu:=top 145
nonrec abbrev ID:bu:=top 146
nonrec abbrev Kp:bu:=top 147
nonrec abbrev Ec:bu:=top 148
nonrec abbrev wb:bu:=top 149
nonrec abbrev xg:bu:=top 150
nonrec abbrev qr:bu:=top 151
nonrec abbrev AM:bu:=top 152
nonrec abbrev AN:bu:=top 153
nonrec abbrev vp:bu:=top 154
nonrec abbrev IE:bu:=top 155
nonrec abbrev Ed:bu:=top 156
nonrec abbrev Kq:bu:=top 157
nonrec abbrev Mt:bu:=top 159
def bv{N P:List Str}{sc:lS}(h:sc.kind= .function/\sc.isCoroutine=false/\sc.isGenerator=false/\N.Nodup/\N.take P.length=P/\(∀x∈P,sc.names.lookup x=some .local\/sc.names.lookup x=some .cell)/\∀y∈sc.names,y.2≠ .free):aY N P sc:=(h.1,h.2.1,h.2.2.1,h.2.2.2.1,h.2.2.2.2.1,h.2.2.2.2.2.1,h.2.2.2.2.2.2)
def Rh:aY #[S] #[S] (aQ Cb):=bv #[a]
def acv:aY #[S] #[S] (aQ Mn):=bv #[a]
def ZY:aY #[S] #[S] (aQ Kk):=bv #[a]
def Mu:aY #[S] #[S] (aQ yC):=bv #[a]
def Mv:aY #[S] #[S] (aQ yD):=bv #[a]
def Ri:aY #[S] #[S] (aQ Cc):=bv #[a]
def VA:aY #[S] #[S] (aQ FZ):=bv #[a]
def yL:aY #[gD] #[kk] (aQ vm):=bv #[a]
def F9:aY #[gD] #[kk] (aQ C5):=bv #[a]
def Tf:aY #[cN] #[cN] (aQ D1):=bv #[a]
def Pw:aY #[az] #[az] (aQ AI):=bv #[a]
def Th:aY #[az] #[az] (aQ D2):=bv #[a]
def Jk:aY #[f2] #[az] (aQ D3):=bv #[a]
def wc:aY ["self","count","begin"] #[az] (aQ w6):=bv #[a]
def VB:aY #[bF] #[bF] (aQ F0):=bv #[a]
def wt:aY ["self","piece","before"] #[bM] (aQ rC):=bv #[a]
def xh:aY ["self","before","behind"] #[az] (aQ yE):=bv #[a]
def pa:aY #[ji] #[bZ] (aQ p7):=bv #[a]
def y6:aY ["self","entry","which"] #[g1] (aQ uj):=bv #[a]
def tM:aY #[g1] #[az] (aQ p8):=bv #[a]
def tN:aY ["self","entries","entries_of_one"] #[az] (aQ uk):=bv #[a]
def XS:aY #[eM] #[eM] (aQ Ir):=bv #[a]
def Ti:aY #[a4] #[a4] (aQ D4):=bv #[a]
def Px:aY #[az] #[az] (aQ AJ):=bv #[a]
def jG:aY ["self","place","signs","insertions","behind","look_of_text","look_of_ends","count","sign","look","piece"] #[ik] (aQ Cd):=bv #[a]
def p9:aY ["self","begin","end","change","bearer_count","pieces","piece"] #[cr] (aQ Ce):=bv #[a]
def qz:aY ["self","begin","end","which","value","entry","bearer_count","piece"] #[dG] (aQ zS):=bv #[a]
def y8:aY ["self","found"] #[az] (aQ um):=bv #[a]
def qE:aY #[mu] #[cr] (aQ nO):=bv #[a]
def ES:aY #[az] #[az] (aQ rD):=bv #[a]
def Ga:aY #[c4] #[c4] (aQ sr):=bv #[a]
def oT:aY ["self","numbers","number","change"] #[cN] (aQ pI):=bv #[a]
def AO:aY #[bM] #[bM] (aQ oJ):=bv #[a]
def Dv:aY ["self","piece","change"] #[bM] (aQ yF):=bv #[a]
def ET:aY #[cU] #[cU] (aQ rE):=bv #[a]
def wu:aY #[cU] #[cU] (aQ rF):=bv #[a]
def Tj:aY #[az] #[az] (aQ D5):=bv #[a]
def XT:aY #[df] #[df] (aQ Iu):=bv #[a]
def XU:aY #[aP] #[aP] (aQ Iv):=bv #[a]
def Rj:aY #[bN] #[bN] (aQ Cf):=bv #[a]
def AQ:aY ["text","cursor","found"] #[sL] (aQ Cg):=bv #[a]
def kP:aY ["found","groups","previous","within","item"] #[Ax] (aQ D6):=bv #[a]
def XW:aY #[aK] #[aK] (aQ Iw):=bv #[a]
def ai7:aY #[zf] #[zf] (aQ XR):=bv #[a]
def Mw:aY #[W] #[aK] (aQ Iy):=bv #[a]
def To:aY [] [] (aQ D7):=bv #[a]
def Rk:aY #[ze] #[ze] (aQ Ci):=bv #[a]
def Mx:aY #[eR] #[eR] (aQ yG):=bv #[a]
def IF:aY ["cursor","denied","stretches"] #[aK] (aQ Kl):=bv #[a]
def Co:aY ["cursor","first","last"] #[aK] (aQ D8):=bv #[a]
def xi:aY #[W] #[aK] (aQ su):=bv #[a]
def Ee:aY #[b0] #[mO] (aQ F1):=bv #[a]
def OI:aY ["cursor","unit","least","greatest","sparing"] #[b0] (aQ Km):=bv #[a]
def Ef:aY ["cursor","count"] #[aK] (aQ F2):=bv #[a]
def Lf:aY #[W] #[aK] (aQ F3):=bv #[a]
def XX:aY #[W] #[W] (aQ Iz):=bv #[a]
def acw:aY #[W] #[W] (aQ Mo):=bv #[a]
def N3:aY #[aK] #[aK] (aQ zT):=bv #[a]
def we:aY ["text","cursor","parts"] #[sL] (aQ xa):=bv #[a]
def My:aY #[W] #[aK] (aQ IA):=bv #[a]
def Mz:aY #[eR] #[eR] (aQ yH):=bv #[a]
def jU:aY ["parts","found","length","part","stretch"] #[mN] (aQ vn):=bv #[a]
def qF:aY ["document","parts","found","signs","part","stretch"] #[gz] (aQ vZ):=bv #[a]
def sf:aY ["document","parts","matches","count","found"] #[a2] (aQ xb):=bv #[a]
def kc:aY ["document","parts","matches","put_count","cut_count","found","counts"] #[a2] (aQ yI):=bv #[a]
def gP:aY ["document","found","new","old","alike","begin","put_signs","put_count","cut_count"] #[he] (aQ AK):=bv #[a]
def wf:aY #[rQ] #[hF] (aQ xc):=bv #[a]
def yM:aY #[rQ] #[hF] (aQ zU):=bv #[a]
def Rl:aY #[vm] #[vm] (aQ Cj):=bv #[a]
def N4:aY #[ox] #[ox] (aQ zV):=bv #[a]
def Rm:aY #[eL] #[eL] (aQ Ck):=bv #[a]
def acx:aY #[fD] #[fD] (aQ Mp):=bv #[a]
def VC:aY #[bj] #[bj] (aQ F4):=bv #[a]
def ZZ:aY #[bj] #[bj] (aQ Ko):=bv #[a]
def Eg:aY ["positions","begin","rest","lowest"] #[jN] (aQ F5):=bv #[a]
def qG:aY ["self","shown","position","piece","earlier"] #[n4] (aQ wa):=bv #[a]
def Cp:aY #[kj] #[kj] (aQ pJ):=bv #[a]
def BP:aY #[az] #[az] (aQ oR):=bv #[a]
def eP:aY ["self","unit","folding","listed","stretch","sign"] #[hD] (aQ l0):=bv #[a]
def fk:aY ["self","which","value","showing","position","piece"] #[bZ] (aQ lF):=bv #[a]
def jH:aY ["self","words","sign"] #[az] (aQ oK):=bv #[a]
def so:aY #[wZ] #[az] (aQ nP):=bv #[a]
def wx:aY #[wZ] #[az] (aQ rG):=bv #[a]
def VD:aY #[cO] #[cO] (aQ F6):=bv #[a]
def Lr:aY #[f2] #[f2] (aQ xf):=bv #[a]
def XY:aY #[d4] #[d4] (aQ IB):=bv #[a]
def sQ:aY ["self","found","move"] #[az] (aQ yJ):=bv #[a]
def nv:aY ["self","runs","rest","found","move"] #[jj] (aQ rH):=bv #[a]
def Gb:aY ["self","begin","move"] #[a6] (aQ AL):=bv #[a]
def js:aY ["self","editor","limit","runs","going_on","as_asked","without_length","item","step"] #[hE] (aQ D9):=bv #[a]
def BQ:aY #[iD] #[iD] (aQ oS):=bv #[a]
def N5:aY #[bV] #[bV] (aQ zW):=bv #[a]
def mW:aY ["self","begin","groups","at","item","step"] #[a6] (aQ yK):=bv #[a]
def Ai:aY ["self","begin","found"] #[a6] (aQ vo):=bv #[a]
def pb:aY ["self","begin","found","current"] #[a6] (aQ uo):=bv #[a]
def iF:aY ["item","fitting","following","reaching","counts","staying","moves","taken","count","chosen"] #[fL] (aQ Cm):=bv #[a]
def Rn:aY ["positions","runs"] #[rP] (aQ Mq):=bv #[a]
def MA:aY ["editor","cursor","number","document"] #[e] (aQ Pu):=bv #[a]
def Py:aY ["editor","cursor","time","document"] #[e] (aQ Tc):=bv #[a]
def Pz:aY ["editor","cursor","on","document"] #[e] (aQ Td):=bv #[a]
def Ro:aY ["editor","cursor","place","signs","document"] #[e] (aQ acs):=bv #[a]
def Rp:aY ["editor","cursor","begin","end","document"] #[e] (aQ acu):=bv #[a]
def Cq:aY ["editor","cursor","begin","end","which","value","document"] #[e] (aQ Te):=bv #[a]
def Rq:aY #[oy] #[e] (aQ Mr):=bv #[a]
def Jl:aY #[oy] #[e] (aQ Ea):=bv #[a]
def EU:aY ["editor","cursor","fold","which","value"] #[e] (aQ Ms):=bv #[a]
def zt:aY ["editor","cursor","begin","refusal","found"] #[e] (aQ F7):=bv #[a]
def zu:aY ["editor","cursor","outcome","found","signs"] #[e] (aQ F8):=bv #[a]
def nQ:aY ["editor","cursor","begin","end","refusal","matches","answer","found"] #[e] (aQ Cn):=bv #[a]
def rf:aY ["editor","cursor","begin","outcome","matches","end","counts"] #[e] (aQ Eb):=bv #[a]
def mX:aY #[dS] #[e] (aQ zr):=bv #[a]
def l4:aY ["editor","cursor","begin","end","which","value","refusal","matches","document","entered_before","found"] #[e] (aQ IC):=bv #[a]
def MB:aY ["editor","cursor","way"] #[e] (aQ ID):=bv #[a]
def vS:aY ["editor","cursor","pieces","answer","piece","pending","entry"] #[e] (aQ Kp):=bv #[a]
def xY:aY ["editor","cursor","number","document","change"] #[e] (aQ Ec):=bv #[a]
def Kr:aY #[eN] #[eN] (aQ wb):=bv #[a]
def wg:aY ["editor","begin","refusal","found"] #[l9] (aQ xg):=bv #[a]
def Dx:aY #[h4] #[h4] (aQ qr):=bv #[a]
def PD:aY #[sM] #[sM] (aQ AM):=bv #[a]
def zX:aY ["document","answer","piece"] #[i5] (aQ AN):=bv #[a]
def qA:aY #[jw] #[i5] (aQ vp):=bv #[a]
def XZ:aY #[S] #[S] (aQ IE):=bv #[a]
def Tp:aY #[S] #[S] (aQ Ed):=bv #[a]
def Z0:aY #[S] #[S] (aQ Kq):=bv #[a]
def xZ:aY ["calls","cursor","editor","answered","call","answer"] #[rR] (aQ Mt):=bv #[a]
set_option genInjectivity false in
structure cI where
 (Cursor Piece Change dg fP u4 Unit Item Pattern oz dP Match Step Search:ae)
 (jt qR pd hU hW kQ nR gQ nD kx iG ky kz fQ nS eD hX fm fq ft fu ph mm jI kR kT i4 fv eE eF eR ea dJ hY eG eI mn pj pq kU ju kC nE AR nF mq kW hZ pw kD et l5 qH l6 l7 nG sR gR fR nH gw fL gg gE h8 jJ gF i5 kX i6 kY sS nT qI nU gh ee dU c8 cW dM dC eJ nV gG px h9 eK jK mr dW i7 ia fM fw kZ sU qs sC sE zv zw sF oA io oB jk jl gB ip iq kE kG mu ir gi gH ek jL jM i8 pz mw qJ mY:ae)
 gI:ae
 x4:ae
structure Def(K:aA)(x qual:Str)(st:bu)(ps:List Str)(f:ae)(fd:jF):Prop where
 fn:OD K x qual st f fd
 b:Binds K fd ps []
abbrev fdOf(K:aA)(f:ae):jF:=match K.lookup f with
 |some (_,_,.func fd,_)=>fd
 |_=>qN "" "" (Ag (top 0)) (sx (top 0)) (aQ (top 0)) .none .none .none .none none .none .none
structure FnAt(K:aA)(x q:Str)(st:bu)(f:ae):Prop where
 ex:∃(oc:ax) (od:Option ae) (kV doc pm:ax) (an:Option ae) (gn ct:ax) (osl:Array (Option ax)),K.lookup f=some (oc,od,.func (qN x q (Ag st) #[vz] #[sl] .none kV doc pm an gn ct),osl)/\GL K gn q=true
 kp:md K #[bz]=true
nonrec abbrev BA (x q:Str) (st:bu) (ps:List Str):Prop:=∀(kV doc a:ax) (b:Option ae) (gn ct:ax) (f:Nat->ax),bindArgs #[fN] (#[qR].map f,[])=pure (ps.zip (#[qR].map f))
def BA.at{x q:Str}{st:bu}{ps:List Str}(h:BA x q st ps)(kV doc a:ax)(b:Option ae)(gn ct:ax)(us:List ax)(c:us.length=ps.length):bindArgs #[fN] #[dE]=pure #[ff]:=by
 have e:us=#[qR].map λi=>us.getD i .none:=List.ext_getElem (by simp[c]) λi d f=>by simp[d]
 rw[e];exact h kV doc a b gn ct _
def FnAt.cb{K:aA}{x q:Str}{st:bu}{ps:List Str}(h:FnAt K x q st f)(b:BA x q st ps):Def K x q st ps f (fdOf K f):=by
 (let(_,_,_,_,_,_,_,_,_,a):=9 (h.ex);let(l,c):=20 a)
 unfold fdOf;rw[l];exact(aeo l c h.kp,(aeo l c h.kp).binds (BA.at b))
def FnAt.bt{K:aA}{x q:Str}{st:bu}{ps:List Str}(h:FnAt K x q st f)(b:BA x q st ps)(s:aL)(us:List ax)(c:us.length=ps.length):Ar s (fdOf K f) #[dE] #[ff]:=by
 (let(_,_,_,_,_,_,_,_,_,a):=9 (h.ex);let(l,_):=20 a)
 unfold fdOf;rw[l];exact .of_eq (BA.at b _ _ _ _ _ _ us c)
abbrev eL(mg:Str->Option ax)(x:Str)(n:Int):Prop:=∃t,mg x=some (.int n t)
structure Txt(K:aA)(mg:Str->Option ax)(t:cI):Prop where
 fZ:eL mg "PARAGRAPH_END" 10
 tX:eL mg "FIRST_CHARACTER" 32
 vq:eL mg "LAST_CHARACTER" 126
 uq:eL mg "LONGEST_TEXT" 200
 pK:eL mg "EXCLAMATION_MARK" 33
 AS:eL mg "LEFT_ROUND" 40
 zx:eL mg "RIGHT_ROUND" 41
 Rr:eL mg "STAR" 42
 NM:eL mg "COMMA" 44
 Gc:eL mg "HYPHEN" 45
 ur:eL mg "DIGIT_ZERO" 48
 AU:eL mg "DIGIT_NINE" 57
 C6:eL mg "LESS_THAN" 60
 x5:eL mg "GREATER_THAN" 62
 wy:eL mg "QUESTION_MARK" 63
 Dy:eL mg "AT_SIGN" 64
 Aj:eL mg "GREAT_A" 65
 Ho:eL mg "GREAT_Z" 90
 zy:eL mg "LEFT_SQUARE" 91
 qS:eL mg "BACKSLASH" 92
 rg:eL mg "RIGHT_SQUARE" 93
 Ak:eL mg "SMALL_A" 97
 Dz:eL mg "SMALL_N" 110
 Hq:eL mg "SMALL_Z" 122
 xj:eL mg "LEFT_CURLY" 123
 vJ:eL mg "RIGHT_CURLY" 125
 Jm:eL mg "TILDE" 126
 ut:mg "PLAIN_LOOK"=some #[Cf,t.gI]
 EV:eL mg "KIND_PUT" 1
 EW:eL mg "KIND_CUT" 2
 AV:eL mg "KIND_PAINT" 3
 sG:eL mg "NO_PROPERTY" (-1)
 tO:eL mg "ITEM_UNIT" 1
 xk:eL mg "ITEM_BEGIN" 2
 AW:eL mg "ITEM_END" 3
 oU:eL mg "ITEM_OPENING" 4
 rh:eL mg "ITEM_CLOSING" 5
 AX:eL mg "MOST_ITEMS" 40
 zA:eL mg "MOST_GROUPS" 9
 uu:eL mg "MOST_TIMES" 99
 qT:eL mg "PART_SIGN" 1
 AY:eL mg "PART_GROUP" 2
 DA:eL mg "NOWHERE" (-1)
 iu:eL mg "NOT_REFUSED" 0
 oV:eL mg "OUTSIDE_TEXT" (-1)
 gJ:eL mg "OUTSIDE_RANGE" (-2)
 vr:eL mg "TIME_GOES_BACK" (-3)
 y9:eL mg "NOT_THERE" (-4)
 vt:eL mg "TOO_LONG" (-5)
 uv:eL mg "NO_SUCH_TEXT" (-6)
 AZ:eL mg "NO_PATTERN" (-8)
 zB:eL mg "LAST_AUTHOR" 99
 wz:eL mg "LAST_PROPERTY" 3
 A5:eL mg "LAST_VALUE" 99
 qa:eL mg "LONGEST_REPLACEMENT" 2000
 xl:eL mg "MOST_SHOWN" 2001
 EX:eL mg "AS_SHOWN" 1
 C7:eL mg "AS_IT_WAS" 2
 NN:mg "CALLS"=some #[Cf,t.x4]
 pl:∃o t1 t2 t3 t4 n,K.lookup t.gI=some o/\o.cls= .type "tuple"/\o.data= .seq #[.int 0 t1,.int 0 t2,.int 0 t3,.int 0 t4] n
 cls:∃es ep,K.lookup t.x4=some (.type "dict",none,.dict es ep,#[])/\intsOf es.toList=some #[z]
 all:mg "all"=none
 any:mg "any"=none
 enumerate:mg "enumerate"=none
 len:mg "len"=none
 list:mg "list"=none
 min:mg "min"=none
 range:mg "range"=none
 reversed:mg "reversed"=none
 sorted:mg "sorted"=none
 zip:mg "zip"=none
 Cr:mg "Cursor"=some #[Cf,t.Cursor]
 bP:ka K t.Cursor
 Al:Mk K t.Cursor t.kx
 i9:cD K t.Cursor "numbers"
 pA:cD K t.Cursor "at"
 Jn:mg "Piece"=some #[Cf,t.Piece]
 b8:ka K t.Piece
 X0:agS K t.Piece
 Gd:Mk K t.Piece t.nS
 jm:cD K t.Piece "sign"
 ke:cD K t.Piece "own_look"
 ef:cD K t.Piece "shown_look"
 fS:cD K t.Piece "insertions"
 ib:cD K t.Piece "deletions"
 dF:cD K t.Piece "pending_by_property"
 fH:cD K t.Piece "preceding"
 ic:cD K t.Piece "following"
 Ks:mg "Change"=some #[Cf,t.Change]
 qU:ka K t.Change
 Hr:Mk K t.Change t.mm
 qb:cD K t.Change "author"
 vK:cD K t.Change "time"
 vL:cD K t.Change "kind"
 jV:cD K t.Change "bearer_count"
 EY:mg "Document"=some #[Cf,t.dg]
 bo:ka K t.dg
 C8:Mk K t.dg t.jI
 lU:cD K t.dg "last_end"
 cP:cD K t.dg "shown"
 eu:cD K t.dg "changes"
 lG:cD K t.dg "author"
 nW:cD K t.dg "time"
 hL:cD K t.dg "tracking"
 Kt:mg "Editor"=some #[Cf,t.fP]
 cg:ka K t.fP
 Hs:Mk K t.fP t.mn
 cv:cD K t.fP "document"
 kf:cD K t.fP "pattern"
 el:cD K t.fP "replacement"
 mH:cD K t.fP "folding"
 fF:cD K t.fP "asked_property"
 ja:cD K t.fP "asked_value"
 gx:mg "NoPattern"=some #[ra]
 gK:XQ K t.u4
 Jo:mg "Unit"=some #[Cf,t.Unit]
 FB:ka K t.Unit
 FC:Mk K t.Unit t.pj
 rJ:cD K t.Unit "stretches"
 vM:cD K t.Unit "denied"
 Ge:mg "Item"=some #[Cf,t.Item]
 oW:ka K t.Item
 Cs:Mk K t.Item t.pq
 kH:cD K t.Item "kind"
 pB:cD K t.Item "unit"
 xn:cD K t.Item "least"
 sV:cD K t.Item "greatest"
 vN:cD K t.Item "greedy"
 Ht:mg "Pattern"=some #[Cf,t.Pattern]
 vu:ka K t.Pattern
 EZ:Mk K t.Pattern t.kU
 iR:cD K t.Pattern "pattern_items"
 jW:cD K t.Pattern "group_count"
 nX:mg "NoReplacement"=some #[rb]
 rK:XQ K t.oz
 x6:mg "SearchedText"=some #[Cf,t.dP]
 cE:ka K t.dP
 wA:Mk K t.dP t.gh
 eg:cD K t.dP "searched_pieces"
 dh:cD K t.dP "positions_by_sign"
 NO:mg "Match"=some #[Cf,t.Match]
 iA:ka K t.Match
 Ku:Mk K t.Match t.nV
 jn:cD K t.Match "begin"
 kJ:cD K t.Match "end"
 ri:cD K t.Match "groups"
 Gf:mg "Step"=some #[Cf,t.Step]
 qc:ka K t.Step
 Ct:Mk K t.Step t.px
 mZ:cD K t.Step "staying"
 rL:cD K t.Step "moves"
 zY:mg "Search"=some #[Cf,t.Search]
 dQ:ka K t.Search
 xo:Mk K t.Search t.mr
 fI:cD K t.Search "searched"
 jv:cD K t.Search "pattern_items"
 oX:cD K t.Search "steps"
 gY:cD K t.Search "match_beginnings"
 rj:Def K "is_character" "is_character" Cb #[S] t.jt #[Be]
 Cu:mg "is_character"=some #[Cf,t.jt]
 Hu:Def K "is_sign" "is_sign" Mn #[S] t.qR #[AX]
 U4:mg "is_sign"=some #[Cf,t.qR]
 x8:Def K "is_digit" "is_digit" Kk #[S] t.pd #[AZ]
 A6:mg "is_digit"=some #[Cf,t.pd]
 tY:Def K "is_great_letter" "is_great_letter" yC #[S] t.hU #[B7,t.hU]
 yN:mg "is_great_letter"=some #[Cf,t.hU]
 tZ:Def K "is_small_letter" "is_small_letter" yD #[S] t.hW #[B7,t.hW]
 yO:mg "is_small_letter"=some #[Cf,t.hW]
 Cw:Def K "is_word_sign" "is_word_sign" Cc #[S] t.kQ #[B7,t.kQ]
 Jp:mg "is_word_sign"=some #[Cf,t.kQ]
 Gg:Def K "other_case" "other_case" FZ #[S] t.nR #[B7,t.nR]
 MC:mg "other_case"=some #[Cf,t.nR]
 vv:Def K "are_characters" "are_characters" vm #[kk] t.gQ #[Bi]
 zZ:mg "are_characters"=some #[Cf,t.gQ]
 IG:Def K "are_signs" "are_signs" C5 #[kk] t.nD #[A4]
 OJ:mg "are_signs"=some #[Cf,t.nD]
 vO:Def K "__init__" "Cursor.__init__" D1 #[cN] t.kx #[Ba]
 jN:Def K "at_end" "Cursor.at_end" AI #[az] t.iG #[Bf]
 iH:Meth K t.Cursor "at_end" t.iG
 zC:Def K "peek" "Cursor.peek" D2 #[az] t.ky #[A9]
 vP:Meth K t.Cursor "peek" t.ky
 bY:Def K "take" "Cursor.take" D3 #[az] t.kz #[A8]
 bU:Meth K t.Cursor "take" t.kz
 pL:Def K "take_list" "Cursor.take_list" w6 #[az] t.fQ #[Bk]
 m6:Meth K t.Cursor "take_list" t.fQ
 A7:Def K "__init__" "Piece.__init__" F0 #[bF] t.nS #[B7,t.nS]
 rM:Def K "enter_row_before" "Piece.enter_row_before" rC #[bM] t.eD #[B7,t.eD]
 nY:Meth K t.Piece "enter_row_before" t.eD
 yP:Def K "leave_row" "Piece.leave_row" yE #[az] t.hX #[B7,t.hX]
 t5:Meth K t.Piece "leave_row" t.hX
 uw:Def K "paint_at_once" "Piece.paint_at_once" p7 #[bZ] t.fm #[B7,t.fm]
 qd:Meth K t.Piece "paint_at_once" t.fm
 ux:Def K "paint_pending" "Piece.paint_pending" uj #[g1] t.fq #[B7,t.fq]
 qe:Meth K t.Piece "paint_pending" t.fq
 uy:Def K "borne_changes" "Piece.borne_changes" p8 #[az] t.ft #[B7,t.ft]
 qf:Meth K t.Piece "borne_changes" t.ft
 qg:Def K "pending_looks" "Piece.pending_looks" uk #[az] t.fu #[B7,t.fu]
 m7:Meth K t.Piece "pending_looks" t.fu
 za:Def K "look_with" "look_with" Ir #[eM] t.ph #[B7,t.ph]
 C9:mg "look_with"=some #[Cf,t.ph]
 Eh:Def K "__init__" "Change.__init__" D4 #[a4] t.mm #[B7,t.mm]
 A8:Def K "__init__" "Document.__init__" AJ #[az] t.jI #[B7,t.jI]
 x9:Def K "put" "Document.put" Cd #[ik] t.kR #[B7,t.kR]
 uz:Meth K t.dg "put" t.kR
 ya:Def K "cut" "Document.cut" Ce #[cr] t.kT #[B7,t.kT]
 uA:Meth K t.dg "cut" t.kT
 vw:Def K "paint" "Document.paint" zS #[dG] t.i4 #[B7,t.i4]
 rN:Meth K t.dg "paint" t.i4
 qh:Def K "row_pieces" "Document.row_pieces" um #[az] t.fv #[B7,t.fv]
 m8:Meth K t.dg "row_pieces" t.fv
 nZ:Def K "signs_between" "Document.signs_between" nO #[cr] t.eE #[B7,t.eE]
 kg:Meth K t.dg "signs_between" t.eE
 kh:Def K "coming_change" "Document.coming_change" rD #[az] t.eF #[B7,t.eF]
 iB:Meth K t.dg "coming_change" t.eF
 ly:Def K "enter_change" "Document.enter_change" sr #[c4] t.eR #[B7,t.eR]
 iS:Meth K t.dg "enter_change" t.eR
 lL:Def K "take_bearer_from" "Document.take_bearer_from" pI #[cN] t.ea #[B7,t.ea]
 iO:Meth K t.dg "take_bearer_from" t.ea
 j8:Def K "is_changed_at_once" "Document.is_changed_at_once" oJ #[bM] t.dJ #[B7,t.dJ]
 g7:Meth K t.dg "is_changed_at_once" t.dJ
 yQ:Def K "is_own" "Document.is_own" yF #[bM] t.hY #[B7,t.hY]
 t6:Meth K t.dg "is_own" t.hY
 rO:Def K "look_for_text" "Document.look_for_text" rE #[cU] t.eG #[B7,t.eG]
 n0:Meth K t.dg "look_for_text" t.eG
 rP:Def K "look_for_ends" "Document.look_for_ends" rF #[cU] t.eI #[B7,t.eI]
 n6:Meth K t.dg "look_for_ends" t.eI
 Ei:Def K "__init__" "Editor.__init__" D5 #[az] t.mn #[B7,t.mn]
 zb:Def K "__init__" "Unit.__init__" Iu #[df] t.pj #[B7,t.pj]
 vT:Def K "__init__" "Item.__init__" Iv #[aP] t.pq #[B7,t.pq]
 Cy:Def K "__init__" "Pattern.__init__" Cf #[bN] t.kU #[B7,t.kU]
 yb:Def K "read_pattern" "read_pattern" Cg #[sL] t.ju #[Bd]
 Jq:mg "read_pattern"=some #[Cf,t.ju]
 zD:Def K "read_groups" "read_groups" D6 #[Ax] t.kC #[Bc]
 Lg:mg "read_groups"=some #[Cf,t.kC]
 Da:Def K "read_item" "read_item" Iw #[aK] t.nE #[A3]
 OK:mg "read_item"=some #[Cf,t.nE]
 Jr:Def K "mark" "mark" XR #[zf] t.AR #[B7,t.AR]
 MD:mg "mark"=some #[Cf,t.AR]
 Dc:Def K "read_unit" "read_unit" Iy #[aK] t.nF #[A2]
 OL:mg "read_unit"=some #[Cf,t.nF]
 sH:Def K "unit_of_any" "unit_of_any" D7 [] t.mq #[B7,t.mq]
 Ej:mg "unit_of_any"=some #[Cf,t.mq]
 yc:Def K "unit_of_sign" "unit_of_sign" Ci #[ze] t.kW #[B7,t.kW]
 Cz:mg "unit_of_sign"=some #[Cf,t.kW]
 yR:Def K "unit_of_escaped" "unit_of_escaped" yG #[eR] t.hZ #[B7,t.hZ]
 Ez:mg "unit_of_escaped"=some #[Cf,t.hZ]
 E2:Def K "read_set" "read_set" Kl #[aK] t.pw #[AY]
 Rt:mg "read_set"=some #[Cf,t.pw]
 sI:Def K "read_member" "read_member" D8 #[aK] t.kD #[Bb]
 Ek:mg "read_member"=some #[Cf,t.kD]
 iT:Def K "read_member_character" "read_member_character" su #[aK] t.et #[Bl]
 sv:mg "read_member_character"=some #[Cf,t.et]
 A9:Def K "read_times" "read_times" F1 #[mO] t.l5 #[A7]
 ME:mg "read_times"=some #[Cf,t.l5]
 E3:Def K "read_way" "read_way" Km #[b0] t.qH #[B7,t.qH]
 Kv:mg "read_way"=some #[Cf,t.qH]
 uB:Def K "read_count" "read_count" F2 #[aK] t.l6 #[A6]
 Gi:mg "read_count"=some #[Cf,t.l6]
 uC:Def K "take_digit" "take_digit" F3 #[aK] t.l7 #[A5]
 Gj:mg "take_digit"=some #[Cf,t.l7]
 vU:Def K "take_only" "take_only" Iz #[W] t.nG #[A1]
 IH:mg "take_only"=some #[Cf,t.nG]
 lM:Def K "take_if" "take_if" Mo #[W] t.sR #[B7,t.sR]
 m9:mg "take_if"=some #[Cf,t.sR]
 gS:Def K "take_character" "take_character" zT #[aK] t.gR #[Bh]
 rQ:mg "take_character"=some #[Cf,t.gR]
 sW:Def K "read_replacement" "read_replacement" xa #[sL] t.fR #[Bj]
 DB:mg "read_replacement"=some #[Cf,t.fR]
 Dd:Def K "read_part" "read_part" IA #[aK] t.nH #[A0]
 OM:mg "read_part"=some #[Cf,t.nH]
 t7:Def K "part_of_escaped" "part_of_escaped" yH #[eR] t.gw #[Bg]
 EA:mg "part_of_escaped"=some #[Cf,t.gw]
 n8:Def K "replacement_length" "replacement_length" vn #[mN] t.fL #[B7,t.fL]
 qK:mg "replacement_length"=some #[Cf,t.fL]
 si:Def K "replacement_signs" "replacement_signs" vZ #[gz] t.gg #[B7,t.gg]
 wh:mg "replacement_signs"=some #[Cf,t.gg]
 sX:Def K "shown_afterwards" "shown_afterwards" xb #[a2] t.gE #[B7,t.gE]
 xp:mg "shown_afterwards"=some #[Cf,t.gE]
 t8:Def K "replace_matches" "replace_matches" yI #[a2] t.h8 #[B7,t.h8]
 yS:mg "replace_matches"=some #[Cf,t.h8]
 Ba:Def K "replace_match" "replace_match" AK #[he] t.jJ #[B7,t.jJ]
 Hv:mg "replace_match"=some #[Cf,t.jJ]
 xq:Def K "alike_from_begin" "alike_from_begin" xc #[hF] t.gF #[B7,t.gF]
 DC:mg "alike_from_begin"=some #[Cf,t.gF]
 z0:Def K "alike_from_end" "alike_from_end" zU #[hF] t.i5 #[B7,t.i5]
 Gk:mg "alike_from_end"=some #[Cf,t.i5]
 yd:Def K "positions_to" "positions_to" Cj #[vm] t.kX #[B7,t.kX]
 CA:mg "positions_to"=some #[Cf,t.kX]
 vx:Def K "position_alone" "position_alone" zV #[ox] t.i6 #[B7,t.i6]
 z6:mg "position_alone"=some #[Cf,t.i6]
 uD:Def K "has_position" "has_position" Ck #[eL] t.kY #[B7,t.kY]
 ye:mg "has_position"=some #[Cf,t.kY]
 u5:Def K "without" "without" Mp #[fD] t.sS #[B7,t.sS]
 xr:mg "without"=some #[Cf,t.sS]
 xt:Def K "moved_back" "moved_back" F4 #[bj] t.nT #[B7,t.nT]
 Bb:mg "moved_back"=some #[Cf,t.nT]
 E4:Def K "moved_on" "moved_on" Ko #[bj] t.qI #[B7,t.qI]
 Kw:mg "moved_on"=some #[Cf,t.qI]
 Gm:Def K "first_from" "first_from" F5 #[jN] t.nU #[B7,t.nU]
 MF:mg "first_from"=some #[Cf,t.nU]
 wj:Def K "__init__" "SearchedText.__init__" wa #[n4] t.gh #[B7,t.gh]
 gq:Def K "positions_of" "SearchedText.positions_of" pJ #[kj] t.ee #[B7,t.ee]
 fg:Meth K t.dP "positions_of" t.ee
 k8:Def K "all_positions" "SearchedText.all_positions" oR #[az] t.dU #[B7,t.dU]
 iC:Meth K t.dP "all_positions" t.dU
 l8:Def K "positions_that_fit" "SearchedText.positions_that_fit" l0 #[hD] t.c8 #[B7,t.c8]
 iI:Meth K t.dP "positions_that_fit" t.c8
 lH:Def K "positions_that_show" "SearchedText.positions_that_show" lF #[bZ] t.cW #[B7,t.cW]
 ie:Meth K t.dP "positions_that_show" t.cW
 j9:Def K "word_positions" "SearchedText.word_positions" oK #[az] t.dM #[B7,t.dM]
 g8:Meth K t.dP "word_positions" t.dM
 n9:Def K "word_beginnings" "SearchedText.word_beginnings" nP #[az] t.dC #[B7,t.dC]
 jO:Meth K t.dP "word_beginnings" t.dC
 rR:Def K "word_ends" "SearchedText.word_ends" rG #[az] t.eJ #[B7,t.eJ]
 oa:Meth K t.dP "word_ends" t.eJ
 Gn:Def K "__init__" "Match.__init__" F6 #[cO] t.nV #[B7,t.nV]
 sY:Def K "stretch_of" "Match.stretch_of" xf #[f2] t.gG #[B7,t.gG]
 pM:Meth K t.Match "stretch_of" t.gG
 vV:Def K "__init__" "Step.__init__" IB #[d4] t.px #[B7,t.px]
 yT:Def K "beginnings" "Step.beginnings" yJ #[az] t.h9 #[B7,t.h9]
 t9:Meth K t.Step "beginnings" t.h9
 rS:Def K "beginnings_within" "Step.beginnings_within" rH #[jj] t.eK #[B7,t.eK]
 oe:Meth K t.Step "beginnings_within" t.eK
 Bc:Def K "end_from" "Step.end_from" AL #[a6] t.jK #[B7,t.jK]
 wB:Meth K t.Step "end_from" t.jK
 sJ:Def K "__init__" "Search.__init__" D9 #[hE] t.mr #[B7,t.mr]
 oY:Def K "positions_asked_for" "Search.positions_asked_for" oS #[iD] t.dW #[B7,t.dW]
 k9:Meth K t.Search "positions_asked_for" t.dW
 z7:Def K "step_of" "Search.step_of" zW #[bV] t.i7 #[B7,t.i7]
 vy:Meth K t.Search "step_of" t.i7
 ua:Def K "match_at" "Search.match_at" yK #[a6] t.ia #[B7,t.ia]
 qB:Meth K t.Search "match_at" t.ia
 og:Def K "first_match" "Search.first_match" vo #[a6] t.fM #[B7,t.fM]
 lb:Meth K t.Search "first_match" t.fM
 ng:Def K "matches_from" "Search.matches_from" uo #[a6] t.fw #[B7,t.fw]
 jX:Meth K t.Search "matches_from" t.fw
 CB:Def K "step_of_unit" "step_of_unit" Cm #[fL] t.kZ #[B7,t.kZ]
 Js:mg "step_of_unit"=some #[Cf,t.kZ]
 MG:Def K "runs_of" "runs_of" Mq #[rP] t.sU #[B7,t.sU]
 U5:mg "runs_of"=some #[Cf,t.sU]
 Kx:Def K "author" "author" Pu #[e] t.qs #[B7,t.qs]
 agT:mg "author"=some #[Cf,t.qs]
 NP:Def K "clock" "clock" Tc #[e] t.sC #[B7,t.sC]
 ai8:mg "clock"=some #[Cf,t.sC]
 NQ:Def K "track" "track" Td #[e] t.sE #[B7,t.sE]
 ai9:mg "track"=some #[Cf,t.sE]
 WI:Def K "put" "put" acs #[e] t.zv #[B7,t.zv]
 al9:mg "put"=some #[Cf,t.zv]
 WJ:Def K "cut" "cut" acu #[e] t.zw #[B7,t.zw]
 ama:mg "cut"=some #[Cf,t.zw]
 NR:Def K "paint" "paint" Te #[e] t.sF #[B7,t.sF]
 aja:mg "paint"=some #[Cf,t.sF]
 Hw:Def K "pattern" "pattern" Mr #[e] t.oA #[B7,t.oA]
 aeG:mg "pattern"=some #[Cf,t.oA]
 zE:Def K "replacement" "replacement" Ea #[e] t.io #[B7,t.io]
 VE:mg "replacement"=some #[Cf,t.io]
 Hx:Def K "options" "options" Ms #[e] t.oB #[B7,t.oB]
 aeH:mg "options"=some #[Cf,t.oB]
 Bd:Def K "find_first" "find_first" F7 #[e] t.jk #[B7,t.jk]
 X1:mg "find_first"=some #[Cf,t.jk]
 Be:Def K "tell_match" "tell_match" F8 #[e] t.jl #[B7,t.jl]
 X2:mg "tell_match"=some #[Cf,t.jl]
 yf:Def K "list_matches" "list_matches" Cn #[e] t.gB #[B7,t.gB]
 Tq:mg "list_matches"=some #[Cf,t.gB]
 zF:Def K "replace_one" "replace_one" Eb #[e] t.ip #[B7,t.ip]
 VF:mg "replace_one"=some #[Cf,t.ip]
 zG:Def K "replace_all" "replace_all" zr #[e] t.iq #[B7,t.iq]
 VG:mg "replace_all"=some #[Cf,t.iq]
 De:Def K "paint_all" "paint_all" IC #[e] t.kE #[B7,t.kE]
 Z1:mg "paint_all"=some #[Cf,t.kE]
 Df:Def K "tell_text" "tell_text" ID #[e] t.kG #[B7,t.kG]
 Z2:mg "tell_text"=some #[Cf,t.kG]
 E5:Def K "tell_row" "tell_row" Kp #[e] t.mu #[B7,t.mu]
 acy:mg "tell_row"=some #[Cf,t.mu]
 zH:Def K "tell_change" "tell_change" Ec #[e] t.ir #[B7,t.ir]
 VH:mg "tell_change"=some #[Cf,t.ir]
 jB:Def K "refusal_of_search" "refusal_of_search" wb #[eN] t.gi #[B7,t.gi]
 lV:mg "refusal_of_search"=some #[Cf,t.gi]
 sZ:Def K "match_or_refusal" "match_or_refusal" xg #[l9] t.gH #[B7,t.gH]
 xu:mg "match_or_refusal"=some #[Cf,t.gH]
 mx:Def K "has_too_long_replacement" "has_too_long_replacement" qr #[h4] t.ek #[B7,t.ek]
 qt:mg "has_too_long_replacement"=some #[Cf,t.ek]
 wC:Def K "search_to_end" "search_to_end" AM #[sM] t.jL #[B7,t.jL]
 Bf:mg "search_to_end"=some #[Cf,t.jL]
 Bg:Def K "text_as_shown" "text_as_shown" AN #[i5] t.jM #[B7,t.jM]
 Hy:mg "text_as_shown"=some #[Cf,t.jM]
 z8:Def K "text_as_it_was" "text_as_it_was" vp #[i5] t.i8 #[B7,t.i8]
 Gp:mg "text_as_it_was"=some #[Cf,t.i8]
 Dg:Def K "is_switch" "is_switch" IE #[S] t.pz #[B7,t.pz]
 II:mg "is_switch"=some #[Cf,t.pz]
 vQ:Def K "is_property" "is_property" Ed #[S] t.mw #[B7,t.mw]
 zI:mg "is_property"=some #[Cf,t.mw]
 Bh:Def K "is_value" "is_value" Kq #[S] t.qJ #[B7,t.qJ]
 E6:mg "is_value"=some #[Cf,t.qJ]
 U6:Def K "answers" "answers" Mt #[rR] t.mY #[r8]
 U7:mg "answers"=some #[Cf,t.mY]
def eQ{k g:Str}{v:V}{r:List #[o]}(h:¬g=k):qV k (((g),v)::r)=qV k r:=by have e:(k==g)=false:=beq_eq_false_iff_ne.mpr λz=>h z.symm;simp[qV,e]
abbrev nh(v0 v1:V):List #[o]:=#[vl]
def ni:#[gH].lookup #[kY]=some v0:=id rfl
def iw:#[gH].lookup #[y4]=some v1:=id rfl
def El:c7 "at" y #[gH]=nh v0 y:=id rfl
def mJ:#[gH].lookup ("at_end":Str)=none:=id rfl
def CC:#[gH].lookup ("peek":Str)=none:=id rfl
def bM:#[gH].lookup ("take":Str)=none:=id rfl
def wk:#[gH].lookup ("take_list":Str)=none:=id rfl
def X3:c7 "numbers" v0 #[bT]=#[t1]:=id rfl
def X4:c7 "at" v1 #[t1]=(#[vl]:List #[o]):=id rfl
abbrev ey(v0 v1 v2 v3 v4 v5 v6 v7:V):List #[o]:=#[aM]
def nj:#[k].lookup ("sign":Str)=some v0:=id rfl
def xw:#[k].lookup ("own_look":Str)=some v1:=id rfl
def MH:c7 "own_look" y #[k]=ey v0 y v2 v3 v4 v5 v6 v7:=id rfl
def jb:#[k].lookup ("shown_look":Str)=some v2:=id rfl
def Bi:c7 "shown_look" y #[k]=ey v0 v1 y v3 v4 v5 v6 v7:=id rfl
def lh:#[k].lookup ("insertions":Str)=some v3:=id rfl
def wl:#[k].lookup ("deletions":Str)=some v4:=id rfl
def Ls:c7 "deletions" y #[k]=ey v0 v1 v2 v3 y v5 v6 v7:=id rfl
def g9:#[k].lookup ("pending_by_property":Str)=some v5:=id rfl
def BV:#[k].lookup ("preceding":Str)=some v6:=id rfl
def oP:c7 "preceding" y #[k]=ey v0 v1 v2 v3 v4 v5 y v7:=id rfl
def wm:#[k].lookup ("following":Str)=some v7:=id rfl
def wn:c7 "following" y #[k]=ey v0 v1 v2 v3 v4 v5 v6 y:=id rfl
def E7:#[k].lookup ("enter_row_before":Str)=none:=id rfl
def MI:#[k].lookup ("leave_row":Str)=none:=id rfl
def IJ:#[k].lookup ("paint_at_once":Str)=none:=id rfl
def IK:#[k].lookup ("paint_pending":Str)=none:=id rfl
def IL:#[k].lookup ("borne_changes":Str)=none:=id rfl
def zc:#[k].lookup ("pending_looks":Str)=none:=id rfl
def Z3:c7 "sign" v0 #[bT]=#[px]:=id rfl
def Z4:c7 "own_look" v1 #[px]=#[iP]:=id rfl
def Z5:c7 "shown_look" v2 #[iP]=#[fn]:=id rfl
def Z6:c7 "insertions" v3 #[fn]=#[dk]:=id rfl
def Z7:c7 "deletions" v4 #[dk]=#[cj]:=id rfl
def Z8:c7 "pending_by_property" v5 #[cj]=#[bg]:=id rfl
def Z9:c7 "preceding" v6 #[bg]=#[aS]:=id rfl
def aaa:c7 "following" v7 #[aS]=(#[aM]:List #[o]):=id rfl
abbrev iP(v0 v1 v2 v3:V):List #[o]:=#[gy]
def EB:#[bP].lookup #[Al]=some v0:=id rfl
def Ru:#[bP].lookup ("time":Str)=some v1:=id rfl
def Rv:#[bP].lookup ("kind":Str)=some v2:=id rfl
def yt:#[bP].lookup ("bearer_count":Str)=some v3:=id rfl
def G3:c7 "bearer_count" y #[bP]=iP v0 v1 v2 y:=id rfl
def X5:c7 "author" v0 #[bT]=#[t7]:=id rfl
def X6:c7 "time" v1 #[t7]=#[mh]:=id rfl
def X7:c7 "kind" v2 #[mh]=#[im]:=id rfl
def X8:c7 "bearer_count" v3 #[im]=(#[gy]:List #[o]):=id rfl
abbrev cR(v0 v1 v2 v3 v4 v5:V):List #[o]:=#[de]
def Am:#[n].lookup ("last_end":Str)=some v0:=id rfl
def dc:#[n].lookup ("shown":Str)=some v1:=id rfl
def fN:#[n].lookup ("changes":Str)=some v2:=id rfl
def BW:#[n].lookup #[Al]=some v3:=id rfl
def Lu:c7 "author" y #[n]=cR v0 v1 v2 y v4 v5:=id rfl
def EC:#[n].lookup ("time":Str)=some v4:=id rfl
def N6:c7 "time" y #[n]=cR v0 v1 v2 v3 y v5:=id rfl
def uE:#[n].lookup ("tracking":Str)=some v5:=id rfl
def Jt:c7 "tracking" y #[n]=cR v0 v1 v2 v3 v4 y:=id rfl
def Hz:#[n].lookup ("put":Str)=none:=id rfl
def HA:#[n].lookup ("cut":Str)=none:=id rfl
def ED:#[n].lookup ("paint":Str)=none:=id rfl
def zd:#[n].lookup ("row_pieces":Str)=none:=id rfl
def wD:#[n].lookup ("signs_between":Str)=none:=id rfl
def qL:#[n].lookup ("coming_change":Str)=none:=id rfl
def rT:#[n].lookup ("enter_change":Str)=none:=id rfl
def uF:#[n].lookup ("take_bearer_from":Str)=none:=id rfl
def tf:#[n].lookup ("is_changed_at_once":Str)=none:=id rfl
def MJ:#[n].lookup ("is_own":Str)=none:=id rfl
def E8:#[n].lookup ("look_for_text":Str)=none:=id rfl
def wF:#[n].lookup ("look_for_ends":Str)=none:=id rfl
def Tr:c7 "last_end" v0 #[bT]=#[ua]:=id rfl
def Ts:c7 "shown" v1 #[ua]=#[lW]:=id rfl
def Tt:c7 "changes" v2 #[lW]=#[ho]:=id rfl
def Tu:c7 "author" v3 #[ho]=#[e0]:=id rfl
def Tv:c7 "time" v4 #[e0]=#[dB]:=id rfl
def Tw:c7 "tracking" v5 #[dB]=(#[de]:List #[o]):=id rfl
abbrev c6(v0 v1 v2 v3 v4 v5:V):List #[o]:=#[b5]
def cJ:#[G].lookup ("document":Str)=some v0:=id rfl
def tj:#[G].lookup ("pattern":Str)=some v1:=id rfl
def MK:c7 "pattern" y #[G]=c6 v0 y v2 v3 v4 v5:=id rfl
def gT:#[G].lookup ("replacement":Str)=some v2:=id rfl
def IM:c7 "replacement" y #[G]=c6 v0 v1 y v3 v4 v5:=id rfl
def ML:#[G].lookup ("folding":Str)=some v3:=id rfl
def nk:c7 "folding" y #[G]=c6 v0 v1 v2 y v4 v5:=id rfl
def wG:#[G].lookup ("asked_property":Str)=some v4:=id rfl
def nz:c7 "asked_property" y #[G]=c6 v0 v1 v2 v3 y v5:=id rfl
def IP:#[G].lookup ("asked_value":Str)=some v5:=id rfl
def ze:c7 "asked_value" y #[G]=c6 v0 v1 v2 v3 v4 y:=id rfl
def Gq:c7 "document" v0 #[bT]=#[t9]:=id rfl
def MM:c7 "pattern" v1 #[t9]=#[k4]:=id rfl
def Bj:c7 "replacement" v2 #[k4]=#[gh]:=id rfl
def Gr:c7 "folding" v3 #[gh]=#[d7]:=id rfl
def MN:c7 "asked_property" v4 #[d7]=#[cu]:=id rfl
def X9:c7 "asked_value" v5 #[cu]=(#[b5]:List #[o]):=id rfl
abbrev yg(v0 v1:V):List #[o]:=#[rO]
def pN:#[sP].lookup #[aW]=some v0:=id rfl
def Rw:#[sP].lookup ("denied":Str)=some v1:=id rfl
def acz:c7 "stretches" v0 #[bT]=#[t4]:=id rfl
def acA:c7 "denied" v1 #[t4]=(#[rO]:List #[o]):=id rfl
abbrev fe(v0 v1 v2 v3 v4:V):List #[o]:=#[d3]
def oC:#[cw].lookup ("kind":Str)=some v0:=id rfl
def qu:#[cw].lookup #[d9]=some v1:=id rfl
def Tx:#[cw].lookup ("least":Str)=some v2:=id rfl
def N7:#[cw].lookup ("greatest":Str)=some v3:=id rfl
def Rx:#[cw].lookup ("greedy":Str)=some v4:=id rfl
def acB:c7 "kind" v0 #[bT]=#[py]:=id rfl
def acC:c7 "unit" v1 #[py]=#[j0]:=id rfl
def acD:c7 "least" v2 #[j0]=#[gQ]:=id rfl
def acE:c7 "greatest" v3 #[gQ]=#[ec]:=id rfl
def acF:c7 "greedy" v4 #[ec]=(#[d3]:List #[o]):=id rfl
abbrev Bk(v0 v1:V):List #[o]:=#[ow]
def wH:#[yW].lookup #[j7]=some v0:=id rfl
def oN:#[yW].lookup #[a1]=some v1:=id rfl
def VI:c7 "pattern_items" v0 #[bT]=#[t5]:=id rfl
def VJ:c7 "group_count" v1 #[t5]=(#[ow]:List #[o]):=id rfl
abbrev dS(v0 v1:V):List #[o]:=#[lA]
def mK:#[gN].lookup ("searched_pieces":Str)=some v0:=id rfl
def ig:#[gN].lookup ("positions_by_sign":Str)=some v1:=id rfl
def iD:#[gN].lookup ("positions_of":Str)=none:=id rfl
def tU:#[gN].lookup ("all_positions":Str)=none:=id rfl
def yU:#[gN].lookup ("positions_that_fit":Str)=none:=id rfl
def yh:#[gN].lookup ("positions_that_show":Str)=none:=id rfl
def tm:#[gN].lookup ("word_positions":Str)=none:=id rfl
def As:#[gN].lookup ("word_beginnings":Str)=none:=id rfl
def E9:#[gN].lookup ("word_ends":Str)=none:=id rfl
def DD:c7 "searched_pieces" v0 #[bT]=#[t6]:=id rfl
def MO:c7 "positions_by_sign" v1 #[t6]=(#[lA]:List #[o]):=id rfl
abbrev vz(v0 v1 v2:V):List #[o]:=#[lz]
def oh:#[hI].lookup ("begin":Str)=some v0:=id rfl
def oD:#[hI].lookup ("end":Str)=some v1:=id rfl
def Gs:#[hI].lookup ("groups":Str)=some v2:=id rfl
def BX:#[hI].lookup ("stretch_of":Str)=none:=id rfl
def aab:c7 "begin" v0 #[bT]=#[t3]:=id rfl
def aac:c7 "end" v1 #[t3]=#[mE]:=id rfl
def aad:c7 "groups" v2 #[mE]=(#[lz]:List #[o]):=id rfl
abbrev rl(v0 v1:V):List #[o]:=#[sK]
def vA:#[kq].lookup ("staying":Str)=some v0:=id rfl
def CD:#[kq].lookup ("moves":Str)=some v1:=id rfl
def MP:#[kq].lookup ("beginnings":Str)=none:=id rfl
def Fb:#[kq].lookup ("beginnings_within":Str)=none:=id rfl
def PF:#[kq].lookup ("end_from":Str)=none:=id rfl
def acG:c7 "staying" v0 #[bT]=#[t2]:=id rfl
def acH:c7 "moves" v1 #[t2]=(#[sK]:List #[o]):=id rfl
abbrev u6(v0 v1 v2 v3:V):List #[o]:=#[gC]
def Gu:#[dJ].lookup #[j7]=some v1:=id rfl
def PH:#[dJ].lookup #[B3]=some v2:=id rfl
def u7:#[dJ].lookup ("match_beginnings":Str)=some v3:=id rfl
def DE:#[dJ].lookup ("match_at":Str)=none:=id rfl
def uG:#[dJ].lookup ("first_match":Str)=none:=id rfl
def IQ:#[dJ].lookup #[to]=none:=id rfl
def Ya:c7 "searched" v0 #[bT]=#[t8]:=id rfl
def Yb:c7 "pattern_items" v1 #[t8]=#[pz]:=id rfl
def Yc:c7 "steps" v2 #[pz]=#[jD]:=id rfl
def Yd:c7 "match_beginnings" v3 #[jD]=(#[gC]:List #[o]):=id rfl
section
variable {X:Cx}{x:Str}{n:Int}{pos:Pos}
def FD(a:Gl X x)(h:eL X.mg x n)(hd:#[v]=false:=by decide):PE X #[nH] (tC #[wF]):=by let(t,e):=1 h;exact Je a e #[ke] hd
#where
abbrev WK(K:aA):Sp:=λvs H Q _=>∃(a:ae) (ns:List Int),vs=#[jv]/\a8 K H a #[N]/\ns.length<=17000/\BH ns=true/\∀(H':Hp) (p:ae),H' p=some (.lst ((uU ns).map V.int))->Q #[aI] H'
set_option genInjectivity false in
structure Cv where
 P:cj
 w:cY
 K:aA
 mg:Str->Option ax
 base:cZ
 t:cI
abbrev Cv.G(c:Cv):Prop:=Txt c.K c.mg c.t->ff c.P c.w c.K c.mg c.base tS 11 c.t.mY (fdOf c.K c.t.mY) #[rR] (WK c.K)
def Cv.ne:Nonempty Cv:=⟨(PySem.Challenge.pw_patternedits_s01_answers,PySem.W.aWorld 1,[],λ_=>none,(#[],default),by constructor<;>exact 0)⟩
abbrev c0:Cv:= @Classical.epsilon Cv Cv.ne λc=>¬Cv.G c
def amb(h:Cv.G c0)(c:Cv):Cv.G c:=Classical.byContradiction λn=> @Classical.epsilon_spec Cv (λc=>¬Cv.G c) (c,n) h
abbrev P:cj:=c0.P
abbrev w:cY:=c0.w
abbrev K:aA:=c0.K
abbrev mg:Str->Option ax:=c0.mg
abbrev base:cZ:=c0.base
abbrev t:cI:=c0.t
#print Pe
#where
section
namespace Pe
open PySem PySem.Spec PyProof.Rows L2
def akF{K:aA}{h:cZ}{mg:Str->Option ax}(X:K.In h)(G:h.Ns aC mg)
  {Ry:Tok}
  {N8:Tok}
  {PJ:Tok}
  {Tz:Tok}
  {MQ:Tok}
  {Ye:Tok}
  {VL:Tok}
  {akG:Tok}
  {ajb:Tok}
  {agU:Tok}
  {Yf:Tok}
  {Yg:Tok}
  {aae:Tok}
  {TB:Tok}
  {Rz:Tok}
  {aeI:Tok}
  {aeJ:Tok}
  {aeK:Tok}
  {VM:Tok}
  {aaf:Tok}
  {TC:Tok}
  {aeL:Tok}
  {aeM:Tok}
  {aeN:Tok}
  {Yh:Tok}
  {VN:Tok}
  {ajc:Tok}
  {gI:ae}
  {acI:Tok}
  {acJ:Tok}
  {Yi:Tok}
  {VO:Tok}
  {aag:Tok}
  {Yj:Tok}
  {acK:Tok}
  {TF:Tok}
  {TH:Tok}
  {Yk:Tok}
  {VP:Tok}
  {Yl:Tok}
  {aah:Tok}
  {Ym:Tok}
  {aeO:Tok}
  {VQ:Tok}
  {TJ:Tok}
  {RA:Tok}
  {PK:Tok}
  {aai:Tok}
  {acL:Tok}
  {TK:Tok}
  {Yn:Tok}
  {VR:Tok}
  {RB:Tok}
  {Yo:Tok}
  {M:Tok}
  {Yp:Tok}
  {acM:Tok}
  {aaj:Tok}
  {x4:ae}
  {amc amd ame amf:Tok} {aou:Nat} {aov:Option ae} {aow:Array #[iR]} {ah9:Array jz} {amg:Nat}
  {e:ae}
  {c:ae}
  {j:ae}
  {a:ae}
  {f:ae}
  {N:ae}
  {Ju:ae}
  {w:ae}
  {l:ae}
  {m:ae}
  {b:ae}
  {p:ae}
  {x:ae}
  {d:ae}
  {jt:ae}
  {qR:ae}
  {pd:ae}
  {hU:ae}
  {hW:ae}
  {kQ:ae}
  {nR:ae}
  {gQ:ae}
  {nD:ae}
  {kx:ae}
  {iG:ae}
  {ky:ae}
  {kz:ae}
  {fQ:ae}
  {nS:ae}
  {eD:ae}
  {hX:ae}
  {fm:ae}
  {fq:ae}
  {ft:ae}
  {fu:ae}
  {ph:ae}
  {mm:ae}
  {jI:ae}
  {kR:ae}
  {kT:ae}
  {i4:ae}
  {fv:ae}
  {eE:ae}
  {eF:ae}
  {eR:ae}
  {ea:ae}
  {dJ:ae}
  {hY:ae}
  {eG:ae}
  {eI:ae}
  {mn:ae}
  {pj:ae}
  {pq:ae}
  {kU:ae}
  {ju:ae}
  {kC:ae}
  {nE:ae}
  {AR:ae}
  {nF:ae}
  {mq:ae}
  {kW:ae}
  {hZ:ae}
  {pw:ae}
  {kD:ae}
  {et:ae}
  {l5:ae}
  {qH:ae}
  {l6:ae}
  {l7:ae}
  {nG:ae}
  {sR:ae}
  {gR:ae}
  {fR:ae}
  {nH:ae}
  {gw:ae}
  {fL:ae}
  {gg:ae}
  {gE:ae}
  {h8:ae}
  {jJ:ae}
  {gF:ae}
  {i5:ae}
  {kX:ae}
  {i6:ae}
  {kY:ae}
  {sS:ae}
  {nT:ae}
  {qI:ae}
  {nU:ae}
  {gh:ae}
  {ee:ae}
  {dU:ae}
  {c8:ae}
  {cW:ae}
  {dM:ae}
  {dC:ae}
  {eJ:ae}
  {nV:ae}
  {gG:ae}
  {px:ae}
  {h9:ae}
  {eK:ae}
  {jK:ae}
  {mr:ae}
  {dW:ae}
  {i7:ae}
  {ia:ae}
  {fM:ae}
  {fw:ae}
  {kZ:ae}
  {sU:ae}
  {qs:ae}
  {sC:ae}
  {sE:ae}
  {zv:ae}
  {zw:ae}
  {sF:ae}
  {oA:ae}
  {io:ae}
  {oB:ae}
  {jk:ae}
  {jl:ae}
  {gB:ae}
  {ip:ae}
  {iq:ae}
  {kE:ae}
  {kG:ae}
  {mu:ae}
  {ir:ae}
  {gi:ae}
  {gH:ae}
  {ek:ae}
  {jL:ae}
  {jM:ae}
  {i8:ae}
  {pz:ae}
  {mw:ae}
  {qJ:ae}
  {mY:ae}
  (fZ:aI K aC "PARAGRAPH_END"=some (some (.int 10 Ry)))
  (tX:aI K aC "FIRST_CHARACTER"=some (some (.int 32 N8)))
  (vq:aI K aC "LAST_CHARACTER"=some (some (.int 126 PJ)))
  (uq:aI K aC "LONGEST_TEXT"=some (some (.int 200 Tz)))
  (pK:aI K aC "EXCLAMATION_MARK"=some (some (.int 33 MQ)))
  (AS:aI K aC "LEFT_ROUND"=some (some (.int 40 Ye)))
  (zx:aI K aC "RIGHT_ROUND"=some (some (.int 41 VL)))
  (Rr:aI K aC "STAR"=some (some (.int 42 akG)))
  (NM:aI K aC "COMMA"=some (some (.int 44 ajb)))
  (Gc:aI K aC "HYPHEN"=some (some (.int 45 agU)))
  (ur:aI K aC "DIGIT_ZERO"=some (some (.int 48 Yf)))
  (AU:aI K aC "DIGIT_NINE"=some (some (.int 57 Yg)))
  (C6:aI K aC "LESS_THAN"=some (some (.int 60 aae)))
  (x5:aI K aC "GREATER_THAN"=some (some (.int 62 TB)))
  (wy:aI K aC "QUESTION_MARK"=some (some (.int 63 Rz)))
  (Dy:aI K aC "AT_SIGN"=some (some (.int 64 aeI)))
  (Aj:aI K aC "GREAT_A"=some (some (.int 65 aeJ)))
  (Ho:aI K aC "GREAT_Z"=some (some (.int 90 aeK)))
  (zy:aI K aC "LEFT_SQUARE"=some (some (.int 91 VM)))
  (qS:aI K aC "BACKSLASH"=some (some (.int 92 aaf)))
  (rg:aI K aC "RIGHT_SQUARE"=some (some (.int 93 TC)))
  (Ak:aI K aC "SMALL_A"=some (some (.int 97 aeL)))
  (Dz:aI K aC "SMALL_N"=some (some (.int 110 aeM)))
  (Hq:aI K aC "SMALL_Z"=some (some (.int 122 aeN)))
  (xj:aI K aC "LEFT_CURLY"=some (some (.int 123 Yh)))
  (vJ:aI K aC "RIGHT_CURLY"=some (some (.int 125 VN)))
  (Jm:aI K aC "TILDE"=some (some (.int 126 ajc)))
  (ut:aI K aC "PLAIN_LOOK"=some #[B4,gI])
  (EV:aI K aC "KIND_PUT"=some #[CO,acI])
  (EW:aI K aC "KIND_CUT"=some #[CN,acJ])
  (AV:aI K aC "KIND_PAINT"=some #[Db,Yi])
  (sG:aI K aC "NO_PROPERTY"=some #[CW,VO])
  (tO:aI K aC "ITEM_UNIT"=some #[CO,aag])
  (xk:aI K aC "ITEM_BEGIN"=some #[CN,Yj])
  (AW:aI K aC "ITEM_END"=some #[Db,acK])
  (oU:aI K aC "ITEM_OPENING"=some (some (.int 4 TF)))
  (rh:aI K aC "ITEM_CLOSING"=some (some (.int 5 TH)))
  (AX:aI K aC "MOST_ITEMS"=some (some (.int 40 Yk)))
  (zA:aI K aC "MOST_GROUPS"=some (some (.int 9 VP)))
  (uu:aI K aC "MOST_TIMES"=some #[C6,Yl])
  (qT:aI K aC "PART_SIGN"=some #[CO,aah])
  (AY:aI K aC "PART_GROUP"=some #[CN,Ym])
  (DA:aI K aC "NOWHERE"=some #[CW,aeO])
  (iu:aI K aC "NOT_REFUSED"=some (some (.int 0 VQ)))
  (oV:aI K aC "OUTSIDE_TEXT"=some #[CW,TJ])
  (gJ:aI K aC "OUTSIDE_RANGE"=some (some (.int (-2) RA)))
  (vr:aI K aC "TIME_GOES_BACK"=some (some (.int (-3) PK)))
  (y9:aI K aC "NOT_THERE"=some (some (.int (-4) aai)))
  (vt:aI K aC "TOO_LONG"=some (some (.int (-5) acL)))
  (uv:aI K aC "NO_SUCH_TEXT"=some (some (.int (-6) TK)))
  (AZ:aI K aC "NO_PATTERN"=some (some (.int (-8) Yn)))
  (zB:aI K aC "LAST_AUTHOR"=some #[C6,VR])
  (wz:aI K aC "LAST_PROPERTY"=some #[Db,RB])
  (A5:aI K aC "LAST_VALUE"=some #[C6,Yo])
  (qa:aI K aC "LONGEST_REPLACEMENT"=some (some (.int 2000 M)))
  (xl:aI K aC "MOST_SHOWN"=some (some (.int 2001 Yp)))
  (EX:aI K aC "AS_SHOWN"=some #[CO,acM])
  (C7:aI K aC "AS_IT_WAS"=some #[CN,aaj])
  (NN:aI K aC "CALLS"=some #[B4,x4])
  (amh:aI K aC "all"=some none)
  (ami:aI K aC "any"=some none)
  (aak:aI K aC "enumerate"=some none)
  (amj:aI K aC "len"=some none)
  (akH:aI K aC "list"=some none)
  (amk:aI K aC "min"=some none)
  (ajd:aI K aC "range"=some none)
  (acN:aI K aC "reversed"=some none)
  (agV:aI K aC "sorted"=some none)
  (aml:aI K aC "zip"=some none)
  (Cr:aI K aC "Cursor"=some #[Dc,#[wC]])
  (i9:br K #[wC] "numbers"=some none)
  (pA:br K #[wC] "at"=some none)
  (Jn:aI K aC "Piece"=some #[Dc,#[hu]])
  (jm:br K #[hu] "sign"=some none)
  (ke:br K #[hu] "own_look"=some none)
  (ef:br K #[hu] "shown_look"=some none)
  (fS:br K #[hu] "insertions"=some none)
  (ib:br K #[hu] "deletions"=some none)
  (dF:br K #[hu] "pending_by_property"=some none)
  (fH:br K #[hu] "preceding"=some none)
  (ic:br K #[hu] "following"=some none)
  (Ks:aI K aC "Change"=some #[Dc,#[wB]])
  (qb:br K #[wB] "author"=some none)
  (vK:br K #[wB] "time"=some none)
  (vL:br K #[wB] "kind"=some none)
  (jV:br K #[wB] "bearer_count"=some none)
  (EY:aI K aC "Document"=some #[Dc,#[bh]])
  (lU:br K #[bh] "last_end"=some none)
  (cP:br K #[bh] "shown"=some none)
  (eu:br K #[bh] "changes"=some none)
  (lG:br K #[bh] "author"=some none)
  (nW:br K #[bh] "time"=some none)
  (hL:br K #[bh] "tracking"=some none)
  (Kt:aI K aC "Editor"=some #[i6])
  (cv:br K #[bz] "document"=some none)
  (kf:br K #[bz] "pattern"=some none)
  (el:br K #[bz] "replacement"=some none)
  (mH:br K #[bz] "folding"=some none)
  (fF:br K #[bz] "asked_property"=some none)
  (ja:br K #[bz] "asked_value"=some none)
  (gx:aI K aC "NoPattern"=some #[B4,N])
  (Jo:aI K aC "Unit"=some #[Dc,#[BX]])
  (rJ:br K #[BX] "stretches"=some none)
  (vM:br K #[BX] "denied"=some none)
  (Ge:aI K aC "Item"=some #[Dc,#[ti]])
  (kH:br K #[ti] "kind"=some none)
  (pB:br K #[ti] "unit"=some none)
  (xn:br K #[ti] "least"=some none)
  (sV:br K #[ti] "greatest"=some none)
  (vN:br K #[ti] "greedy"=some none)
  (Ht:aI K aC "Pattern"=some #[Dc,#[co]])
  (iR:br K #[co] "pattern_items"=some none)
  (jW:br K #[co] "group_count"=some none)
  (nX:aI K aC "NoReplacement"=some #[Dc,#[z7]])
  (x6:aI K aC "SearchedText"=some #[Dc,#[nE]])
  (eg:br K #[nE] "searched_pieces"=some none)
  (dh:br K #[nE] "positions_by_sign"=some none)
  (NO:aI K aC "Match"=some #[Dc,#[aI]])
  (jn:br K #[aI] "begin"=some none)
  (kJ:br K #[aI] "end"=some none)
  (ri:br K #[aI] "groups"=some none)
  (Gf:aI K aC "Step"=some #[Dc,#[ht]])
  (mZ:br K #[ht] "staying"=some none)
  (rL:br K #[ht] "moves"=some none)
  (zY:aI K aC "Search"=some #[Dc,#[iV]])
  (fI:br K #[iV] "searched"=some none)
  (jv:br K #[iV] "pattern_items"=some none)
  (oX:br K #[iV] "steps"=some none)
  (gY:br K #[iV] "match_beginnings"=some none)
  (TM:aI K aC "is_character"=some #[B4,jt])
  (aeP:aI K aC "is_sign"=some #[B4,qR])
  (acO:aI K aC "is_digit"=some #[B4,pd])
  (N9:aI K aC "is_great_letter"=some #[B4,hU])
  (Oa:aI K aC "is_small_letter"=some #[B4,hW])
  (TN:aI K aC "is_word_sign"=some #[B4,kQ])
  (Yq:aI K aC "other_case"=some #[B4,nR])
  (PL:aI K aC "are_characters"=some #[B4,gQ])
  (aal:aI K aC "are_signs"=some #[B4,nD])
  (aam:aI K aC "look_with"=some #[B4,ph])
  (TQ:aI K aC "read_pattern"=some #[B4,ju])
  (VS:aI K aC "read_groups"=some #[B4,kC])
  (aan:aI K aC "read_item"=some #[B4,nE])
  (akI:aI K aC "mark"=some #[B4,AR])
  (aao:aI K aC "read_unit"=some #[B4,nF])
  (VT:aI K aC "unit_of_any"=some #[B4,mq])
  (TR:aI K aC "unit_of_sign"=some #[B4,kW])
  (Ob:aI K aC "unit_of_escaped"=some #[B4,hZ])
  (acP:aI K aC "read_set"=some #[B4,pw])
  (VU:aI K aC "read_member"=some #[B4,kD])
  (I:aI K aC "read_member_character"=some #[B4,et])
  (Yr:aI K aC "read_times"=some #[B4,l5])
  (acQ:aI K aC "read_way"=some #[B4,qH])
  (Ys:aI K aC "read_count"=some #[B4,l6])
  (Yt:aI K aC "take_digit"=some #[B4,l7])
  (aap:aI K aC "take_only"=some #[B4,nG])
  (aeQ:aI K aC "take_if"=some #[B4,sR])
  (PM:aI K aC "take_character"=some #[B4,gR])
  (MR:aI K aC "read_replacement"=some #[B4,fR])
  (aaq:aI K aC "read_part"=some #[B4,nH])
  (Oc:aI K aC "part_of_escaped"=some #[B4,gw])
  (U:aI K aC "replacement_length"=some #[B4,fL])
  (Z:aI K aC "replacement_signs"=some #[B4,gg])
  (MS:aI K aC "shown_afterwards"=some #[B4,gE])
  (Od:aI K aC "replace_matches"=some #[B4,h8])
  (RC:aI K aC "replace_match"=some #[B4,jJ])
  (MT:aI K aC "alike_from_begin"=some #[B4,gF])
  (PN:aI K aC "alike_from_end"=some #[B4,i5])
  (TU:aI K aC "positions_to"=some #[B4,kX])
  (PP:aI K aC "position_alone"=some #[B4,i6])
  (TV:aI K aC "has_position"=some #[B4,kY])
  (aeR:aI K aC "without"=some #[B4,sS])
  (Yu:aI K aC "moved_back"=some #[B4,nT])
  (acR:aI K aC "moved_on"=some #[B4,qI])
  (Yv:aI K aC "first_from"=some #[B4,nU])
  (TX:aI K aC "step_of_unit"=some #[B4,kZ])
  (aeS:aI K aC "runs_of"=some #[B4,sU])
  (agW:aI K aC "author"=some #[B4,qs])
  (aje:aI K aC "clock"=some #[B4,sC])
  (ajf:aI K aC "track"=some #[B4,sE])
  (amm:aI K aC "put"=some #[B4,zv])
  (amn:aI K aC "cut"=some #[B4,zw])
  (ajg:aI K aC "paint"=some #[B4,sF])
  (aeT:aI K aC "pattern"=some #[B4,oA])
  (VV:aI K aC "replacement"=some #[B4,io])
  (aeU:aI K aC "options"=some #[B4,oB])
  (Yw:aI K aC "find_first"=some #[B4,jk])
  (Yx:aI K aC "tell_match"=some #[B4,jl])
  (TY:aI K aC "list_matches"=some #[B4,gB])
  (VW:aI K aC "replace_one"=some #[B4,ip])
  (VX:aI K aC "replace_all"=some #[B4,iq])
  (aar:aI K aC "paint_all"=some #[B4,kE])
  (aas:aI K aC "tell_text"=some #[B4,kG])
  (acS:aI K aC "tell_row"=some #[B4,mu])
  (VY:aI K aC "tell_change"=some #[B4,ir])
  (Lv:aI K aC "refusal_of_search"=some #[B4,gi])
  (MU:aI K aC "match_or_refusal"=some #[B4,gH])
  (y:aI K aC "has_too_long_replacement"=some #[B4,ek])
  (RD:aI K aC "search_to_end"=some #[B4,jL])
  (RE:aI K aC "text_as_shown"=some #[B4,jM])
  (PQ:aI K aC "text_as_it_was"=some #[B4,i8])
  (aat:aI K aC "is_switch"=some #[B4,pz])
  (VZ:aI K aC "is_property"=some #[B4,mw])
  (acT:aI K aC "is_value"=some #[B4,qJ])
  (aeV:aI K aC "answers"=some #[B4,mY])
  (Al:Mk K e kx)
  (Gd:Mk K c nS)
  (Hr:Mk K j mm)
  (C8:Mk K a jI)
  (Hs:Mk K f mn)
  (FC:Mk K Ju pj)
  (Cs:Mk K w pq)
  (EZ:Mk K l kU)
  (wA:Mk K b gh)
  (Ku:Mk K p nV)
  (Ct:Mk K x px)
  (xo:Mk K d mr)
  (bP:ka K e)
  (b8:ka K c)
  (qU:ka K j)
  (bo:ka K a)
  (cg:ka K f)
  (FB:ka K Ju)
  (oW:ka K w)
  (vu:ka K l)
  (cE:ka K b)
  (iA:ka K p)
  (qc:ka K x)
  (dQ:ka K d)
  (iH:Meth K e "at_end" iG)
  (vP:Meth K e "peek" ky)
  (bU:Meth K e "take" kz)
  (m6:Meth K e "take_list" fQ)
  (nY:Meth K c "enter_row_before" eD)
  (t5:Meth K c "leave_row" hX)
  (qd:Meth K c "paint_at_once" fm)
  (qe:Meth K c "paint_pending" fq)
  (qf:Meth K c "borne_changes" ft)
  (m7:Meth K c "pending_looks" fu)
  (uz:Meth K a "put" kR)
  (uA:Meth K a "cut" kT)
  (rN:Meth K a "paint" i4)
  (m8:Meth K a "row_pieces" fv)
  (kg:Meth K a "signs_between" eE)
  (iB:Meth K a "coming_change" eF)
  (iS:Meth K a "enter_change" eR)
  (iO:Meth K a "take_bearer_from" ea)
  (g7:Meth K a "is_changed_at_once" dJ)
  (t6:Meth K a "is_own" hY)
  (n0:Meth K a "look_for_text" eG)
  (n6:Meth K a "look_for_ends" eI)
  (fg:Meth K b "positions_of" ee)
  (iC:Meth K b "all_positions" dU)
  (iI:Meth K b "positions_that_fit" c8)
  (ie:Meth K b "positions_that_show" cW)
  (g8:Meth K b "word_positions" dM)
  (jO:Meth K b "word_beginnings" dC)
  (oa:Meth K b "word_ends" eJ)
  (pM:Meth K p "stretch_of" gG)
  (t9:Meth K x "beginnings" h9)
  (oe:Meth K x "beginnings_within" eK)
  (wB:Meth K x "end_from" jK)
  (k9:Meth K d "positions_asked_for" dW)
  (vy:Meth K d "step_of" i7)
  (qB:Meth K d "match_at" ia)
  (lb:Meth K d "first_match" fM)
  (jX:Meth K d "matches_from" fw)
  (TZ:FnAt K "is_character" "is_character" Cb jt)
  (aeW:FnAt K "is_sign" "is_sign" Mn qR)
  (acU:FnAt K "is_digit" "is_digit" Kk pd)
  (Oe:FnAt K "is_great_letter" "is_great_letter" yC hU)
  (Of:FnAt K "is_small_letter" "is_small_letter" yD hW)
  (T1:FnAt K "is_word_sign" "is_word_sign" Cc kQ)
  (Yy:FnAt K "other_case" "other_case" FZ nR)
  (PR:FnAt K "are_characters" "are_characters" vm gQ)
  (aau:FnAt K "are_signs" "are_signs" C5 nD)
  (V0:FnAt K "__init__" "Cursor.__init__" D1 kx)
  (RF:FnAt K "at_end" "Cursor.at_end" AI iG)
  (V1:FnAt K "peek" "Cursor.peek" D2 ky)
  (V2:FnAt K "take" "Cursor.take" D3 kz)
  (MV:FnAt K "take_list" "Cursor.take_list" w6 fQ)
  (Yz:FnAt K "__init__" "Piece.__init__" F0 nS)
  (A:FnAt K "enter_row_before" "Piece.enter_row_before" rC eD)
  (Og:FnAt K "leave_row" "Piece.leave_row" yE hX)
  (O:FnAt K "paint_at_once" "Piece.paint_at_once" p7 fm)
  (P:FnAt K "paint_pending" "Piece.paint_pending" uj fq)
  (Q:FnAt K "borne_changes" "Piece.borne_changes" p8 ft)
  (R:FnAt K "pending_looks" "Piece.pending_looks" uk fu)
  (aav:FnAt K "look_with" "look_with" Ir ph)
  (V3:FnAt K "__init__" "Change.__init__" D4 mm)
  (RG:FnAt K "__init__" "Document.__init__" AJ jI)
  (T2:FnAt K "put" "Document.put" Cd kR)
  (T3:FnAt K "cut" "Document.cut" Ce kT)
  (PU:FnAt K "paint" "Document.paint" zS i4)
  (S:FnAt K "row_pieces" "Document.row_pieces" um fv)
  (B:FnAt K "signs_between" "Document.signs_between" nO eE)
  (C:FnAt K "coming_change" "Document.coming_change" rD eF)
  (J:FnAt K "enter_change" "Document.enter_change" sr eR)
  (u:FnAt K "take_bearer_from" "Document.take_bearer_from" pI ea)
  (n:FnAt K "is_changed_at_once" "Document.is_changed_at_once" oJ dJ)
  (Oh:FnAt K "is_own" "Document.is_own" yF hY)
  (D:FnAt K "look_for_text" "Document.look_for_text" rE eG)
  (E:FnAt K "look_for_ends" "Document.look_for_ends" rF eI)
  (V4:FnAt K "__init__" "Editor.__init__" D5 mn)
  (aaw:FnAt K "__init__" "Unit.__init__" Iu pj)
  (aax:FnAt K "__init__" "Item.__init__" Iv pq)
  (T4:FnAt K "__init__" "Pattern.__init__" Cf kU)
  (T5:FnAt K "read_pattern" "read_pattern" Cg ju)
  (V5:FnAt K "read_groups" "read_groups" D6 kC)
  (aay:FnAt K "read_item" "read_item" Iw nE)
  (akJ:FnAt K "mark" "mark" XR AR)
  (aaz:FnAt K "read_unit" "read_unit" Iy nF)
  (V6:FnAt K "unit_of_any" "unit_of_any" D7 mq)
  (T6:FnAt K "unit_of_sign" "unit_of_sign" Ci kW)
  (Oi:FnAt K "unit_of_escaped" "unit_of_escaped" yG hZ)
  (acV:FnAt K "read_set" "read_set" Kl pw)
  (V7:FnAt K "read_member" "read_member" D8 kD)
  (L:FnAt K "read_member_character" "read_member_character" su et)
  (YA:FnAt K "read_times" "read_times" F1 l5)
  (acW:FnAt K "read_way" "read_way" Km qH)
  (YB:FnAt K "read_count" "read_count" F2 l6)
  (YC:FnAt K "take_digit" "take_digit" F3 l7)
  (aaA:FnAt K "take_only" "take_only" Iz nG)
  (aeX:FnAt K "take_if" "take_if" Mo sR)
  (PV:FnAt K "take_character" "take_character" zT gR)
  (MW:FnAt K "read_replacement" "read_replacement" xa fR)
  (aaB:FnAt K "read_part" "read_part" IA nH)
  (Oj:FnAt K "part_of_escaped" "part_of_escaped" yH gw)
  (V:FnAt K "replacement_length" "replacement_length" vn fL)
  (Lw:FnAt K "replacement_signs" "replacement_signs" vZ gg)
  (MX:FnAt K "shown_afterwards" "shown_afterwards" xb gE)
  (Ol:FnAt K "replace_matches" "replace_matches" yI h8)
  (RH:FnAt K "replace_match" "replace_match" AK jJ)
  (MY:FnAt K "alike_from_begin" "alike_from_begin" xc gF)
  (PX:FnAt K "alike_from_end" "alike_from_end" zU i5)
  (T7:FnAt K "positions_to" "positions_to" Cj kX)
  (PY:FnAt K "position_alone" "position_alone" zV i6)
  (T8:FnAt K "has_position" "has_position" Ck kY)
  (aeY:FnAt K "without" "without" Mp sS)
  (YD:FnAt K "moved_back" "moved_back" F4 nT)
  (acX:FnAt K "moved_on" "moved_on" Ko qI)
  (YE:FnAt K "first_from" "first_from" F5 nU)
  (Lx:FnAt K "__init__" "SearchedText.__init__" wa gh)
  (v:FnAt K "positions_of" "SearchedText.positions_of" pJ ee)
  (q:FnAt K "all_positions" "SearchedText.all_positions" oR dU)
  (i:FnAt K "positions_that_fit" "SearchedText.positions_that_fit" l0 c8)
  (g:FnAt K "positions_that_show" "SearchedText.positions_that_show" lF cW)
  (o:FnAt K "word_positions" "SearchedText.word_positions" oK dM)
  (k:FnAt K "word_beginnings" "SearchedText.word_beginnings" nP dC)
  (F:FnAt K "word_ends" "SearchedText.word_ends" rG eJ)
  (YF:FnAt K "__init__" "Match.__init__" F6 nV)
  (MZ:FnAt K "stretch_of" "Match.stretch_of" xf gG)
  (aaC:FnAt K "__init__" "Step.__init__" IB px)
  (Om:FnAt K "beginnings" "Step.beginnings" yJ h9)
  (H:FnAt K "beginnings_within" "Step.beginnings_within" rH eK)
  (RI:FnAt K "end_from" "Step.end_from" AL jK)
  (V8:FnAt K "__init__" "Search.__init__" D9 mr)
  (r:FnAt K "positions_asked_for" "Search.positions_asked_for" oS dW)
  (PZ:FnAt K "step_of" "Search.step_of" zW i7)
  (On:FnAt K "match_at" "Search.match_at" yK ia)
  (Y:FnAt K "first_match" "Search.first_match" vo fM)
  (T:FnAt K "matches_from" "Search.matches_from" uo fw)
  (T9:FnAt K "step_of_unit" "step_of_unit" Cm kZ)
  (aeZ:FnAt K "runs_of" "runs_of" Mq sU)
  (agX:FnAt K "author" "author" Pu qs)
  (ajh:FnAt K "clock" "clock" Tc sC)
  (aji:FnAt K "track" "track" Td sE)
  (amo:FnAt K "put" "put" acs zv)
  (amq:FnAt K "cut" "cut" acu zw)
  (ajj:FnAt K "paint" "paint" Te sF)
  (ae0:FnAt K "pattern" "pattern" Mr oA)
  (V9:FnAt K "replacement" "replacement" Ea io)
  (ae1:FnAt K "options" "options" Ms oB)
  (YG:FnAt K "find_first" "find_first" F7 jk)
  (YH:FnAt K "tell_match" "tell_match" F8 jl)
  (Ua:FnAt K "list_matches" "list_matches" Cn gB)
  (Wa:FnAt K "replace_one" "replace_one" Eb ip)
  (Wb:FnAt K "replace_all" "replace_all" zr iq)
  (aaD:FnAt K "paint_all" "paint_all" IC kE)
  (aaE:FnAt K "tell_text" "tell_text" ID kG)
  (acY:FnAt K "tell_row" "tell_row" Kp mu)
  (Wc:FnAt K "tell_change" "tell_change" Ec ir)
  (Ly:FnAt K "refusal_of_search" "refusal_of_search" wb gi)
  (M0:FnAt K "match_or_refusal" "match_or_refusal" xg gH)
  (z:FnAt K "has_too_long_replacement" "has_too_long_replacement" qr ek)
  (RJ:FnAt K "search_to_end" "search_to_end" AM jL)
  (RK:FnAt K "text_as_shown" "text_as_shown" AN jM)
  (P1:FnAt K "text_as_it_was" "text_as_it_was" vp i8)
  (aaF:FnAt K "is_switch" "is_switch" IE pz)
  (Wd:FnAt K "is_property" "is_property" Ed mw)
  (acZ:FnAt K "is_value" "is_value" Kq qJ)
  (U8:FnAt K "answers" "answers" Mt mY)
  (aox:K.lookup gI=some (.type "tuple",aov,.seq #[.int 0 amc,.int 0 amd,.int 0 ame,.int 0 amf] aou,aow))
  (aoy:K.lookup x4=some (.type "dict",none,.dict ah9 amg,#[]))
  (ac0:aeF K c=true)
  (aaG:acq K N=true)
  (RL:acq K m=true)
  (aoz:intsOf ah9.toList=some [((0),.ref qs),((1),.ref sC),((2),.ref sE),((3),.ref zv),((4),.ref zw),((5),.ref sF),((6),.ref oA),((7),.ref io),((8),.ref oB),((9),.ref jk),((10),.ref jl),((11),.ref gB),((12),.ref ip),((13),.ref iq),((14),.ref kE),((15),.ref kG),((16),.ref mu),((17),.ref ir)])
  :∃t,Txt K mg t/\∀(s:aL) (us:List ax),us.length=#[c6].length->Ar s #[r8] #[dE] #[rj]:=
 ({gI:=gI,x4:=x4,Cursor:=e,Piece:=c,Change:=j,dg:=a,fP:=f,u4:=N,Unit:=Ju,Item:=w,Pattern:=l,oz:=m,dP:=b,Match:=p,Step:=x,Search:=d,jt:=jt,qR:=qR,pd:=pd,hU:=hU,hW:=hW,kQ:=kQ,nR:=nR,gQ:=gQ,nD:=nD,kx:=kx,iG:=iG,ky:=ky,kz:=kz,fQ:=fQ,nS:=nS,eD:=eD,hX:=hX,fm:=fm,fq:=fq,ft:=ft,fu:=fu,ph:=ph,mm:=mm,jI:=jI,kR:=kR,kT:=kT,i4:=i4,fv:=fv,eE:=eE,eF:=eF,eR:=eR,ea:=ea,dJ:=dJ,hY:=hY,eG:=eG,eI:=eI,mn:=mn,pj:=pj,pq:=pq,kU:=kU,ju:=ju,kC:=kC,nE:=nE,AR:=AR,nF:=nF,mq:=mq,kW:=kW,hZ:=hZ,pw:=pw,kD:=kD,et:=et,l5:=l5,qH:=qH,l6:=l6,l7:=l7,nG:=nG,sR:=sR,gR:=gR,fR:=fR,nH:=nH,gw:=gw,fL:=fL,gg:=gg,gE:=gE,h8:=h8,jJ:=jJ,gF:=gF,i5:=i5,kX:=kX,i6:=i6,kY:=kY,sS:=sS,nT:=nT,qI:=qI,nU:=nU,gh:=gh,ee:=ee,dU:=dU,c8:=c8,cW:=cW,dM:=dM,dC:=dC,eJ:=eJ,nV:=nV,gG:=gG,px:=px,h9:=h9,eK:=eK,jK:=jK,mr:=mr,dW:=dW,i7:=i7,ia:=ia,fM:=fM,fw:=fw,kZ:=kZ,sU:=sU,qs:=qs,sC:=sC,sE:=sE,zv:=zv,zw:=zw,sF:=sF,oA:=oA,io:=io,oB:=oB,jk:=jk,jl:=jl,gB:=gB,ip:=ip,iq:=iq,kE:=kE,kG:=kG,mu:=mu,ir:=ir,gi:=gi,gH:=gH,ek:=ek,jL:=jL,jM:=jM,i8:=i8,pz:=pz,mw:=mw,qJ:=qJ,mY:=mY},{fZ:=#[B5,fZ],tX:=#[B5,tX],vq:=#[B5,vq],uq:=#[B5,uq],pK:=#[B5,pK],AS:=#[B5,AS],zx:=#[B5,zx],Rr:=#[B5,Rr],NM:=#[B5,NM],Gc:=#[B5,Gc],ur:=#[B5,ur],AU:=#[B5,AU],C6:=#[B5,C6],x5:=#[B5,x5],wy:=#[B5,wy],Dy:=#[B5,Dy],Aj:=#[B5,Aj],Ho:=#[B5,Ho],zy:=#[B5,zy],qS:=#[B5,qS],rg:=#[B5,rg],Ak:=#[B5,Ak],Dz:=#[B5,Dz],Hq:=#[B5,Hq],xj:=#[B5,xj],vJ:=#[B5,vJ],Jm:=#[B5,Jm],ut:=aF X G ut,EV:=#[B5,EV],EW:=#[B5,EW],AV:=#[B5,AV],sG:=#[B5,sG],tO:=#[B5,tO],xk:=#[B5,xk],AW:=#[B5,AW],oU:=#[B5,oU],rh:=#[B5,rh],AX:=#[B5,AX],zA:=#[B5,zA],uu:=#[B5,uu],qT:=#[B5,qT],AY:=#[B5,AY],DA:=#[B5,DA],iu:=#[B5,iu],oV:=#[B5,oV],gJ:=#[B5,gJ],vr:=#[B5,vr],y9:=#[B5,y9],vt:=#[B5,vt],uv:=#[B5,uv],AZ:=#[B5,AZ],zB:=#[B5,zB],wz:=#[B5,wz],A5:=#[B5,A5],qa:=#[B5,qa],xl:=#[B5,xl],EX:=#[B5,EX],C7:=#[B5,C7],NN:=aF X G NN,pl:=(_,_,_,_,_,_,aox,rfl,rfl),cls:=(_,_,aoy,aoz),all:=jg X G amh,any:=jg X G ami,enumerate:=jg X G aak,len:=jg X G amj,list:=jg X G akH,min:=jg X G amk,range:=jg X G ajd,reversed:=jg X G acN,sorted:=jg X G agV,zip:=jg X G aml,Cr:=aF X G Cr,i9:=i9,pA:=pA,Jn:=aF X G Jn,jm:=jm,ke:=ke,ef:=ef,fS:=fS,ib:=ib,dF:=dF,fH:=fH,ic:=ic,Ks:=aF X G Ks,qb:=qb,vK:=vK,vL:=vL,jV:=jV,EY:=aF X G EY,lU:=lU,cP:=cP,eu:=eu,lG:=lG,nW:=nW,hL:=hL,Kt:=aF X G Kt,cv:=cv,kf:=kf,el:=el,mH:=mH,fF:=fF,ja:=ja,gx:=aF X G gx,Jo:=aF X G Jo,rJ:=rJ,vM:=vM,Ge:=aF X G Ge,kH:=kH,pB:=pB,xn:=xn,sV:=sV,vN:=vN,Ht:=aF X G Ht,iR:=iR,jW:=jW,nX:=aF X G nX,x6:=aF X G x6,eg:=eg,dh:=dh,NO:=aF X G NO,jn:=jn,kJ:=kJ,ri:=ri,Gf:=aF X G Gf,mZ:=mZ,rL:=rL,zY:=aF X G zY,fI:=fI,jv:=jv,oX:=oX,gY:=gY,Cu:=aF X G TM,U4:=aF X G aeP,A6:=aF X G acO,yN:=aF X G N9,yO:=aF X G Oa,Jp:=aF X G TN,MC:=aF X G Yq,zZ:=aF X G PL,OJ:=aF X G aal,C9:=aF X G aam,Jq:=aF X G TQ,Lg:=aF X G VS,OK:=aF X G aan,MD:=aF X G akI,OL:=aF X G aao,Ej:=aF X G VT,Cz:=aF X G TR,Ez:=aF X G Ob,Rt:=aF X G acP,Ek:=aF X G VU,sv:=aF X G I,ME:=aF X G Yr,Kv:=aF X G acQ,Gi:=aF X G Ys,Gj:=aF X G Yt,IH:=aF X G aap,m9:=aF X G aeQ,rQ:=aF X G PM,DB:=aF X G MR,OM:=aF X G aaq,EA:=aF X G Oc,qK:=aF X G U,wh:=aF X G Z,xp:=aF X G MS,yS:=aF X G Od,Hv:=aF X G RC,DC:=aF X G MT,Gk:=aF X G PN,CA:=aF X G TU,z6:=aF X G PP,ye:=aF X G TV,xr:=aF X G aeR,Bb:=aF X G Yu,Kw:=aF X G acR,MF:=aF X G Yv,Js:=aF X G TX,U5:=aF X G aeS,agT:=aF X G agW,ai8:=aF X G aje,ai9:=aF X G ajf,al9:=aF X G amm,ama:=aF X G amn,aja:=aF X G ajg,aeG:=aF X G aeT,VE:=aF X G VV,aeH:=aF X G aeU,X1:=aF X G Yw,X2:=aF X G Yx,Tq:=aF X G TY,VF:=aF X G VW,VG:=aF X G VX,Z1:=aF X G aar,Z2:=aF X G aas,acy:=aF X G acS,VH:=aF X G VY,lV:=aF X G Lv,xu:=aF X G MU,qt:=aF X G y,Bf:=aF X G RD,Hy:=aF X G RE,Gp:=aF X G PQ,II:=aF X G aat,zI:=aF X G VZ,E6:=aF X G acT,U7:=aF X G aeV,Al:=Al,Gd:=Gd,Hr:=Hr,C8:=C8,Hs:=Hs,FC:=FC,Cs:=Cs,EZ:=EZ,wA:=wA,Ku:=Ku,Ct:=Ct,xo:=xo,bP:=bP,b8:=b8,qU:=qU,bo:=bo,cg:=cg,FB:=FB,oW:=oW,vu:=vu,cE:=cE,iA:=iA,qc:=qc,dQ:=dQ,iH:=iH,vP:=vP,bU:=bU,m6:=m6,nY:=nY,t5:=t5,qd:=qd,qe:=qe,qf:=qf,m7:=m7,uz:=uz,uA:=uA,rN:=rN,m8:=m8,kg:=kg,iB:=iB,iS:=iS,iO:=iO,g7:=g7,t6:=t6,n0:=n0,n6:=n6,fg:=fg,iC:=iC,iI:=iI,ie:=ie,g8:=g8,jO:=jO,oa:=oa,pM:=pM,t9:=t9,oe:=oe,wB:=wB,k9:=k9,vy:=vy,qB:=qB,lb:=lb,jX:=jX,rj:=TZ.cb λ_ _ _ _ _ _ _=>rfl,Hu:=aeW.cb λ_ _ _ _ _ _ _=>rfl,x8:=acU.cb λ_ _ _ _ _ _ _=>rfl,tY:=Oe.cb λ_ _ _ _ _ _ _=>rfl,tZ:=Of.cb λ_ _ _ _ _ _ _=>rfl,Cw:=T1.cb λ_ _ _ _ _ _ _=>rfl,Gg:=Yy.cb λ_ _ _ _ _ _ _=>rfl,vv:=PR.cb λ_ _ _ _ _ _ _=>rfl,IG:=aau.cb λ_ _ _ _ _ _ _=>rfl,vO:=V0.cb λ_ _ _ _ _ _ _=>rfl,jN:=RF.cb λ_ _ _ _ _ _ _=>rfl,zC:=V1.cb λ_ _ _ _ _ _ _=>rfl,bY:=V2.cb λ_ _ _ _ _ _ _=>rfl,pL:=MV.cb λ_ _ _ _ _ _ _=>rfl,A7:=Yz.cb λ_ _ _ _ _ _ _=>rfl,rM:=A.cb λ_ _ _ _ _ _ _=>rfl,yP:=Og.cb λ_ _ _ _ _ _ _=>rfl,uw:=O.cb λ_ _ _ _ _ _ _=>rfl,ux:=P.cb λ_ _ _ _ _ _ _=>rfl,uy:=Q.cb λ_ _ _ _ _ _ _=>rfl,qg:=R.cb λ_ _ _ _ _ _ _=>rfl,za:=aav.cb λ_ _ _ _ _ _ _=>rfl,Eh:=V3.cb λ_ _ _ _ _ _ _=>rfl,A8:=RG.cb λ_ _ _ _ _ _ _=>rfl,x9:=T2.cb λ_ _ _ _ _ _ _=>rfl,ya:=T3.cb λ_ _ _ _ _ _ _=>rfl,vw:=PU.cb λ_ _ _ _ _ _ _=>rfl,qh:=S.cb λ_ _ _ _ _ _ _=>rfl,nZ:=B.cb λ_ _ _ _ _ _ _=>rfl,kh:=C.cb λ_ _ _ _ _ _ _=>rfl,ly:=J.cb λ_ _ _ _ _ _ _=>rfl,lL:=u.cb λ_ _ _ _ _ _ _=>rfl,j8:=n.cb λ_ _ _ _ _ _ _=>rfl,yQ:=Oh.cb λ_ _ _ _ _ _ _=>rfl,rO:=D.cb λ_ _ _ _ _ _ _=>rfl,rP:=E.cb λ_ _ _ _ _ _ _=>rfl,Ei:=V4.cb λ_ _ _ _ _ _ _=>rfl,zb:=aaw.cb λ_ _ _ _ _ _ _=>rfl,vT:=aax.cb λ_ _ _ _ _ _ _=>rfl,Cy:=T4.cb λ_ _ _ _ _ _ _=>rfl,yb:=T5.cb λ_ _ _ _ _ _ _=>rfl,zD:=V5.cb λ_ _ _ _ _ _ _=>rfl,Da:=aay.cb λ_ _ _ _ _ _ _=>rfl,Jr:=akJ.cb λ_ _ _ _ _ _ _=>rfl,Dc:=aaz.cb λ_ _ _ _ _ _ _=>rfl,sH:=V6.cb λ_ _ _ _ _ _ _=>rfl,yc:=T6.cb λ_ _ _ _ _ _ _=>rfl,yR:=Oi.cb λ_ _ _ _ _ _ _=>rfl,E2:=acV.cb λ_ _ _ _ _ _ _=>rfl,sI:=V7.cb λ_ _ _ _ _ _ _=>rfl,iT:=L.cb λ_ _ _ _ _ _ _=>rfl,A9:=YA.cb λ_ _ _ _ _ _ _=>rfl,E3:=acW.cb λ_ _ _ _ _ _ _=>rfl,uB:=YB.cb λ_ _ _ _ _ _ _=>rfl,uC:=YC.cb λ_ _ _ _ _ _ _=>rfl,vU:=aaA.cb λ_ _ _ _ _ _ _=>rfl,lM:=aeX.cb λ_ _ _ _ _ _ _=>rfl,gS:=PV.cb λ_ _ _ _ _ _ _=>rfl,sW:=MW.cb λ_ _ _ _ _ _ _=>rfl,Dd:=aaB.cb λ_ _ _ _ _ _ _=>rfl,t7:=Oj.cb λ_ _ _ _ _ _ _=>rfl,n8:=V.cb λ_ _ _ _ _ _ _=>rfl,si:=Lw.cb λ_ _ _ _ _ _ _=>rfl,sX:=MX.cb λ_ _ _ _ _ _ _=>rfl,t8:=Ol.cb λ_ _ _ _ _ _ _=>rfl,Ba:=RH.cb λ_ _ _ _ _ _ _=>rfl,xq:=MY.cb λ_ _ _ _ _ _ _=>rfl,z0:=PX.cb λ_ _ _ _ _ _ _=>rfl,yd:=T7.cb λ_ _ _ _ _ _ _=>rfl,vx:=PY.cb λ_ _ _ _ _ _ _=>rfl,uD:=T8.cb λ_ _ _ _ _ _ _=>rfl,u5:=aeY.cb λ_ _ _ _ _ _ _=>rfl,xt:=YD.cb λ_ _ _ _ _ _ _=>rfl,E4:=acX.cb λ_ _ _ _ _ _ _=>rfl,Gm:=YE.cb λ_ _ _ _ _ _ _=>rfl,wj:=Lx.cb λ_ _ _ _ _ _ _=>rfl,gq:=v.cb λ_ _ _ _ _ _ _=>rfl,k8:=q.cb λ_ _ _ _ _ _ _=>rfl,l8:=i.cb λ_ _ _ _ _ _ _=>rfl,lH:=g.cb λ_ _ _ _ _ _ _=>rfl,j9:=o.cb λ_ _ _ _ _ _ _=>rfl,n9:=k.cb λ_ _ _ _ _ _ _=>rfl,rR:=F.cb λ_ _ _ _ _ _ _=>rfl,Gn:=YF.cb λ_ _ _ _ _ _ _=>rfl,sY:=MZ.cb λ_ _ _ _ _ _ _=>rfl,vV:=aaC.cb λ_ _ _ _ _ _ _=>rfl,yT:=Om.cb λ_ _ _ _ _ _ _=>rfl,rS:=H.cb λ_ _ _ _ _ _ _=>rfl,Bc:=RI.cb λ_ _ _ _ _ _ _=>rfl,sJ:=V8.cb λ_ _ _ _ _ _ _=>rfl,oY:=r.cb λ_ _ _ _ _ _ _=>rfl,z7:=PZ.cb λ_ _ _ _ _ _ _=>rfl,ua:=On.cb λ_ _ _ _ _ _ _=>rfl,og:=Y.cb λ_ _ _ _ _ _ _=>rfl,ng:=T.cb λ_ _ _ _ _ _ _=>rfl,CB:=T9.cb λ_ _ _ _ _ _ _=>rfl,MG:=aeZ.cb λ_ _ _ _ _ _ _=>rfl,Kx:=agX.cb λ_ _ _ _ _ _ _=>rfl,NP:=ajh.cb λ_ _ _ _ _ _ _=>rfl,NQ:=aji.cb λ_ _ _ _ _ _ _=>rfl,WI:=amo.cb λ_ _ _ _ _ _ _=>rfl,WJ:=amq.cb λ_ _ _ _ _ _ _=>rfl,NR:=ajj.cb λ_ _ _ _ _ _ _=>rfl,Hw:=ae0.cb λ_ _ _ _ _ _ _=>rfl,zE:=V9.cb λ_ _ _ _ _ _ _=>rfl,Hx:=ae1.cb λ_ _ _ _ _ _ _=>rfl,Bd:=YG.cb λ_ _ _ _ _ _ _=>rfl,Be:=YH.cb λ_ _ _ _ _ _ _=>rfl,yf:=Ua.cb λ_ _ _ _ _ _ _=>rfl,zF:=Wa.cb λ_ _ _ _ _ _ _=>rfl,zG:=Wb.cb λ_ _ _ _ _ _ _=>rfl,De:=aaD.cb λ_ _ _ _ _ _ _=>rfl,Df:=aaE.cb λ_ _ _ _ _ _ _=>rfl,E5:=acY.cb λ_ _ _ _ _ _ _=>rfl,zH:=Wc.cb λ_ _ _ _ _ _ _=>rfl,jB:=Ly.cb λ_ _ _ _ _ _ _=>rfl,sZ:=M0.cb λ_ _ _ _ _ _ _=>rfl,mx:=z.cb λ_ _ _ _ _ _ _=>rfl,wC:=RJ.cb λ_ _ _ _ _ _ _=>rfl,Bg:=RK.cb λ_ _ _ _ _ _ _=>rfl,z8:=P1.cb λ_ _ _ _ _ _ _=>rfl,Dg:=aaF.cb λ_ _ _ _ _ _ _=>rfl,vQ:=Wd.cb λ_ _ _ _ _ _ _=>rfl,Bh:=acZ.cb λ_ _ _ _ _ _ _=>rfl,U6:=U8.cb λ_ _ _ _ _ _ _=>rfl,X0:=ai6 ac0,gK:=abx aaG,rK:=abx RL},U8.bt λ_ _ _ _ _ _ _=>rfl)
#print Pe
#where
section
namespace Pe
open PySem PySem.Spec PyProof.Rows L2
section
variable {X:Cx}{k j i:Nat}{f C:ae}{fd:jF}{q y:Str}{st:bu}{ps:List Str}{sp:Sp}{x m:Str}{p pos pos' apos lD:Pos}{e o a b:cz}{es:List cz}{ta tb te to:TE}{t:TA}{r:R2}{op:Fs}
def d5(hr:jA j X.A)(F:ff X.prog X.w X.K X.mg X.base tS k f fd ps sp)(hm:X.mg x=some #[bz])(D:Def X.K y q st ps f fd)(d:PA X (e::es) t)(g:k<=j:=by decide)(h:Gl X x:=by rfl)(a:#[v]=false:=by decide) (he:bV (e::es) X.env=#[A]::bV es X.env:=by rfl) (c:#[aO].any (·.1)=false:=by rfl):PE X #[af] (CZ sp [] E0 t):=fV F #[De,g] h hm D.fn.kp D.b .nil xT d a he c
def nq{pl:Sem Bool}(hr:jA j X.A)(h:PE X o ta)(c:ka X.K C)(hm:Meth X.K C m f)(F:ff X.prog X.w X.K X.mg X.base tS k f fd ps sp)(D:Def X.K y q st ps f fd)(i:PA X (e::es) t)(l:k<=j:=by decide) (a:bV (e::es) X.env=#[A]::bV es X.env:=by rfl) (d:#[aO].any (·.1)=false:=by rfl) (n:eval #[bc] X.env=(do
   let g<-eval o X.env
   standAt apos.atName
   let #[vX]<-holding [g] #[Dy,g]
   callWith pos f first #[zy] #[fG]):=by rfl):PE X #[bc] (NB C m sp [] E0 ta t):=aiL h c hm F #[De,l] D.b .nil xT i a d n
def eM{pl:Sem Bool}(hr:jA j X.A)(d:PE X o ta)(c:ka X.K C)(hm:Meth X.K C m f)(F:ff X.prog X.w X.K X.mg X.base tS k f fd ps sp)(D:Def X.K y q st ps f fd)(e:k<=j:=by decide) (g:eval #[bH] X.env=(do
   let a<-eval o X.env
   standAt apos.atName
   let #[vX]<-holding [a] #[Dy,a]
   callWith pos f first #[jq] #[fG]):=by rfl):PE X #[bH] (NB C m sp [] E0 ta vd):=Pf d c hm F #[De,e] D.b .nil xT g
def cb(hr:jA j X.A)(M:Mk X.K C f)(F:ff X.prog X.w X.K X.mg X.base tS k f fd ps sp)(hm:X.mg x=some #[dz])(D:Def X.K y q st ps f fd)(d:PA X (e::es) t)(g:k+1<=j:=by decide)(h:Gl X x:=by rfl)(a:#[v]=false:=by decide) (he:bV (e::es) X.env=#[A]::bV es X.env:=by rfl) (c:#[aO].any (·.1)=false:=by rfl):PE X #[af] (QQ C sp [] E0 t):=aiM M F #[De,g] h hm D.b .nil xT d a he c
def akK(hr:jA j X.A)(M:Mk X.K C f)(F:ff X.prog X.w X.K X.mg X.base tS k f fd ps sp)(hm:X.mg x=some #[dz])(D:Def X.K y q st ps f fd)(c:k+1<=j:=by decide)(d:Gl X x:=by rfl)(a:#[v]=false:=by decide):PE X #[gp] (QQ C sp [] E0 vd):=agp M F #[De,c] d hm D.b .nil xT a
def bQ(i:Nat)(a:X.N.Nodup)(he:PE X e te)(b:X.N[i]?=some x:=by rfl)(c:Loc X.env.scope x:=by exact CP rfl)(hs:vb e (some (.Name x pos')) pos.line X.env=pure false:=by rfl)(d:X.fn x=true\/X.env.scope.names.lookup x=some .local:=by first|exact .inl rfl|exact .inr rfl|assumption):PS X (.Assign [.Name x pos'] e pos) (W2 te (sN i)):=QH a b c he hs d
def o6(i:Nat)(a:X.N.Nodup)(b:X.N[i]?=some x:=by rfl)(c:Loc X.env.scope x:=by exact CP rfl)(d:X.fn x=true\/X.env.scope.names.lookup x=some .local:=by first|exact .inl rfl|exact .inr rfl|assumption):PG X (.Name x pos) (sN i):=SN a b c d
def Bl{op:G1}{a:TIp}(i:Nat)(b:X.N.Nodup)(he:PE X e te)(c:PIp X op a)(d:X.N[i]?=some x:=by rfl)(f:Loc X.env.scope x:=by exact CP rfl)(g:X.fn x=true\/X.env.scope.names.lookup x=some .local:=by first|exact .inl rfl|exact .inr rfl|assumption):PS X (.AugAssign (.Name x pos') op e pos) (agh i te a):=ajT b d f he c g
def f7(c:pY X (gu op) r)(d:PE X a ta)(e:PE X b tb)(h:op≠ .In:=by decide)(f:op≠ .NotIn:=by decide):PT X #[pU] (Nz #[hs]):=NA c d e (QK b h f)
def eq_(c:pY X (gu op) r)(d:PE X a ta)(e:PE X b tb)(h:op≠ .In:=by decide)(f:op≠ .NotIn:=by decide):PE X #[pU] #[hs]:=SR c d e (QK b h f)
def bH{f:Str}(he:PE X e ta)(a:oI e f X.env #[gM]=eval e X.env:=by rfl):PE X #[tm] #[BO]:=y3 he a
def gr{f:Str}{value:cz}(a:PE X o ta)(b:PE X value te)(hs:vb value #[nR] pos.line X.env=pure false:=by rfl):PS X #[i0] (LQ X.K ta te f):=W7 a b hs
def cN{n:Int}(h:eL X.mg x n)(a:Gl X x:=by rfl)(hd:#[v]=false:=by decide):PE X #[nH] (tC #[wF]):=FD a h hd
def o7(c:PE X a ta)(d:PE X b tb)(hs:SV b:=by exact λ_ _=>rfl):PE X #[kV] (Hk (LU X.K) ta tb):=WB akc c d hs
def yu(c:PE X a ta)(d:PE X b tb)(hs:SV b:=by exact λ_ _=>rfl):PE X #[kV] (Hk (SW X.K) ta tb):=WB SX c d hs
def oi(hm:X.mg "len"=none)(c:PE X a ta)(d:Gl X "len":=by rfl)(he:bV [a] X.env=#[kx]::bV [] X.env:=by rfl)(b:#[jq].any (·.1)=false:=by rfl):PE X (.Call (.Name "len" p) [a] [] pos) (tCB (λxs H Q=>∃p ys,xs=#[qq]/\#[fB]/\Q #[ot] H) (o8 ta vd)):=wQ LW d hm PySem.boot_len (ag c aw (hs:=he)) #[c] #[c] he b
#where
#print Pe
#where
section
namespace Pe
open PySem PySem.Spec PyProof.Rows L2
variable {A0 A1 A2 A3 A4:Type}{p0 p1 p2:Prop}{H:Hp}
def aK{p0 p1:A0->Prop}(a:A0)(b:p0 a)(h:p1 a):∃a,p0 a/\p1 a:=(a,b,h)
def cX{p0 p1 p2:A0->Prop}(a:A0)(b:p0 a)(c:p1 a)(h:p2 a):∃a,p0 a/\p1 a/\p2 a:=#[Ap]
def oZ{p0 p1 p2 b:A0->Prop}(a:A0)(c:p0 a)(d:p1 a)(e:p2 a)(h:b a):∃a,p0 a/\p1 a/\p2 a/\b a:=(a,c,d,e,h)
def fi{p0 p1:A0->A1->Prop}(a:A0)(b:A1)(c:p0 a b)(h:p1 a b):∃a,∃b,p0 a b/\p1 a b:=#[Ap]
def c4{p0 p1 p2:A0->A1->Prop}(a:A0)(b:A1)(c:p0 a b)(d:p1 a b)(h:p2 a b):∃a,∃b,p0 a b/\p1 a b/\p2 a b:=(a,b,c,d,h)
def xx{p0 p1 p2 c:A0->A1->Prop}(a:A0)(b:A1)(d:p0 a b)(e:p1 a b)(f:p2 a b)(h:c a b):∃a,∃b,p0 a b/\p1 a b/\p2 a b/\c a b:=(a,b,d,e,f,h)
def a7{p0:A0->Prop}{p1 p2:A0->A1->Prop}(a:A0)(c:p0 a)(b:A1)(d:p1 a b)(h:p2 a b):∃a,p0 a/\∃b,p1 a b/\p2 a b:=(a,c,b,d,h)
def eU{p0:A0->Prop}{p1 p2 c:A0->A1->Prop}(a:A0)(d:p0 a)(b:A1)(e:p1 a b)(f:p2 a b)(h:c a b):∃a,p0 a/\∃b,p1 a b/\p2 a b/\c a b:=(a,d,b,e,f,h)
def jc{p0 p1 p2 d:A0->A1->A2->Prop}(a:A0)(b:A1)(c:A2)(e:p0 a b c)(f:p1 a b c)(h5:p2 a b c)(h:d a b c):∃a,∃b,∃c,p0 a b c/\p1 a b c/\p2 a b c/\d a b c:=(a,b,c,e,f,h5,h)
def bZ{p0 p1 p2:A0->A1->A2->Prop}{e f:A0->A1->A2->A3->Prop}(a:A0)(b:A1)(c:A2)(g:p0 a b c)(i:p1 a b c)(h5:p2 a b c)(d:A3)(j:e a b c d)(h:f a b c d):∃a,∃b,∃c,p0 a b c/\p1 a b c/\p2 a b c/\∃d,e a b c d/\f a b c d:=(a,b,c,g,i,h5,d,j,h)
def b9{p0 p1 p2:A0->A1->A2->Prop}{f:A0->A1->A2->A3->Prop}{g i:A0->A1->A2->A3->A4->Prop}(a:A0)(b:A1)(c:A2)(j:p0 a b c)(k:p1 a b c)(h5:p2 a b c)(d:A3)(l:f a b c d)(e:A4)(m:g a b c d e)(h:i a b c d e):∃a,∃b,∃c,p0 a b c/\p1 a b c/\p2 a b c/\∃d,f a b c d/\∃e,g a b c d e/\i a b c d e:=(a,b,c,j,k,h5,d,l,e,m,h)
def CF{p0 p1 p2:A0->A1->A2->Prop}(a:A0)(b:A1)(c:A2)(d:p0 a b c)(e:p1 a b c)(h:p2 a b c):∃a,∃b,∃c,p0 a b c/\p1 a b c/\p2 a b c:=(a,b,c,d,e,h)
def vB{p0 p1 p2 d e:A0->A1->A2->Prop}(a:A0)(b:A1)(c:A2)(f:p0 a b c)(g:p1 a b c)(h5:p2 a b c)(i:d a b c)(h:e a b c):∃a,∃b,∃c,p0 a b c/\p1 a b c/\p2 a b c/\d a b c/\e a b c:=(a,b,c,f,g,h5,i,h)
def rV{p0 p1 p2 e:A0->A1->A2->A3->Prop}(a:A0)(b:A1)(c:A2)(d:A3)(f:p0 a b c d)(h5:p1 a b c d)(g:p2 a b c d)(h:e a b c d):∃a,∃b,∃c,∃d,p0 a b c d/\p1 a b c d/\p2 a b c d/\e a b c d:=(a,b,c,d,f,h5,g,h)
def lj{p0 p1 p2:A0->A1->A2->A3->Prop}(a:A0)(b:A1)(c:A2)(d:A3)(e:p0 a b c d)(h5:p1 a b c d)(h:p2 a b c d):∃a,∃b,∃c,∃d,p0 a b c d/\p1 a b c d/\p2 a b c d:=(a,b,c,d,e,h5,h)
def xy{p0 p1 p2 f:A0->A1->A2->A3->A4->Prop}(a:A0)(b:A1)(c:A2)(d:A3)(e:A4)(h5:p0 a b c d e)(g:p1 a b c d e)(i:p2 a b c d e)(h:f a b c d e):∃a,∃b,∃c,∃d,∃e,p0 a b c d e/\p1 a b c d e/\p2 a b c d e/\f a b c d e:=(a,b,c,d,e,h5,g,i,h)
def Bm{g:Type}{p0 p1 p2 i j:A0->A1->A2->A3->A4->g->Prop}(a:A0)(b:A1)(c:A2)(d:A3)(e:A4)(f:g)(k:p0 a b c d e f)(l:p1 a b c d e f)(m:p2 a b c d e f)(n:i a b c d e f)(h:j a b c d e f):∃a,∃b,∃c,∃d,∃e,∃f,p0 a b c d e f/\p1 a b c d e f/\p2 a b c d e f/\i a b c d e f/\j a b c d e f:=(a,b,c,d,e,f,k,l,m,n,h)
def e7(h0:p0)(a:p1)(h:p2):p0/\p1/\p2:=(h0,a,h)
def o3{a:Prop}(h0:p0)(b:p1)(c:p2)(h:a):p0/\p1/\p2/\a:=(h0,b,c,h)
def gU{p1 p2:A0->Prop}(h0:p0)(a:A0)(b:p1 a)(h:p2 a):p0/\∃a,p1 a/\p2 a:=(h0,a,b,h)
section
variable {D:Ends}{σ:L2.St}{H:Hp}{Q:VK}{QT:Bool->Hp->Prop}{QA:List V->Hp->Prop}{te ta tb tc:TE}{tt tu:TT}{t:TA}{ts us:TS}{i:Nat}{v:V}
variable {y:V}{sp:Sp}{ue vs:List V}{E:XK}{C:ae}
@[simp↓] def aqk:agf te D σ H=te σ H D.rt:=rfl
@[simp↓] def apB:alV D σ H=D.rt .cG H:=rfl
@[simp↓] def apC:abU D σ H=D.nx σ H:=rfl
@[simp↓] def aql:Ic ts us D σ H=ts {D with nx:=us D} σ H:=rfl
@[simp↓] def apD:JR te D σ H=te σ H λ_ H1=>D.nx σ H1:=rfl
@[simp] def aqm:iK i σ H Q=∃v,σ[i]?=some #[h8]/\Q v H:=Ax
@[simp↓] def atF:tC v σ H Q=Q v H:=rfl
@[simp↓] def asZ{r:R2}:Hk r ta tb σ H Q=ta σ H λx a=>tb σ a λy b=>r x y b Q:=rfl
@[simp↓] def as0{r:V->Hp->VK->Prop}:tUn r ta σ H Q=ta σ H λx a=>r x a Q:=rfl
@[simp] def atG{C:Int->Int->Prop}{g:Int->Int->V}{x:V}:rI C g x y H Q=∃i,x= .int i/\∃j,y= .int j/\C i j/\Q #[iM] H:=by unfold rI;simp only[Ay]
@[simp] def as1{g:Int->Int->V}{x:V}:BU g x y H Q=∃i,x= .int i/\∃j,y= .int j/\Q #[iM] H:=by unfold BU;simp only[Ay]
@[simp] def atH{g:Int->V}{x:V}:rU g x H Q=∃i,x= .int i/\Q (g i) H:=Ay
@[simp↓] def as2{x:V}:rEq x y H Q=(LO x y=true/\Q #[tl] H):=rfl
@[simp↓] def as3{x:V}:rNe x y H Q=(LO x y=true/\Q #[sB] H):=rfl
@[simp↓] def aqn:agg tt ts us D σ H=tt σ H λb a=>if b=true then ts D σ a else us D σ a:=rfl
@[simp↓] def as4:tIf tt ta tb σ H Q=tt σ H λc a=>if c=true then ta σ a Q else tb σ a Q:=rfl
@[simp↓] def aqo:abT tt σ H QT=tt σ H λc a=>QT (!c) a:=rfl
@[simp↓] def aqp:age tt tu σ H QT=tt σ H λc a=>if c=true then tu σ a QT else QT false a:=rfl
@[simp↓] def as5:tOr tt tu σ H QT=tt σ H λc a=>if c=true then QT true a else tu σ a QT:=rfl
@[simp↓] def aqq{g:TG}:W2 te g D σ H=te σ H λx a=>g x σ a D.nx:=rfl
@[simp] def Ub{a:L2.St->Hp->Prop}:sN i v σ H a=a #[n5] H:=rfl
@[simp] def as6{f:Int->Int->Int}{x:V}:ipI f x y H Q=∃i,x= .int i/\∃j,y= .int j/\Q #[re] H:=by unfold ipI;simp only[Ay]
@[simp] def aqr{x:V}:abZ x y H Q=∃i,x= .int i/\∃j,y= .int j/\Q #[uv] H:=by unfold abZ;simp only[Ay]
@[simp] def amR{K:aA}{f:Str}{d:TE}{e:V->V->Hp->VK->Prop}:aba K ta d e f D σ H=ta σ H λx g=>∃a C dx fs v,x= .ref a/\g a=some #[x]/\ka K C/\cD K C f/\fs.lookup f=some v/\d σ g λy i=>e v y i λz h=>∃c b,h a=some (.ins C c b)/\b.length<1000/\D.nx σ (upd h a #[sA]):=rfl
@[simp↓] def aqs:vd σ H QA=QA [] H:=rfl
@[simp↓] def apE:o8 ta t σ H QA=ta σ H λx a=>t σ a λxs b=>QA (x::xs) b:=rfl
@[simp↓] def aqt:aj4 t σ H Q=t σ H λxs a=>xs.length<=aS/\∀p,a p=none->Q #[aI] #[xX]:=rfl
@[simp↓] def aqu:ago t σ H Q=t σ H λxs a=>xs.length<=aS/\∀p,a p=none->Q #[aI] #[xY]:=rfl
@[simp↓] def as7{r:List V->Hp->VK->Prop}:tCB r t σ H Q=t σ H λvs a=>r vs a Q:=rfl
@[simp↓] def apF:CZ sp ue E t σ H Q=t σ H λvs a=>sp #[oB] a Q E:=rfl
@[simp↓] def apG:QQ C sp ue E t σ H Q=t σ H λvs a=>∀x dx,a x=none->a dx=none->dx≠x->sp #[yY] (upd #[CV,a] x #[iY]) (λv b=>v= .cG/\Q #[ht] b) E:=rfl
@[simp] def aqv{K:aA}{x:V}:SW K x y H Q=∃p,x= .ref p/\∃xs i,y= .int i/\a8 K H p xs/\∃v,uZ xs i=some v/\Q v H:=by unfold SW;simp only[G9,Ay];exact propext (λz=>e1_1 z λp e z=>e1_1 z λi f z=>e1_1 z λxs a z=>#[sG],λz=>e1_1 z λp e z=>e2_2 z λxs i f a z=>#[sH])
@[simp] def aqw{K:aA}{x:V}:LU K x y H Q=∃p,x= .ref p/\∃xs i,y= .int i/\cK K H p xs/\∃v,uZ xs i=some v/\Q v H:=by unfold LU;simp only[G9,Ay];exact propext (λz=>e1_1 z λp e z=>e1_1 z λi f z=>e1_1 z λxs a z=>#[sG],λz=>e1_1 z λp e z=>e2_2 z λxs i f a z=>#[sH])
@[simp↓] def as8{r:V->Option Int->Option Int->Hp->VK->Prop}{tl a:TO}:tSl r te tl a σ H Q=te σ H λx b=>tl σ b λl c=>a σ c λu d=>r x l u d Q:=rfl
@[simp↓] def amS{a:Option Int->Hp->Prop}:SU σ H a=a none H:=rfl
@[simp] def aqx{K:aA}{x:V}{lo b:Option Int}:ab5 K x lo b H Q=∃a xs,x= .ref a/\a8 K H a xs/\∀p,H p=none->Q #[aI] #[f3]:=rfl
@[simp↓] def as9{K:aA}{T:String}{r:V->List V->Hp->VK->Prop}{a:TE}:tBM K T r a t σ H Q=a σ H λx b=>tyV K T x b/\t σ b λxs c=>r x xs c Q:=rfl
@[simp] def aqy{x:V}:Jf x vs H Q=∃l xs y,x= .ref l/\vs=[y]/\H l=some #[ai]/\xs.length<aS/\Q .cG #[x3]:=rfl
@[simp↓] def apH:aeb σ H Q=∀p,H p=none->Q #[aI] #[x0]:=rfl
@[simp↓] def aoA:aeD C E t D σ H=t σ H λvs a=>vs.length<=aS/\E #[dz] none a:=rfl
@[simp] def aZ{N:List Str}:L2.start N vs=vs.map some++xG #[td] none:=rfl
@[simp] def aR{a b:ae}{o:HO}:upd H a o b=if b=a then some o else H b:=rfl
#where
def bC{a:V}{l:List V}:oQ some (a::l)=some a::oQ some l:=rfl
def bD:oQ some #[Dw,V]=[]:=rfl
def amr{o:Option #[kO]}{k a:V->Prop}(m:∀v,k v->a v)(h:mO o k):mO o a:=have(_,e,q):=JQ h;Ax.mpr #[kg]
def ac1{x:V}{k a:Bool->Prop}(m:∀v,k v->a v)(h:mB x k):mB x a:=have(_,e,q):=zm h;ahU.mpr #[kg]
def WL{x:V}{k a:Int->Prop}(m:∀v,k v->a v)(h:mI x k):mI x a:=have(_,e,q):=G8 h;Ay.mpr #[kg]
def ac2{x:V}{k a:ae->Prop}(m:∀v,k v->a v)(h:mR x k):mR x a:=have(_,e,q):=CW h;G9.mpr #[kg]
def ams{b:Int}:LO .cG (.int b)=true:=rfl
def vC{a b:Int}:LO (.int a) (.int b)=true:=rfl
class Kn (α:Type) where
 k:α->Prop
section
variable {D:Ends}{σ:L2.St}{H:Hp}{Q:VK}{QT:Bool->Hp->Prop}{QA:List V->Hp->Prop}{te ta tb tc tv:TE}{t:TA}{K:aA}{a b:ae}{i j:Int}{xs:List V}{x y v:V}{f:Str}{C dx:ae}{m:Str}{sp:Sp}{ue:List V}{E:XK}{n:Nat}{o:Option V}{fs:List (Str×V)}{r r':R2}
abbrev kB(x:V)[R:Kn Bool]:Prop:=mB x R.k
@[simp↓] def ata{c:Bool}[R:Kn Bool]:kB (.bl c)=R.k c:=rfl
@[simp] def atb[R:Kn Bool]:kB x=∃k,x= .bl k/\R.k k:=ahU
abbrev kI(x:V)[R:Kn Int]:Prop:=mI x R.k
@[simp↓] def atJ[R:Kn Int]:kI #[gn]=R.k i:=rfl
@[simp] def atc[R:Kn Int]:kI x=∃i,x= .int i/\R.k i:=Ay
abbrev kL(o:Option V)[R:Kn V]:Prop:=o.elim False R.k
@[simp↓] def atL[R:Kn V]:kL #[h8]=R.k v:=rfl
@[simp high] def atd[R:Kn V]:kL #[h8]=R.k v:=rfl
@[simp] def aia[R:Kn V]:kL o=∃v,o=some v/\R.k v:=by unfold kL;cases o<;>simp
abbrev YI(K:aA)(f:Str)(o:Option HO)[R:Kn V]:Prop:=∃C dx fs,o=some #[x]/\ka K C/\cD K C f/\∃v,fs.lookup f=some v/\R.k v
@[simp high] def aqz[R:Kn V](a:ka K C)(b:cD K C f):YI K f #[mV]=kL #[jU]:=by rw[aia];unfold YI;simp[-aa,au,a,b]
@[simp] def ate[R:Kn V]:YI K f #[mV]=(ka K C/\cD K C f/\kL #[jU]):=by rw[aia];unfold YI;simp[-aa,au]
@[simp low] def aqA[R:Kn V]{o:Option HO}:YI K f o=∃C dx fs,o=some #[x]/\ka K C/\cD K C f/\∃v,fs.lookup f=some v/\R.k v:=rfl
abbrev kF(K:aA)(f:Str)(x:V)(H:Hp)[R:Kn V]:Prop:=mR x λa=>YI K f (H a)
@[simp↓] def atM[R:Kn V]:kF K f #[bh] H=YI K f (H a):=rfl
@[simp low] def atf[R:Kn V]:kF K f x H=∃a,x= .ref a/\∃C dx fs,H a=some #[x]/\ka K C/\cD K C f/\∃v,fs.lookup f=some v/\R.k v:=G9
@[simp↓] def aqB:JV K ta f σ H Q=ta σ H λx a=> @kF K f x a ⟨λv=>Q v a⟩:=rfl
abbrev YJ(K:aA)(f:Str)(o:Option HO)[R:Kn #[hm]]:Prop:=∃C dx fs,o=some #[x]/\ka K C/\cD K C f/\fs.length<1000/\R.k #[wv]
@[simp high] def aqC[R:Kn #[hm]](a:ka K C)(b:cD K C f):YJ K f #[mV]=(fs.length<1000/\R.k #[wv]):=by unfold YJ;simp[au,a,b]
@[simp] def atg[R:Kn #[hm]]:YJ K f #[mV]=(ka K C/\cD K C f/\fs.length<1000/\R.k #[wv]):=by unfold YJ;simp[au]
@[simp low] def aqD[R:Kn #[hm]]{o:Option HO}:YJ K f o=∃C dx fs,o=some #[x]/\ka K C/\cD K C f/\fs.length<1000/\R.k #[wv]:=rfl
abbrev kS(K:aA)(f:Str)(y x:V)(H:Hp)[R:Kn Hp]:Prop:=mR x λa=> @YJ K f (H a) ⟨λp=>R.k #[iG]⟩
@[simp↓] def atN[R:Kn Hp]:kS K f y #[bh] H= @YJ K f (H a) ⟨λp=>R.k #[iG]⟩:=rfl
@[simp low] def ath[R:Kn Hp]:kS K f y x H=∃a,x= .ref a/\∃C dx fs,H a=some #[x]/\ka K C/\cD K C f/\fs.length<1000/\R.k #[x4]:=G9
@[simp↓] def apI:LQ K ta tv f D σ H=tv σ H λy a=>ta σ a λx b=> @kS K f y x b ⟨D.nx σ⟩:=rfl
abbrev YK(C:ae)(m:Str)(o:Option HO)[R:Kn Unit]:Prop:=∃dx fs,o=some #[x]/\fs.lookup m=none/\R.k ()
@[simp high] def aqE[R:Kn Unit]:YK C m #[mV]=(fs.lookup m=none/\R.k ()):=by unfold YK;simp[-aa,au]
@[simp] def ati[R:Kn Unit]{a:ae}:YK C m (some (.ins a dx fs))=(a=C/\fs.lookup m=none/\R.k ()):=by unfold YK;simp[-aa,au]
@[simp low] def aqF[R:Kn Unit]{o:Option HO}:YK C m o=∃dx fs,o=some #[x]/\fs.lookup m=none/\R.k ():=rfl
abbrev kM(C:ae)(m:Str)(x:V)(H:Hp)[R:Kn Unit]:Prop:=mR x λa=>YK C m (H a)
@[simp↓] def atO[R:Kn Unit]:kM C m #[bh] H=YK C m (H a):=rfl
@[simp low] def atj[R:Kn Unit]:kM C m x H=∃a,x= .ref a/\∃dx fs,H a=some #[x]/\fs.lookup m=none/\R.k ():=G9
@[simp↓] def apJ:NB C m sp ue E ta t σ H Q=ta σ H λx a=> @kM C m x a ⟨λ_=>t σ a λvs b=>sp (x::#[oB]) b Q E⟩:=rfl
@[simp↓] def atk:iK 0 (some v::σ) H Q=Q v H:=rfl
@[simp↓] def atl{x:Option V}:iK (n+1) (x::σ) H Q=iK n σ H Q:=rfl
@[simp↓] def atP{x:Option V}{Q:L2.St->Hp->Prop}:sN 0 v (x::σ) H Q=Q (some v::σ) H:=rfl
@[simp↓] def atQ{x:Option V}{Q:L2.St->Hp->Prop}:sN (n+1) v (x::σ) H Q=sN n v σ H (λa=>Q (x::a)):=rfl
@[simp↓] def atm{C:Int->Int->Prop}{g:Int->Int->V}:rI C g #[gn] #[wG] H Q=(C i j/\Q #[iM] H):=rfl
@[simp↓] def aqG{g:Int->Int->V}:BU g #[gn] #[wG] H Q=Q #[iM] H:=rfl
@[simp↓ low] def aqH{g:Int->Int->V}:BU g #[gn] y H Q=∃j,y= .int j/\Q #[iM] H:=(Ay:mI y (λj=>Q #[iM] H)=_)
@[simp↓ low] def aqI{g:Int->Int->V}:BU g x #[wG] H Q=∃i,x= .int i/\Q #[iM] H:=(Ay:mI x (λi=>Q #[iM] H)=_)
@[simp↓] def atR{g:Int->V}:rU g #[gn] H Q=Q (g i) H:=rfl
@[simp↓] def atn{f:Int->Int->Int}:ipI f #[gn] #[wG] H Q=Q #[re] H:=rfl
@[simp↓] def apK:abZ #[gn] #[wG] H Q=Q #[uv] H:=rfl
@[simp↓] def apL:Nz te σ H QT=te σ H λx H'=> @kB x ⟨λk=>QT k H'⟩:=rfl
@[simp↓] def atU:tB te σ H QT=te σ H λx H'=> @kB x ⟨λk=>QT k H'⟩:=rfl
@[simp↓] def aoB:W6 r r' ta tb tc σ H Q=ta σ H λx b=>tb σ b λy c=>r x y c λz a=> @kB z ⟨λk=>if k=true then tc σ a λd e=>r' y d e Q else Q #[fs] a⟩:=rfl
@[simp↓] def apM:alU ta tb σ H Q=ta σ H λx a=> @kB x ⟨λc=>if c=true then tb σ a Q else Q #[fs] a⟩:=rfl
@[simp↓] def aqJ:ajQ ta tb σ H Q=ta σ H λx a=> @kB x ⟨λc=>if c=true then Q #[hZ] a else tb σ a Q⟩:=rfl
@[simp↓] def apN:ahW ta σ H Q=ta σ H λx a=> @kB x ⟨λc=>Q (.bl (!c)) a⟩:=rfl
@[simp↓] def aqK{a:TIp}:agh n te a D σ H=iK n σ H λx _=>te σ H λy b=>a x y b λz c=>sN n z σ c D.nx:=rfl
@[simp↓] def apO{a:Option Int->Hp->Prop}:ab4 te σ H a=te σ H λx b=> @kI x ⟨λi=>a (some i) b⟩:=rfl
@[simp↓] def aqL:SW K #[bh] #[gn] H Q=∃xs,a8 K H a xs/\∃v,uZ xs i=some v/\Q v H:=rfl
@[simp↓] def aqM:LU K #[bh] #[gn] H Q=∃xs,cK K H a xs/\∃v,uZ xs i=some v/\Q v H:=rfl
@[simp↓] def aqN{lo b:Option Int}:ab5 K #[bh] lo b H Q=∃xs,a8 K H a xs/\∀p,H p=none->Q #[aI] #[f3]:=by unfold ab5;simp
@[simp↓] def aqO:B6 #[bh] [] H Q=∃xs,H a=some #[ai]/\Q .cG (upd H a #[nF]):=by unfold B6;simp
@[simp↓] def aqP:Jf #[bh] [y] H Q=∃xs,H a=some #[ai]/\xs.length<aS/\Q .cG (upd H a #[jG]):=by unfold Jf;simp
#where
@[simp] def b6{CX:Hl}{P:cj}{w:cY}{K:aA}{mg:Str->Option ax}{base:cZ}{N:List Str}{b:Str}{a:lS}{f:ae}{c:ax}{A:dE}{outer:List Env}{s:aL}{E:XK}:(yA CX P w K mg base N b a f c A outer s H E).K=K:=rfl
def uH{K:aA}{a:ae}{xs:List V}{n:Nat}{g:TG}{tb:TS}{D:Ends}{b:L2.St}(Pv:Nat->L2.St->Hp->Prop)(d:b[n]?=some #[Dc,#[bh]])(e:a8 K H a xs)(h0:Pv 0 b H)(f:∀i b H,i<=xs.length->Pv i b H->a8 K H a xs) (hs:∀i x b H,xs[i]?=some x->Pv i b H->g x b H λc h=>tb {D with nx:=Pv (i+1),ct:=Pv (i+1),bk:=D.nx} c h) (hd:∀b H,Pv xs.length b H->D.nx b H):ajU (WA K (iK n)) g tb D b H:=Ax.mpr (_,d,a,rfl,(xs,e),zN (K:=K) (a:=a) (xs:=xs) Pv h0 f hs hd)
def jY{a:Type}{l:List a}{i:Nat}{x:a}(h:l[i]?=some x):i<l.length:=(iX.mp h).1
#print Pe
#where
section
namespace L2
open PySem PySem.Spec PyProof.Rows
section
variable {X:Cx}{x:Str}{p pos:Pos}{e:cz}{es:List cz}{t:TA}
abbrev akL(X:Cx)(i:Nat)(t:TA):TE:=λa H Q=>∃f,a[i]?=some #[i6]/\md X.K #[bz]=true/\t a H λvs c=>∃k b ps sp,ff X.prog X.w X.K X.mg X.base tS k f b ps sp/\jA k X.A/\Binds X.K b ps []/\sp vs c Q E0
def agY{i:Nat}(j:X.N[i]?=some x)(l:WU X.env.scope x)(m:PA X (e::es) t)(hd:#[v]=false:=by decide)(a:#[hg]=false:=by decide) (he:bV (e::es) X.env=#[A]::bV es X.env:=by rfl) (b:#[aO].any (·.1)=false:=by rfl):PE X #[af] (akL X i t):=by intro pins s d H Q I h;let(f,n,o,h):=41 h;refine ku (da (adO (i:=i) j l hd a pins s d H (λv H'=>v= .ref f/\H'=H) I (Ax.mpr (_,n,rfl,rfl))) λu w c=> ?_);let(v,y,A,r,B,C):=62 c;subst B C;obtain rfl:u=Value.ref f:=r;refine z9 (h₀:=X.base) I.ok.mod.WT o (da (m pos pins w d y _ A h) λus G z=>e2_2 z λvs J g D z=>e4_3 z λk K ps sp F hr E q=>(g.Ac,?_)) he b;exact LS F hr E .nil xT g D (by rw[ah];exact q)
#where
section
abbrev ac3(P:cj)(w:cY)(K:aA)(a:ae)(vs:List #[pJ]):Prop:=∀h:cZ,K.In h->h.DictOf #[gK] a vs
variable {X:Cx}{o i:cz}{td ty:TE}{pos:Pos}
abbrev aib(a:ae)(vs:List #[pJ])(td ty:TE):TE:=λb H Q=>td b H λx c=>ty b c λy d=>∃k u v,x= .ref a/\y=kV k/\uY vs k=some u/\RelV v u/\Q v d
def ajk{a:ae}{vs:List #[pJ]}(g:ac3 X.prog X.w X.K a vs)(j:PE X o td)(l:PE X i ty)(hs:akk i):PE X (.Subscript o i pos) (aib a vs td ty):=by
 rw[1986];refine aiQ PySem.F.slot_dict_getitem.lookup hs (da #[ef] λu m b=>e2_2 b λx n p q r=>da (l pins m e n _ p r) λE G c=> ?_)
 (let(y,t,f,z,d):=42 c;let(k,J,v,ex,A,B,C,D):=83 d)
 subst ex A;obtain rfl:u=Value.ref a:=q;have dd:=g _ f.Ac;refine(dd.mapOf.typeIs,wpAny_getItem_of (JY z) dd.mapOf B (v,t,f.tok _,C,D))
def U9:∀{l:List (Int×ax)},(l.map (·.1)).Nodup->(#[dM].map (·.1)).Nodup
 |[],_=>BF
 |q::l,h=>by let(a,b):=20 #[vZ];refine eX.mpr (λm=>a ?_,U9 b);let(x,c,ex):=21 (ci.mp m);let(y,d,e):=21 (ci.mp c);rw[2046];exact ci.mpr (y,d,Sum.inl.inj ex)
def Va{P:cj}{w:cY}:∀{es:List jz} {l:List (Int×ax)},intsOf es=some l->(∀e∈es,∃k,#[gK].is k e.key=true/\e.hash=#[gK].hash k)/\Pairs #[gK] es #[dM]
 |[],l,h=>by cases h;exact⟨(λ_ z=>nomatch z),.nil⟩
 |e::es,l,h=>by
  unfold intsOf at h;split at h
  ·rename_i k tk i b c;split at h
   ·rename_i d;rw[1914];let(f,g):=20 #[tb];have is:#[gK].is (Sum.inl k:Key) e.key=true:=by rw[b];show Value.isInt k (.int k tk)=true;simp[Value.isInt]
    refine(λx a=> ?_,.cons is rfl g);rw[1929]
    ·exact(_,is,d)
    ·exact f x a
   ·rw[1914]
  ·rw[1914]
def agZ{P:cj}{w:cY}{K:aA}{a:ae}{es:Array jz}{b:Nat}{l:List #[st]}(h:K.lookup a=some (.type "dict",none,.dict es b,#[]))(c:intsOf es.toList=some l)(d:(l.map (·.1)).Nodup):ac3 P w K a #[dM]:=by intro i X;let(f,g):=20 #[tb];exact(_,es,b,X _ _ h,(rfl,rfl,rfl),rfl,λe he=>f e (by simpa using he),g,U9 d)
abbrev YL(K:aA):R2:=λx y H Q=>∃a b xs ys,x= .ref a/\y= .ref b/\cK K H a xs/\cK K H b ys/\xs.length+ys.length<=aS/\#[tt]/\#[mQ]/\#[dH]
def YM{X:Cx}:pY X #[vC] (YL X.K):=by
 intro pins s B H x y v u Q I p q h
 (let(a,b,xs,ys,c):=4 h;let(rfl,rfl,r,t,hz,C,D,E):=140 c)
 by_cases e:xs=[]
 ·cases p;rw[2090];let(j,G,J,_):=41 #[CA,r];let(w,T,L,_):=41 #[CA,t];have M:j=[]:=G.NC.mpr e;subst M
  (let(c,z,A,d):=41 (id J);let(n,hd):=1 d;obtain⟨N,k,O,l⟩:=c)
  (let(c,f,g,d):=41 (id L);let(P,i):=1 d;obtain⟨R,m,S,o⟩:=c)
  simp only at A hd g i;subst A hd g i;exact concat_meets (_,z,rfl) (_,f,rfl) GY seq_tuple_add BC Ao (zi _ _) (tuple_addW0 a b _ _ n P k m l o #[p]) (z,f,.ref b,H,I,rfl,C e)
 ·exact aiO pins s B H _ _ v u Q I p q (a,b,xs,ys,rfl,rfl,r,t,e,hz,D e,E e)
#where
#print L2
#where
section
namespace L2
open PySem PySem.Spec PyProof.Rows
def Em(n m:Nat):Builtin.bitAnd (n:Int) (m:Int)=((n&&&m:Nat):Int):=by rw[bitAnd_pp #[dU] #[f],lR,lR]
def ac4(m:Nat):∀n:Nat,(m|||n)+(m&&&n)=m+n:=by
 induction m using zJ with
 |_ m b=>
  intro n;by_cases h0:m=0
  ·subst h0;simp
  ·rw[2082];rw[<-Nat.or_div_two,<-Nat.and_div_two]at a;have c:= @Nat.or_mod_two_eq_one m n;have d:= @K5 m n
   lia
def RM(n m:Nat):Builtin.bitOr (n:Int) (m:Int)=((n|||m:Nat):Int):=by
 rw[bitOr_and,Em];have:=ac4 n m
 lia
def aaH(m:Nat):∀n:Nat,(m^^^n)+2*(m&&&n)=m+n:=by
 induction m using zJ with
 |_ m b=>
  intro n;by_cases h0:m=0
  ·subst h0;simp
  ·rw[2082];rw[<-Nat.xor_div_two,<-Nat.and_div_two]at a;have c:= @Nat.xor_mod_two_eq_one m n;have d:= @K5 m n
   lia
def aoC(n m:Nat):Builtin.bitXor (n:Int) (m:Int)=((n^^^m:Nat):Int):=by
 rw[bitXor_and,Em];have:=aaH n m
 lia
def P2(k:Nat):((2:Int)^k)=#[y3]:=by simp
def Uc(n k:Nat):(n:Int)/2^k=((n/2^k:Nat):Int):=by rw[P2];simp
def ac5{n k:Nat}(h:n<2^k):Builtin.Int.intBits (n:Int)<=k:=by
 unfold Builtin.Int.intBits;split
 ·exact dR _
 ·rename_i h0;have h0:n≠0:=by intro z;rw[z]at h0;exact h0 rfl
  have:(n:Int).natAbs=n:=rfl;rw[1924];have:=(Nat.log2_lt h0).mpr h;assumption
def aaI(k:Nat):Builtin.Int.intBits #[y3]=k+1:=by unfold Builtin.Int.intBits;have h0:0<2^k:=Lp k;rw[am (by rw[beq_iff_eq];intro z;exact absurd (show 2^k=0 by exact_mod_cast z) (KY h0))];show(2^k).log2+1=_;rw[Nat.log2_two_pow]
section
variable {X:Cx}
abbrev akM(i j:Int):Prop:=0<=j/\(Builtin.Int.intBits i:Int)+j<=2^27
def Ud:pY X (qx .LShift) (rI akM λi j=> .int (i*2^j.toNat)):=opI λ_ _ _ _ _ _ _ a q=>lshift_int a.1 a.2 q
def Ky:PIp X .BitOr (ipI λi j=>Builtin.bitOr i j):=by intro pins s e H x y v u Q I a b h;let(i,j,c,d,q):=42 (FJ h);subst c;subst d;let(t,rfl):=1 a;let(t',rfl):=1 b;exact ior_int #[dd]
def akN:PIp X .BitAnd (ipI λi j=>Builtin.bitAnd i j):=by intro pins s e H x y v u Q I a b h;let(i,j,c,d,q):=42 (FJ h);subst c;subst d;let(t,rfl):=1 a;let(t',rfl):=1 b;exact iand_int #[dd]
abbrev NS:V->List V->Hp->VK->Prop:=λx vs H Q=>∃i,x= .int i/\vs=[]/\Q #[mH] H
def ae3:MtR X "int.bit_length" NS:=by intro pins s d H x vs v us Q I b c h;let(i,rfl,rfl,q):=41 h;let(t,rfl):=1 b;have a:=c.zero;subst a;exact call_int_bit_length #[dd]
abbrev aby(K:aA)(a:TE):TE:=ab6 K "int" NS a
def ae4{o:cz}{e:TE}{a b:Pos}(f:PE X o e) (c:oI o "bit_length" X.env #[iN]=eval o X.env:=by rfl) (d:(a.endLine==b.line)=true:=by rfl):PE X (.Call (.Attribute o "bit_length" a) [] [] b) (aby X.K e):=Xg PySem.F.plainAttrs_int PySem.F.slot_int_bit_length PySem.F.type_int_bit_length ae3 f c d
abbrev abz:V->List V->Hp->VK->Prop:=λx vs H Q=>∃l xs y,∃i:Nat,x= .ref l/\vs=#[wY]/\H l=some #[ai]/\i<=xs.length/\xs.length<aS/\Q .cG #[it]
def ae5:MtM X "list.insert" abz:=by
 intro pins s w H x vs v us Q I g j h
 (let(l,xs,y,i,b):=4 h;let(rfl,rfl,d,A,hz,q):=100 b)
 cases g;let(B,f,rfl,k,m):=42 (j.two);rw[2124]
 (let(z,b):=20 (I.JX d);let(a,n,r,C,e):=42 b)
 rw[1980];have fit:¬(!Builtin.List.listFitsIndex (i:Int))=true:=by
  have c:(2:Int)^63=9223372036854775808:=by decide
  have o: -(2:Int)^63<=(i:Int):=by rw[c];solve_by_elim
  have p:(i:Int)<(2:Int)^63:=by rw[c];lia
  rw[fitsIndex_both o p];decide
 have u:a.toArray.size<=aS:=by rw[bI];lia
 refine BN F.slot_list_insert #[fZ] F.entry_list_insert (F.args_list_insert_3 _ _ _) (@AutoSeq1.list_insert_list_int_val_1 l a.toArray n (i:Int) t f fit u) #[sI];refine(.cG,_,I.SY (its':=a.take i++f::a.drop i) d e ?_ ((r.take i).append (.cons m (r.drop i))) ?_,rfl,q)
 ·have hm:min i a.length=i:=by lia
  have h0:¬#[wR]:=by lia
  simp[h0,hm];exact BI (by rw[bN];exact be _)
 ·rw[aM,ak,bE,bN]
  lia
#where
def aaJ(l b:ae)(items a:Array ax)(n m:Nat)(c:Option ae)(e:Array #[iR])(o:¬(!items.isEmpty&&Builtin.List.listTooLong (items.size+a.size))=true)(f:items.size<=aS)(i:items.size+a.size<=aS+1):Meets (Builtin.«list.extend» ([.ref l,.ref b],[])) (λ_ R s=>s.heap.get? l=some {cls:= .type "list",dict:=none,data:= .seq items n,slots:= #[]}/\s.heap.get? b=some {cls:= .type "tuple",dict:=c,data:= .seq a m,slots:=e}/\R (.ok (.ret Value.none)) {s with heap:=s.heap.update l (Obj.mapSeq λx=>x++a),toks:=s.toks}):= .of_wp λprog w A R s h=>by
  obtain⟨q,g,d,tk,os⟩:=s;let(k,p,h):=40 h;have r:=AutoSeq1.idx_int;have t:=AutoSeq1.sub_tuple_tuple;have u:=AutoSeq1.sub_list_list;have v:=AutoSeq1.sub_tuple_list;have y:=AutoSeq1.sub_list_tuple;have j:(items++a).size<=aS+1:=by rw[Array.size_append];exact i
  wp_walk using(wpAny_updateSeq k rfl (hz:=f) (_hz':=j)),AutoSeq1.wpAny_loadPart' k,AutoSeq1.wpAny_loadPart' p
  exact(_,rfl,h)
section
variable {X:Cx}
variable {td:TE}
abbrev Kz(K:aA):V->List V->Hp->VK->Prop:=λx vs H Q=>∃l b xs a,x= .ref l/\vs=#[y9]/\H l=some #[ai]/\cK K H b a/\xs.length+a.length<=aS/\Q .cG #[eO]
def Fc:MtM X "list.extend" (Kz X.K):=by
 intro pins s L H x vs v us Q I w y h
 (let(l,b,xs,M,c):=4 h;let(rfl,rfl,p,A,hz,q):=100 c)
 cases w;let(u,rfl,B):=21 (y.one);cases B
 (let(z,c):=20 (I.JX p);let(d,n,r,N,e):=42 c)
 let(a,t,C,z2):=41 #[CA,A];have D:=t.length
 (let(c,j,g,k):=41 (id C);let(E,i):=1 k;obtain⟨G,m,J,o⟩:=c)
 simp only at g i;subst g i;have hsz:d.toArray.size+a.toArray.size<=aS:=by rw[bI,bI];lia
 have f:¬#[dc]=true:=by rw[Xh hsz,fJ];exact cA
 refine BN F.slot_list_extend #[fZ] F.entry_list_extend #[oU] (aaJ l b d.toArray a.toArray n E m o f #[hR] #[f]) (e,j,?_);refine(.cG,_,I.SY (its':=d++a) p e #[p] (r.append t) ?_,rfl,q);rw[aM]
 lia
abbrev ae6(td ty tx:TE):TE:=λc H Q=>td c H λx e=>∃a,x= .ref a/\Xp e a/\ty c e λy f=>tx c f λz d=>∃b k,d a=some #[rg]/\y=kV k/\b.length<aS/\(∀v,iL b k=some v->Q v d)/\(iL b k=none->Q z (upd d a (.dK #[tz])))
def ag0{o e f:cz}{g i:Pos}{ty tx:TE}(G:PE X o td)(he:PE X e ty)(J:PE X f tx)(m:M2 X o "setdefault" g e f i):PE X (.Call (.Attribute o "setdefault" g) [e,f] [] i) (ae6 td ty tx):=by
 rw[1984];refine y2 m.base m.Af m.line Ap Eu PySem.F.type_dict_setdefault (da (G pins s p H _ I h) λu K r=> ?_)
 (let(x,L,C,M,j):=42 r;let(a,ex,d,N):=41 j)
 rw[2076];rw[2074];let(O,P,_):=40 (Xq C d);refine(O,P,?_);rw[m.trees];refine Calls.callWith_builtin rfl (Calls.evalArgs_plain (Calls.spliced_cons (da (he pins K p L _ C N) λiv R t=>e2_2 t λy S T U V=>
  Calls.spliced_cons (da (J pins R p S _ T V) λW s3 y=>e2_2 y λz Y A D y=>e2_0 y λb k y=>e0_4 y λE Z FL q3 q4=>Calls.spliced_nil ?_))))
 subst Z
 (let(zz,hd,j):=40 (ab8 A.cQ E);let(vs,c,dd):=21 j)
 have hz:vs.length<=aS:=by rw[<-c.length];exact zz
 refine G0 Eu dd.typeIs PySem.F.entry_dict_setdefault (PySem.F.args_dict_setdefault_3 _ _ _) (kt_meets_setdefault #[eh] a (JY U) hd W) (vs,dd,hz,λv hv=> ?_,λhn h' n hs=> ?_)
 ·have l:=c.val k;rw[hv]at l;cases e:iL b k with
  |none=>rw[e]at l;exact False.elim l
  |some B=>rw[e]at l;exact(B,Y,A.tok _,l,q3 B e)
 ·have l:=c.val k;rw[hn]at l;cases e:iL b k with
  |some B=>rw[e]at l;exact False.elim l
  |none=>
   have he:∃q,h'.get? a=some q:=let(q,_,_,hq,_):=n;(q,hq);have hl:#[tz].length<=aS:=by have:=C1 b k z;lia
   exact(z,_,ND A (by rw[E];exact True.intro) hs he (Xn hl hd (c.put k D) n),D,q4 e)
abbrev abA(r f b:R2)(g tb h td:TE):TE:=λa H Q=>g a H λx i=>tb a i λy j=>r x y j λz c=>∃k,z= .bl k/\(if k=true then h a c λd l=>f y d l λz2 e=>∃k2,z2= .bl k2/\(if k2=true then td a e λm n=>b d m n Q else Q #[fs] e)else Q #[fs] c)
def M3{n g f:Fs}{r G j:R2}{a b c d:cz}{J tb K:TE}{o:Pos}(W:pY X (gu n) r)(p:pY X (gu g) G)(l:pY X (gu f) j)(Y:PE X a J)(Z:PE X b tb)(hc:PE X c K)(hd:PE X d td) (hm:lastMarks [n,g,f] [b,c,d]=false:=by with_unfolding_all rfl):PT X (.Compare a [n,g,f] [b,c,d] o) (Nz (abA r G j J tb K td)):=by
 intro pins s i H Q I h;refine isTrue_chain (da (Y pins s i H _ I h) λv s1 q=>e2_2 q λx H1 I1 r1 q1=>test_link (da (Z pins s1 i H1 _ I1 q1) λu s2 t=>e2_2 t λy H2 I2 L q2=>
  da (W pins s2 i H2 x y v u _ I2 r1 L q2) λd s3 w=>e2_2 w λz M N r3 m=>e1_1 m λk e O=> ?_)) hm
 rw[2046];cases r3;rw[2058];cases k with
 |false=>exact ite_ff (M,N,O)
 |true=>
  refine ite_tt (test_link (da (hc pins s3 i M _ N O) λP s4 A=>e2_2 A λR H4 I4 S q4=>da (p pins s4 i H4 y R u P _ I4 L S q4) λd' s5 B=> ?_))
  (let(z2,T,U,r5,C):=42 B;let(k2,e2,V):=21 C)
  subst e2;cases r5;rw[2058];cases k2 with
  |false=>exact ite_ff (T,U,V)
  |true=>refine ite_tt (test_last (da (hd pins s5 i T _ U V) λw2 s6 D=>e2_2 D λz3 H6 I6 r6 q6=>da (l pins s6 i H6 R z3 P w2 _ I6 S r6 q6) λd2 s7 E=>e2_2 E λz4 H7 I7 r7 F=> ?_));let(k3,rfl,F):=21 (zm F);cases r7;exact eY (H7,I7,F)
abbrev P3(b:TA):TE:=λc H Q=>b c H λvs a=>∃i j:Int,vs=#[ki]/\0<=i/\i<=1000000/\0<=j/\j<=1000000/\∀p,a p=none->Q #[aI] #[dW]
#where
#print L2
#where
section
namespace L2
open PySem PySem.Spec PyProof.Rows
section
variable {X:Cx}
def ac6:sd "list"=some #[z4]:=by decide+kernel
def ag1{i:Int}:∀{n:Nat} {acc:Array ax},ItemsOf (λk v=>∃t,v=Value.int (i+(k:Nat)*1) t) acc n->Vals ((cw n).map λ(k:Nat)=>V.int (i+(k:Int))) acc.toList:=by
 intro n acc h;let(f,g):=20 h;have gen:∀(l:List ax) (m:Nat),(∀j v,l[j]?=some v->∃t,v=Value.int (i+#[C5,m]) t)->Vals (#[sd].map λ(k:Nat)=>V.int #[tJ]) l:=by
  intro l
  induction l with
  |nil=>intro m _;exact .nil
  |cons a l o=>
   intro m c;rw[ak,BD,cB,fO];let(t,b):=1 (c 0 a rfl);refine .cons (t,b) ?_;have:=o (m+1) λj v d=>by let(t,b):=1 (c (j+1) v #[mc]);exact(t,by rw[b];congr 2;lia)
   have e:#[sd].map ((λ(k:Nat)=>V.int #[tJ])∘SE)=#[sd].map λ(k:Nat)=>V.int (i+((m+1+k:Nat):Int)):=by refine dO λk _=> ?_;show V.int (i+((m+(k+1):Nat):Int))=_;congr 2;lia
   rw[e];rw[1928]
 have:=gen acc.toList 0 λj v d=>by let(t,b):=1 (g j v #[mc]);exact(t,by rw[b];simp)
 have c:acc.toList.length=n:=by simpa using f
 rw[c]at this;refine cast ?_ this;congr 1;refine dO λk _=> ?_;congr 2;lia
def YN{a b:cz}{A:TA}{p m n c:Pos}(C:Gl X "list")(hm:X.mg "list"=none)(r:Gl X "range")(u:X.mg "range"=none)(D:PA X [a,b] A)(f:X.calm=true:=by rfl) (hs:bV [a,b] X.env=#[Aw]:=by rfl) (g:bV [b] X.env=[#[gL]]:=by rfl) (he:bV [Expr.Call #[nJ] [a,b] [] c] X.env=[((false),eval (Expr.Call #[nJ] [a,b] [] c) X.env)]:=by rfl):PE X (.Call (.Name "list" p) [.Call #[nJ] [a,b] [] c] [] n) (P3 A):=by
 intro pins s E H Q I h;refine ku (Do I C hm ac6 (PyProof.Rows.callWith_type1 ?_ he rfl));rw[he];refine Calls.spliced_cons ?_;refine Call_ (Do I r u boot_range (PyProof.Rows.callWith_type1 (da (D c pins s E H _ I h) λus v x=>e2_2 x λvs O F y G=> ?_) (by rw[hs,g]) (by rw[g];rfl)))
 (let(i,j,z):=2 G;let(e,P,R,S,T,q):=100 z)
 rw[2046];obtain⟨U,V,rfl,y,J⟩:=y.two;let(t,rfl):=1 y;let(t',rfl):=1 J;refine call_range_2 (Calls.spliced_nil ?_);have d:(2:Int)^62=4611686018427387904:=by decide
 have sm:=small_one (a:=i) (b:=j) #[lO] #[lO] #[lO] #[lO];have K:Builtin.Range.rangeSize i j 1=(((j-i).toNat:Nat):Int):=by rw[rangeSize_one];split<;>lia
 refine call_list_range #[CB,f] #[xF] sm K #[f] λh' tk k L M N l=> ?_;have B:=F.kept (t':=v.toks) (h':=v.heap.push {cls:= .type "range",data:= .fields #[.int i t,.int j t',.int 1 v.toks]}) λb o e=>Heap.get?_push_of_some _ e;rw[1980];refine(.ref _,_,B.laid (t':=tk) M #[gw] (show j1 X.prog X.w _ h' _ (.lst _)from(?_,k.toList,L,ag1 l,by simpa using N)),rfl,q _ (B.cQ.fresh #[gw]));rw[aD,tF]
 lia
abbrev ag2(C:ae):R2:=λx y H Q=>∃a b c d e f,x= .ref a/\y= .ref b/\H a=some (.ins C c e)/\H b=some #[ux]/\Q (.bl #[p1]) H
def akO{C:ae}(c:agS X.K C)(r:X.A.units+1<Ft):pY X (gu .NotEq) (ag2 C):=by
 intro pins s z H x y v u Q I B D h
 (let(a,b,P,R,S,T,j):=6 h;let(rfl,rfl,t,E,q):=80 j)
 cases B;cases D
 (let(nm,G,N,bs,hdct,sn,sub,ab,j):=8 (c _ I.Ac);let(col,dd,k0,k1,k2,k3,k5,k,mN,m):=9 j;let(J,L,he,n):=60 m)
 have i:∀{p d:ae} {f:List (Str×V)},H p=some #[ux]->s.heap.CmpInst p C #[n3]:=λ{p d f} w=>by
  obtain⟨o,M,O⟩:∃o,s.heap.get? p=some o/\o.cls= .ref C:=by let(_,_,_,e,_):=80 (I.cQ p _ w);exact #[fZ]
  exact(o,nm,G,N,bs,hdct,sn,sub,ab,col,dd,k0,k1,k2,k3,k5,k,mN,M,O,J,L,he,n)
 have l:EP X pins z Q (.bool #[p1]) s:=(.bl _,H,I,rfl,q);obtain⟨w,g,d,tk,os⟩:=s;rw[2146]
 ·rw[2046];refine compareOp_ne_same GT (i t) r ?_;simpa using l
 ·refine compareOp_ne_other GT GT (i t) (i E) e r ?_;simpa [e]using l
abbrev sh0:Nat->Bool:=λ_=>false
def abB:∀{b:List ae} {a:List ax},Vals #[C8,b.map] a->a=b.map Value.ref
 |[],_,h=>by cases h;rfl
 |r::b,_,h=>by
  cases h with
  |cons c d=>rw[cB,abB d];cases c;rfl
abbrev ag3(K:aA):List V->Hp->VK->Prop:=λvs H Q=>∃(a:ae) (c:List ae) (key:ae->Int),vs=#[vj]/\a8 K H a #[nk]/\(∀r∈c,∃k v,H r=some (.tup [.int (key r),.int k,.int v]))/\∀(b:List ae) (p:ae),b.Perm c->(b.map key).Pairwise (·<=·)->H p=none->Q #[aI] (upd H p #[gT])
def ac7:Hh X (.builtin "sorted") (ag3 X.K):=by
 intro pins s σ H vs us Q I r h;let(a,f,key,rfl,hs,ht,q):=63 h;let(its,rv,A,hz):=41 #[wt];rw[2143];have e1:=abB rv;subst e1;rw[aD]at hz;have tup:∀r∈f,∃o n J L M k v,s.heap.get? r=some o/\o.cls= .type "tuple"/\o.data= .seq #[.int (key r) J,.int k L,.int v M] n:=λr hr=>by
  let(k,v,hr):=2 (ht r hr)
  (let(its,B,g,_):=41 (I.tuple (cK.of hr));let(o,u,C,y2_):=41 g;let(n,N):=1 y2_)
  cases B with
  |cons r1 B=>cases B with
   |cons r2 B=>cases B with
    |cons r3 B=>cases B;let(J,rfl):=1 r1;let(L,rfl):=1 r2;let(M,rfl):=1 r3;exact(o,n,J,L,M,k,v,u,C,N)
 have t:∀r∈f,∃k v,PyProof.Rows.G.tupKeyC s.heap sh0 #[kQ]=some [Sum.inl (key r),Sum.inl k,Sum.inl v]:=λr hr=>by
  (let(o,n,J,L,M,k,v,g):=7 (tup r hr);let(u,C,N):=40 g)
  refine(k,v,?_);unfold PyProof.Rows.G.tupKeyC;have e1:PyProof.Rows.G.isTupObj s.heap #[kQ]=true:=by simp[PyProof.Rows.G.isTupObj,u,C]
  rw[aq e1];simp[PyProof.Rows.tupKey,u,N,PyProof.Rows.tupItems,sh0]
 have zL:∀l:List ae,(∀r∈l,r∈f)->∃fs,PyProof.Rows.TupsOf s.heap sh0 #[iK] fs:=by
  intro l
  induction l with
  |nil=>intro _;exact([],.nil)
  |cons r l D=>
   intro A;let(fs,hf):=1 #[pN]
   (let(o,n,J,L,M,k,v,g):=7 (tup r (A r bg));let(u,C,N):=40 g)
   exact(_,.cons (r,o,_,n,rfl,u,C,N,rfl,λ_=>(_,_,rfl),λz=>by cases z) hf)
 let(fs,hfs):=1 (zL f λ_ h=>h);refine PyProof.Rows.G.sorted_tups A.isList hfs (λv hv=> ?_) (by rw[aD];exact hz) λc hp P _=> ?_
 ·let(r,hr,rfl):=21 (ci.mp hv);let(k,v,e):=2 (t r hr);rw[1990]
 ·have E:#[nq].toList.Perm (#[m7].zip #[m7]):=by
   have:=hp.toList
   rwa [pairsOf_toList]at this
  have R:∀p∈(arrOf c).toList,∃r∈f,p=#[cJ]:=λp hpm=>by let(u,C):=20 (mem_zip_self (E.mem_iff.mp hpm));let(r,hr,e):=21 (ci.mp C);obtain⟨p1,p2⟩:=p;dsimp only at u e;subst u e;exact(r,hr,rfl)
  have S:∀l:List (ax×ax),(∀p∈l,∃r∈f,p=#[cJ])->∃l':List ae,l=l'.map (λr=>#[cJ])/\∀r∈l',r∈f:=by
   intro l
   induction l with
   |nil=>intro _;exact([],rfl,λ_ h=>by cases h)
   |cons p l D=>intro A;let(l',e,m):=21 #[pN];let(r,hr,T):=21 (A p bg);exact(r::l',by rw[e,T];rfl,λx O=>(b7.mp O).elim (λz=>z▸hr) (m x))
  let(b,T,U):=21 (S _ R);have W:∀l:List ae,#[iK].zip #[iK]=l.map λr=>#[cJ]:=λl=>by
   induction l with
   |nil=>rfl
   |cons x l D=>simp[D]
  rw[T,W]at E;have d:b.Perm f:=by
   have:=E.map (λp:ax×ax=>match p.1 with| .ref a=>a|_=>0);rw[fO,fO]at this;have Y:∀l:List ae,l.map ((λp:ax×ax=>match p.1 with| .ref a=>a|_=>0)∘λr=>#[cJ])=l:=λl=>DO l
   rwa [Y,Y]at this
  have Z:(#[nq].map (·.2)).toList=b.map Value.ref:=by rw[Array.toList_map,T,fO];rfl
  let(ep,he'):=1 (PyProof.Rows.sortedAll_at s.heap #[m7] (#[nq].map (·.2)))
  have hlen:b.length<=aS:=by rw[d.length_eq];exact hz
  have vals:∀l:List ae,Vals #[C8,l.map] #[iK]:=λl=>by
   induction l with
   |nil=>exact .nil
   |cons x l D=>exact .cons rfl D
  have w:#[nq].map (·.2)=(b.map Value.ref).toArray:=by rw[<-Z]
  refine(.ref _,upd H #[t] #[gT],I.laid (t':=s.toks) (λ_ _=>PyProof.Rows.sortedAll_old) (qW _) (by rw[aD];exact hlen,b.map Value.ref,ep,vals b,by rw[w]at he';rw[w];exact he'),rfl,q b _ d ?_ #[ud]);rw[yx];intro i j F hj hij;rw[aD]at F hj;rw[uR,uR];have y:=P i j (pE hij) (by rw[pairsOf_size,aD,<-d.length_eq];exact hj);have at_:∀i (F:i<b.length),∃k v,KK (PyProof.Rows.G.tupKindC s.heap sh0) #[nq] i=[Sum.inl (key b[i]),Sum.inl k,Sum.inl v]:=λi F=>by
   have e3:#[nq][i]?=some ((Value.ref b[i]),Value.ref b[i]):=by rw[<-LD,T,bz,aN F];rfl
   let(k,v,e4):=2 (t b[i] (U _ (yq F)));refine(k,v,?_);unfold KK;rw[e3];show((PyProof.Rows.G.tupKeyC s.heap sh0 (Value.ref b[i])).getD _)=_;rw[e4];rfl
  let(k1,v1,a1):=2 (at_ i F);let(k2,v2,a2):=2 (at_ j hj);rw[a1,a2]at y;have y:PyProof.Rows.lexLt PyProof.Rows.itemOrd [Sum.inl (key b[j]),Sum.inl k2,Sum.inl v2] [Sum.inl (key b[i]),Sum.inl k1,Sum.inl v1]=false:=y;unfold PyProof.Rows.lexLt at y;rw[Bool.or_eq_false_iff]at y;have y:decide (key b[j]<key b[i])=false:=y.1;have:=of_decide_eq_false y
  simp_all
#where
#print L2
#where
section
namespace Pe
open PySem PySem.Spec PyProof.Rows L2
section
variable {D:Ends}{σ:L2.St}{H:Hp}{Q:VK}{QT:Bool->Hp->Prop}{QA:List V->Hp->Prop}{te ta tb tc td tx:TE}{tt tu:TT}{t:TA}{ts us:TS}{i:Nat}{v:V}{K:aA}
variable {vs:List V}{y:V}
@[simp↓] def aqS{T:String}{r:V->List V->Hp->VK->Prop}:ab6 K T r ta σ H Q=ta σ H λx a=>tyV K T x a/\r x [] a Q:=rfl
@[simp] def aqT:akl ta tb σ H Q=ta σ H λy c=>tb σ c λx b=>∃a o,x= .ref a/\JZ b a y o/\Q #[Ah] b:=rfl
@[simp] def aoD:aec ta tb tc σ H Q=ta σ H λx b=>∃a,x= .ref a/\Xp b a/\tb σ b λy d=>tc σ d λz c=>∃o,JZ c a y o/\Q (o.getD z) c:=rfl
@[simp] def aoE:aed ta tb σ H Q=ta σ H λx c=>∃a,x= .ref a/\Xp c a/\tb σ c λy d=>∃b k v,d a=some #[rg]/\y=kV k/\iL b k=some v/\Q v (upd d a #[Af]):=rfl
@[simp] def aoF:ae6 ta tb tc σ H Q=ta σ H λx d=>∃a,x= .ref a/\Xp d a/\tb σ d λy e=>tc σ e λz c=>∃b k,c a=some #[rg]/\y=kV k/\b.length<aS/\(∀v,iL b k=some v->Q v c)/\(iL b k=none->Q z (upd c a (.dK #[tz]))):=rfl
@[simp] def apP:ah3 ta tb tc D σ H=tc σ H λv c=>ta σ c λx d=>tb σ d λy e=>∃a b,x= .ref a/\agw e a y v b/\D.nx σ b:=rfl
@[simp↓] def amU{r b a:R2}:abA r b a ta tb tc td σ H Q=ta σ H λx f=>tb σ f λy g=>r x y g λz c=>∃k,z= .bl k/\(if k=true then tc σ c λd h=>b y d h λz2 e=>∃k2,z2= .bl k2/\(if k2=true then td σ e λi j=>a d i j Q else Q #[fs] e)else Q #[fs] c):=rfl
@[simp] def aqU{x:V}:SZ x vs H Q=∃l b xs a,x= .ref l/\vs=#[y9]/\H l=some #[ai]/\H b=some #[z8]/\xs.length+a.length<=aS/\Q .cG #[eO]:=rfl
@[simp] def apQ{x:V}:Kz K x vs H Q=∃l b xs a,x= .ref l/\vs=#[y9]/\H l=some #[ai]/\cK K H b a/\xs.length+a.length<=aS/\Q .cG #[eO]:=rfl
@[simp] def aoG{x:V}:ad6 x vs H Q=∃l xs i k y,x= .ref l/\vs=[.int i]/\H l=some #[ai]/\-(2^63)<=i/\i<2^63/\Ia i xs.length=some k/\xs[k]?=some y/\Q y #[lC]:=rfl
@[simp] def aqV{x:V}:abz x vs H Q=∃l xs y,∃i:Nat,x= .ref l/\vs=#[wY]/\H l=some #[ai]/\i<=xs.length/\xs.length<aS/\Q .cG #[it]:=rfl
@[simp] def aqW{x:V}:B6 x vs H Q=∃l xs,x= .ref l/\vs=[]/\H l=some #[ai]/\Q .cG #[x2]:=rfl
@[simp] def aqX{x:V}:akf x y H Q=∃l b xs a,x= .ref l/\y= .ref b/\H l=some #[ai]/\H b=some #[z8]/\xs.length+a.length<=aS/\∀p,H p=none->Q #[aI] #[p3]:=rfl
@[simp] def aoH{x:V}:YL K x y H Q=∃a b xs ys,x= .ref a/\y= .ref b/\cK K H a xs/\cK K H b ys/\xs.length+ys.length<=aS/\#[tt]/\#[mQ]/\#[dH]:=rfl
@[simp] def aqY{x:V}{lo b:Option Int}:agr K x lo b H Q=∃a xs,x= .ref a/\cK K H a xs/\¬(HT.gO xs.length 0 lo=0/\HT.gO xs.length xs.length b=xs.length)/\∀p,H p=none->Q #[aI] (upd H p (.tup (tK xs lo b))):=rfl
@[simp] def apR:P3 t σ H Q=t σ H λvs a=>∃i j:Int,vs=#[ki]/\0<=i/\i<=1000000/\0<=j/\j<=1000000/\∀p,a p=none->Q #[aI] #[dW]:=rfl
@[simp↓] def aqZ:ajP ta σ H Q=ta σ H λx a=>Q #[rh] a:=rfl
@[simp↓] def apS:abS ta σ H Q=ta σ H λx a=>Q #[qi] a:=rfl
@[simp↓] def amV:aby K ta σ H Q=ta σ H λx a=>tyV K "int" x a/\NS x [] a Q:=rfl
@[simp] def ato{x:V}:NS x vs H Q=∃i,x= .int i/\vs=[]/\Q #[mH] H:=rfl
@[simp] def aq0{C:ae}{x:V}:ag2 C x y H Q=∃a b c d e f,x= .ref a/\y= .ref b/\H a=some (.ins C c e)/\H b=some #[ux]/\Q (.bl #[p1]) H:=rfl
#where
def yi{J:It}{n:Nat}{g:TG}{tb:TS}{D:Ends}{a:L2.St}{H:Hp}(Pv:Nat->L2.St->Hp->Prop)(h0:Pv 0 a H)(h:∀i a H,i<n->Pv i a H->J.go i H)(b:∀a H,Pv n a H->J.stop n H) (hs:∀i a H,i<n->Pv i a H->∀x H',J.QI i H x H'->g x a H' λc j=>tb {D with nx:=Pv (i+1),ct:=Pv (i+1),bk:=D.nx} c j) (hd:∀a H,Pv n a H->D.nx a H):∃W:Nat->Nat->L2.St->Hp->Prop,#[w0]/\∀i m a H,W i m a H->#[q5]\/(J.go i H/\∃N:L2.St->Hp->Prop,(∀d H',N d H'->∃k,k<m/\W (i+1) k d H')/\∀x H',J.QI i H x H'->g x a H' λc j=>tb {D with nx:=N,ct:=N,bk:=D.nx} c j):=by
 rw[1933];rintro i m a H ⟨rfl,o,p⟩;by_cases f:i<n
 ·exact .inr (h i a H f p,Pv (i+1),λd H' l=>(n-(i+1),by lia,rfl,f,l),λx H' y=>hs i a H f p x H' y)
 ·have e:i=n:=by lia
  rw[2046];exact .inl (b a H p,hd a H p)
abbrev lN(t:TE):Prop:=∀a H (Q Q':VK),#[iE]->t a H Q->t a H Q'
abbrev KA(r:R2):Prop:=∀x y H (Q Q':VK),#[qt]->r x y H Q->r x y H Q'
abbrev Dh(t:TT):Prop:=∀a H (Q Q':Bool->Hp->Prop),#[iE]->t a H Q->t a H Q'
abbrev KB(t:TA):Prop:=∀a H (Q Q':List V->Hp->Prop),#[iE]->t a H Q->t a H Q'
abbrev WM(r:List V->Hp->VK->Prop):Prop:=∀vs H (Q Q':VK),#[qt]->r vs H Q->r vs H Q'
section
variable {K:aA}{ta tb tc:TE}{r r':R2}{t u:TT}{a:TA}
def ew{i:Nat}:lN (iK i):=λ_ _ _ _ m q=>amr (λ_ q=>m _ _ q) q
def IR{v:V}:lN (tC v):=λ_ _ _ _ m q=>m _ _ q
def DF{f:Str}(h:lN ta):lN (JV K ta f):=λ_ _ _ _ m q=>h _ _ _ _ (λ_ _ q=>ac2 (λ_ z=>e3_3 z λC dx fs a b c z=>e1_1 z λv d q=>bZ C dx fs a b c v d #[jQ]) q) q
def pC(hr:KA r)(a:lN ta)(b:lN tb):lN #[hs]:=λ_ _ _ _ m q=>a _ _ _ _ (λ_ _ q=>b _ _ _ _ (λ_ _ q=>hr _ _ _ _ _ m q) q) q
def NT{g:Int->Int->V}:KA (BU g):=λ_ _ _ _ _ m q=>WL (λ_ q=>WL (λ_ q=>m _ _ q) q) q
def ac8:KA rEq:=λ_ _ _ _ _ m z=>#[tp]
def aid:KA rNe:=λ_ _ _ _ _ m z=>#[tp]
def DG:KA (SW K):=λ_ _ _ _ _ m q=>ac2 (λ_ q=>WL (λ_ z=>e1_1 z λxs a z=>e1_1 z λv b q=>a7 xs a v b #[jQ]) q) q
def akP{C:ae}:KA (ag2 C):=λ_ _ _ _ _ m z=>e6_0 z λa b c d e f z=>e0_4 z λg h i j q=>Bm a b c d e f g h i j #[jQ]
def WN{g:Int->V}(h:lN ta):lN (tUn (rU g) ta):=λ_ _ _ _ m q=>h _ _ _ _ (λ_ _ q=>WL (λ_ q=>m _ _ q) q) q
def rm(h:lN ta):Dh (Nz ta):=λ_ _ _ _ m q=>h _ _ _ _ (λ_ _ q=>ac1 (λ_ q=>m _ _ q) q) q
def akQ(h:lN ta):Dh (tB ta):=λ_ _ _ _ m q=>h _ _ _ _ (λ_ _ q=>ac1 (λ_ q=>m _ _ q) q) q
def ajl(h:lN ta):lN (abS ta):=λ_ _ _ _ m q=>h _ _ _ _ (λ_ _ q=>m _ _ q) q
def akR(h:Dh t):Dh (abT t):=λ_ _ _ _ m q=>h _ _ _ _ (λ_ _ q=>m _ _ q) q
def pO:KB vd:=λ_ _ _ _ m q=>m _ _ q
def nr(h:lN ta)(b:KB a):KB (o8 ta a):=λ_ _ _ _ m q=>h _ _ _ _ (λ_ _ q=>b _ _ _ _ (λ_ _ q=>m _ _ q) q) q
def Fd{c:List V->Hp->VK->Prop}(b:WM c)(h:KB a):lN (tCB c a):=λ_ _ _ _ m q=>h _ _ _ _ (λ_ _ q=>b _ _ _ _ m q) q
def Jv:WM (λxs H Q=>∃p ys,xs=#[qq]/\(a8 K H p ys\/cK K H p ys)/\Q #[ot] H):=λ_ _ _ _ m z=>e2_2 z λp ys a b q=>c4 p ys a b #[jQ]
def YO(a:Dh t)(c:Dh u):Dh (age t u):=λ_ _ _ _ m q=>a _ _ _ _ (λb _ q=>by
 cases b with
 |true=>rw[aq rfl]at q ⊢;exact c _ _ _ _ m q
 |false=>rw[am #[c]]at q ⊢;exact m _ _ q) q
#where
#print Pe
#where
section
namespace Pe
open PySem PySem.Spec PyProof.Rows L2
section
variable {P0:cj}
local macro_rules | `(tactic| walk_at "rd") => `(tactic| simp [-ah, au, -ai])
variable {i:Nat}{H:Hp}{xs:List V}{o:HO}{c:ae}
abbrev Gv(n:Int):Bool:=decide (32<=n)&&decide (n<=126)
abbrev YP(n:Int):Bool:=decide (48<=n)&&decide (n<=57)
abbrev M4(n:Int):Bool:=decide (n=10)||Gv n
def Gw{n lo a:Int}{Q:Bool->Prop}(k:Q (decide (lo<=n)&&decide (n<=a))):if lo<=n then Q (decide (n<=a))else Q false:=by
 by_cases h:lo<=n
 ·rw[aq h];rw[aT h]at k;exact k
 ·rw[am h];rw[aV h]at k;exact k
abbrev Bn:Sp:=λvs H Q _=>∃n:Int,vs=#[za]/\Q (.bl (Gv n)) H
def HB(T:Txt K mg t):ff P w K mg base tS 1 t.jt #[Be] #[S] Bn:=by
 refine T.rj.fn.ok Rh (λvs H Q E h=> ?_) (λgn A outer s H vs Q E hr h=> ?_)
 ·rw[1965];rfl
 ·rw[1964];refine(aK _ (aB (aW (zO kN kN (FD rfl T.tX) #[aq] (FD rfl T.vq)))) ?_)
  walk_at "rd"
  rw[1911]
abbrev aaK:Sp:=λvs H Q _=>∃n:Int,vs=#[za]/\Q (.bl (YP n)) H
def Di(T:Txt K mg t):ff P w K mg base tS 1 t.pd #[AZ] #[S] aaK:=by
 refine T.x8.fn.ok ZY (λvs H Q E h=> ?_) (λgn A outer s H vs Q E hr h=> ?_)
 ·rw[1965];rfl
 ·rw[1964];refine(aK _ (aB (aW (zO kN kN (FD rfl T.ur) #[aq] (FD rfl T.AU)))) ?_)
  walk_at "rd"
  rw[1911]
abbrev RN:Sp:=λvs H Q _=>∃n:Int,vs=#[za]/\Q (.bl (M4 n)) H
def ac9(T:Txt K mg t):ff P w K mg base tS 2 t.qR #[AX] #[S] RN:=by
 refine T.Hu.fn.ok acv (λvs H Q E h=> ?_) (λgn A outer s H vs Q E hr h=> ?_)
 ·rw[1965];rfl
 ·rw[1964];refine(aK _ (aB (aW (Wz (SR gf #[aq] (FD rfl T.fZ) (QK _)) (W1 (fV (HB T) #[an] rfl T.Cu T.rj.fn.kp T.rj.b .nil xT #[y]))))) ?_);simp[-ah,au,-ai,vC,Bn];by_cases h:n=10
  ·rw[aq h];unfold M4 at k;rw[aT h]at k;exact k
  ·rw[am h];unfold M4 at k;rw[aV h]at k;exact k
def take_snoc{a:Type}{l:List a}{x:a}(h:l[i]?=some x):l.take (i+1)=l.take i++[x]:=by rw[List.take_succ,h];rfl
def NU{H':Hp}{a:ae}(h:a8 K H a xs)(e:bp H H'):a8 K H' a xs:=e.seq h
def a3{D:ae}(h:H D=none):bp H (upd H D o):=λb u e=>by rw[aE (a5 e h)];exact e
def ajm{ns:List Int}{x:V}(h:#[N][i]?=some x):∃z,ns[i]?=some z/\x=V.int z:=by
 rw[bz]at h;cases e:ns[i]? with
 |none=>rw[e]at h;rw[1914]
 |some z=>rw[e]at h;exact #[nW]
def Fe{n:Nat}(h:n<=17000):n<aS:=Qv h #[c]
abbrev ae8(K:aA)(f:Int->Bool):Sp:=λvs H Q _=>∃(a:ae) (ns:List Int),vs=#[jv]/\a8 K H a #[N]/\ns.length<=17000/\∀H',bp H H'->Q #[xJ] H'
def YQ{f:Int->Bool}{a:ae}{ns:List Int}{sp:Sp}{g:TG}{te:TE}{Q:VK}(c:a8 K H a #[N])(h:ns.length<=17000)(k:∀H',bp H H'->Q #[xJ] H') (b:∀(z:Int) (H':Hp) (Q':VK),Q' (.bl (f z)) H'->te [some #[bh],some #[z9]] H' Q'):tLc (WA K #[AT]) (sN 1) Ph te [1] [some #[bh],none] H λx j=>L2.uf K [x] j Q:=by
 refine(cX a rfl (_,c) (λD d=>S1 (K:=K) (a:=a) (xs:=ns.map V.int) (λi H'=>H'=upd H D (.lst ((ns.take i).map λn=>V.bl (f n)))) rfl ?_ ?_ ?_))
 ·rintro i H' _ rfl;exact NU c (a3 d)
 ·rintro i x H' l rfl;let(z,hz,rfl):=21 (ajm l);rw[1899];unfold Ph;rw[1897];rw[1898];refine b z _ _ #[kD]
  ·rw[aD,bE];exact Fe (dk (Nat.min_le_right _ _) h)
  ·rw[d8,take_snoc hz,bb];rfl
 ·rintro H' rfl;rw[aD,cy];refine(c4 D (ns.map f) rfl (a8.of (by rw[ao,fO];rfl)) ?_);have e:(ns.map f).all id=ns.all f:=by rw[vF];rfl
  rw[e];exact k _ (a3 d)
def EE(T:Txt K mg t):ff P w K mg base tS 2 t.gQ #[Bi] #[kk] (ae8 K Gv):=by
 refine T.vv.fn.ok yL (λvs H Q E h=> ?_) (λgn A outer s H vs Q E hr h=> ?_)
 ·rw[2065];rfl
 ·rw[2032];refine(aK _ (aB (aW (wQ (ad7 rfl) #[aT] T.all #[a] (ag (QX (own:=#[zd]) rfl yL.nd #[sZ] (zP (N:=#[gD]) (sc:=aQ vm) #[a]) (λ_ _ _ _ _=>SN (i:=1) yL.nd rfl #[lZ]) (λ_ _ _ _ _=>Fv) (λ_ _ _ _ _=>(fV (HB T) #[an] rfl T.Cu T.rj.fn.kp T.rj.b .nil xT #[J]))) aw)))) ?_);exact YQ (sp:=Bn) (g:=sN 1) c d k λz H' Q' q=>(aK z rfl q)
def YR(T:Txt K mg t):ff P w K mg base tS 3 t.nD #[A4] #[kk] (ae8 K M4):=by
 refine T.IG.fn.ok F9 (λvs H Q E h=> ?_) (λgn A outer s H vs Q E hr h=> ?_)
 ·rw[2065];rfl
 ·rw[2032];refine(aK _ (aB (aW (wQ (ad7 rfl) #[aT] T.all #[a] (ag (QX (own:=#[zd]) rfl F9.nd #[sZ] (zP (N:=#[gD]) (sc:=aQ C5) #[a]) (λ_ _ _ _ _=>SN (i:=1) F9.nd rfl #[lZ]) (λ_ _ _ _ _=>Fv) (λ_ _ _ _ _=>(fV (ac9 T) #[an] rfl T.U4 T.Hu.fn.kp T.Hu.b .nil xT #[J]))) aw)))) ?_);exact YQ (sp:=RN) (g:=sN 1) c d k λz H' Q' q=>(aK z rfl q)
def M5{a C dx:ae}{fs:List #[o]}(h:a8 K H a xs)(b:H c=some #[x]):a8 K #[Dr,o] a xs:=by
 rw[1919]
 ·exact .inl (.inl (by rw[aE #[Bp]];exact h))
 ·exact .inl (.inr (ob,by rw[aE #[Bp]];exact h))
 ·rw[1923]
def dz{p:ae}(h:upd H c o p=none):H p=none/\p≠c:=by
 by_cases e:p=c
 ·rw[2046];rw[ao]at h;rw[1914]
 ·rw[aE e]at h;exact(h,e)
def NV{j:Nat}(a:i<=j)(b:j<=xs.length):tK xs (some i) (some j)=(xs.drop i).take (j-i):=by
 unfold tK;rw[HT.Ad,HT.Ad]
 all_goals (try (rw[jp #[bJ],jp #[ah]]))
nonrec abbrev cur (t:cI) (dx a:ae) (i:Int):HO:= .ins t.Cursor dx (nh #[bh] #[gn])
abbrev Ue(t:cI):Sp:=λvs H Q _=>∃(c dx a:ae),vs=#[Dq,a]/\H c=some #[d1]/\Q .cG #[Dr,#[cC]]
def CG(T:Txt K mg t):ff P w K mg base tS 1 t.kx #[Ba] #[cN] (Ue t):=by
 refine T.vO.fn.ok Tf (λvs H Q E h=> ?_) (λgn A outer s H vs Q E hr h=> ?_)
 ·let(c,dx,a,rfl,_):=23 h;rfl
 ·let(c,dx,a,rfl,b,k):=43 h;refine(aK _ (aj (W7 #[aq] #[aZ] rfl) (aB (W7 #[aq] a6 rfl))) ?_);simp[-ah,-aa,-ai,-aR,au,b,T.bP,T.i9,T.pA,ao,d8,X3,X4];exact k
abbrev Vb(K:aA)(t:cI):Sp:=λvs H Q _=>∃(c dx a:ae) (i:Int) (xs:List V),vs=#[hd]/\H c=some #[d5]/\a8 K H a xs/\Q (.bl (decide (#[o8]<=i))) H
def mL(T:Txt K mg t):ff P w K mg base tS 1 t.iG #[Bf] #[az] (Vb K t):=by
 refine T.jN.fn.ok Pw (λvs H Q E h=> ?_) (λgn A outer s H vs Q E hr h=> ?_)
 ·(let(c,dx,a,i,xs,b):=5 h;let(rfl,_):=20 b);rfl
 ·(let(c,dx,a,i,xs,b):=5 h;let(rfl,d,e,k):=60 b)
  refine(aK _ (aB (aW (SR alX #[dg] (wQ LW #[aT] T.len PySem.boot_len #[Cw,#[dg]]) (QK _)))) ?_);simp[-ah,-aa,-ai,au,d,T.bP,T.i9,T.pA,ni,iw];exact(aK xs #[oY] k)
abbrev ajn(K:aA)(t:cI):Sp:=λvs H Q _=>∃(c dx a:ae) (i:Nat) (xs:List V),vs=#[hd]/\H c=some #[d5]/\a8 K H a xs/\Q (xs.getD i .cG) H
def Jw(T:Txt K mg t):ff P w K mg base tS 2 t.ky #[A9] #[az] (ajn K t):=by
 refine T.zC.fn.ok Th (λvs H Q E h=> ?_) (λgn A outer s H vs Q E hr h=> ?_)
 ·(let(c,dx,a,i,xs,d):=5 h;let(rfl,_):=20 d);rfl
 ·(let(c,dx,a,i,xs,d):=5 h;let(rfl,e,f,k):=60 d)
  refine(aK _ (aB (aW (wM (dB (Pf #[aq] T.bP T.iH (mL T) #[an] T.jN.b .nil xT)) Az #[k5]))) ?_);simp[-ah,-aa,-ai,au,e,mJ];refine(xy c dx a i xs rfl e f #[q]);rw[2139]
  ·rw[am #[hP]];simp[-ah,-aa,-ai,au,e,T.bP,T.i9,T.pA,ni,iw];refine(a7 xs f (xs[i]) (oq (by simp[h])) ?_);rw[ei,aN h]at k;exact k
  ·rw[aq #[md]];rw[ei,eT #[f]]at k;exact k
abbrev Ug(K:aA)(t:cI):Sp:=λvs H Q _=>∃(c dx a:ae) (i:Nat) (xs:List V) (x:V),vs=#[hd]/\H c=some #[d5]/\a8 K H a xs/\xs[i]?=some x/\Q x #[kn]
def bW(T:Txt K mg t):ff P w K mg base tS 1 t.kz #[A8] #[az] (Ug K t):=by
 refine T.bY.fn.ok Jk (λvs H Q E h=> ?_) (λgn A outer s H vs Q E hr h=> ?_)
 ·(let(c,dx,a,i,xs,x,b):=6 h;let(rfl,_):=20 b);rfl
 ·(let(c,dx,a,i,xs,x,b):=6 h;let(rfl,d,e,f,k):=80 b)
  refine(aK _ (aj (QH (i:=1) Jk.nd rfl #[lZ] #[k5]) (aj (LR #[aq] a6 adZ) #[cc])) ?_);simp[-ah,-aa,-ai,-aR,au,d,T.bP,T.i9,T.pA,ni,iw,El];refine(eU xs e x (oq f) #[fj] ?_);exact k
abbrev YS(K:aA)(t:cI):Sp:=λvs H Q _=>∃(c dx a:ae) (i n:Nat) (xs:List V),vs=#[hd]/\H c=some #[d5]/\a8 K H a xs/\xs[i]?=some #[wF]/\i+1+n<=xs.length/\∀p,H p=none->Q #[aI] (upd (upd H c (cur t dx a (i+1+n:Nat))) p (.lst ((xs.drop (i+1)).take n)))
def wq(T:Txt K mg t):ff P w K mg base tS 2 t.fQ #[Bk] #[az] (YS K t):=by
 refine T.pL.fn.ok wc (λvs H Q E h=> ?_) (λgn A outer s H vs Q E hr h=> ?_)
 ·(let(c,dx,a,i,n,xs,d):=6 h;let(rfl,_):=20 d);rfl
 ·(let(c,dx,a,i,n,xs,d):=6 h;let(rfl,f,g,l,m,k):=100 d)
  refine(aK _ (aj (QH (i:=1) wc.nd rfl #[lZ] (Pf #[aq] T.bP T.bU (bW T) #[an] T.bY.b .nil xT))
   (aj (QH (i:=2) wc.nd rfl #[lZ] #[dg])
   (aj (LR #[aq] #[aZ] adZ)
   (aB (aW (tJ Ae #[dg] (pZ #[bG]) (pZ #[dg]))))))) ?_)
  simp[-ah,-aa,-ai,-aR,au,f,T.bP,T.i9,T.pA,ni,iw,El,bM];refine(Bm c dx a i xs _ rfl f g l ?_);simp[-ah,-aa,-ai,-aR,au,f,T.bP,T.i9,T.pA,ni,iw,El,bM,ao,d8];refine(gU #[fj] xs (M5 g f) (λp o=> ?_));have e:=NV (xs:=xs) (i:=i+1) (j:=i+1+n) #[j] m;rw[Nat.add_sub_cancel_left]at e;have q:=k p (dz o).1;rw[<-e]at q;rw[2105]
#where
#print Pe
#where
section
namespace Pe
open PySem PySem.Spec PyProof.Rows L2
open Vatrko (Text Item Fit Part)
open Vatrka (Piece Pending shown visible bears next shownValue shownLook count outright doPaint paintPiece doCut cutPiece doPut newPieces)
section
variable {P0:cj}
local macro_rules | `(tactic| walk_at $s:str) => do let u <- `(_); let n := s.getString.toNat!; let f n t := `($(Lean.mkIdent (.mkSimple s!"e{n}_0")) h fun $(.replicate n u)* h => $t); let t <- `(dA _ h.1); let t <- (if n > 10 then do f 8 (<- f (n - 8) t) else f n t); `(tactic| exact λ_ _ _ _ h => $t)
instance atV:Nonempty V:=⟨.cG⟩
instance atp:Nonempty SF:=⟨(0,[],[],[],[],[])⟩
instance atq:Nonempty aU:=⟨([],0,0,true,[])⟩
instance atr:Nonempty dN:=⟨(([],0,0,true,[]),none,[],true,none)⟩
instance ats:Nonempty Vatrko.Item:=⟨.ends⟩
instance att:Nonempty mj:=⟨([],true,none)⟩
instance atu:Nonempty Vatrko.Fit:=⟨.any⟩
instance atv:Nonempty bq:=⟨(0,0,[])⟩
section
variable {x qual:Str}{st:bu}{f:ae}{fd:jF}{N ps:List Str}{k:Nat}{sp:Sp}
nonrec abbrev KP:=ax->dE->List Env->aL->Hp->List V->VK->XK->Prop
nonrec abbrev KT:=ax×dE×List Env×aL×Hp×List V×VK×XK×Unit
abbrev kaA(p:KP)(c:KT):Prop:=p c.1 c.2.1 c.2.2.1 c.2.2.2.1 c.2.2.2.2.1 c.2.2.2.2.2.1 c.2.2.2.2.2.2.1 c.2.2.2.2.2.2.2.1
abbrev BY(p:KP):KT:= @Classical.epsilon KT ⟨(.none,{},[],{},λ_=>none,[],λ_ _=>True,λ_ _ _=>True,())⟩ λc=>¬kaA p c
def kaH{p:KP}(h:kaA p (BY p))(c:KT):kaA p c:=Classical.byContradiction λn=> @Classical.epsilon_spec KT (λc=>¬kaA p c) (c,n) h
abbrev ON(N:List Str)(qual:Str)(st:bu)(f:ae)(k:Nat)(sp:Sp):KP:=λgn A outer s H vs Q E=>jA k #[fX]->sp vs H Q E->∃t,BS (yA tS P w K mg base N qual #[sl] f gn A outer s H E).nox #[vz] t/\t {nx:=λ_ H'=>Q .cG H',rt:=Q} #[fV] H
abbrev OO(N:List Str)(qual:Str)(st:bu)(f:ae)(k:Nat)(sp:Sp):KP:=λgn A outer s H vs Q E=>XOk #[bl] E->XMk #[bl] E->jA k #[fX]->sp vs H Q E->∃t,BS #[bl] #[vz] t/\t {nx:=λ_ H'=>Q .cG H',rt:=Q} #[fV] H
def okH(F:OD K x qual st f fd)(S:aY N ps #[sl])(len:∀vs H Q E,sp vs H Q E->vs.length=ps.length)(h:ON N qual st f k sp #[aH].1 #[aH].2.1 #[aH].2.2.1 #[aH].2.2.2.1 #[aH].2.2.2.2.1 #[aH].2.2.2.2.2.1 #[aH].2.2.2.2.2.2.1 #[aH].2.2.2.2.2.2.2.1):ff P w K mg base tS (k+1) f fd ps sp:=F.ok S len λgn A outer s H vs Q E=>kaH (p:=ON N qual st f k sp) h #[mr]
def okG(F:OD K x qual st f fd)(S:aY N ps #[sl])(len:∀vs H Q E,sp vs H Q E->vs.length=ps.length)(h:OO N qual st f k sp #[aG].1 #[aG].2.1 #[aG].2.2.1 #[aG].2.2.2.1 #[aG].2.2.2.2.1 #[aG].2.2.2.2.2.1 #[aG].2.2.2.2.2.2.1 #[aG].2.2.2.2.2.2.2.1):ff P w K mg base #[f4] (k+1) f fd ps sp:=F.okE S len λgn A outer s H vs Q E=>kaH (p:=OO N qual st f k sp) h #[mr]
#where
variable (T:Txt K mg t)
set_option hygiene false
local macro_rules | `(#[$n, $f, $l, $s]) => `(ff P w K mg base tS $n $f (fdOf K $f) $l $s)
local macro_rules | `(tactic| exists $x,*) => do let x := x.getElems; let m := Lean.mkIdent; let b := x.size > 3; let r <- `(tactic| refine $(m (if b then `okG else `okH)) ($(x[0]!)).fn $(x[1]!) (by walk_at $(⟨x[2]!⟩)) ?_); let r <- g_ r (<- `(BY _)) ([`gn, `A, `outer, `s, `H, `vs, `Q, `E].map m); `(tactic| ($r; intro $(((if b then [`x, `xm] else []) ++ [`hr, `h]).toArray.map λn => ⟨m n⟩)*))
set_option hygiene true
variable {ts u r cO:bB}{i j n bc lv:Nat}{c p f0 C en se de lp la fa:ae}{H H1 H2 H':Hp}{o:HO}{α β:Type}{E:XK}{Q:VK}{vs xs ys zs:List V}{v0 v1 v2 v3 v4 v5 v6 v7 v:V}{N' S:ae->Prop}{f:Fit}{it:Item}{rs B:List ae}{l:List Item}{tb us:TS}{D:Ends}{σ:L2.St}{y:lX}{x':Piece}{tt:TT}{te ta:TE}{sp:Sp}{o5:List (Key×V)}{mv:List (Nat×Nat)}{X:mj}{pr vl e:Int}{s:dN}{d' s':aU}{an:zk}{vc:Vatrka.Call}{cc:List (List Int)}{fd:jF}
abbrev nums(ts:bB):List V:=oQ (λ(c:Nat)=>V.int (c:Int)) ts
def jd:#[vI][i]?=(ts[i]?).map λ(c:Nat)=>V.int (c:Int):=bz
def bG:#[vI].length=ts.length:=aD _
structure At(K:aA)(t:cI)(H:Hp)(c dx a:ae)(ts:bB)(i:Nat):Prop where
 cu:H c=some #[d5]
 sq:a8 K H a #[vI]
 le:i<=ts.length
 sm:ts.length<=17000
abbrev dI(c:ae)(H H':Hp):Prop:=∀b o,H b=some o->b≠c->H' b=some o
def dI.refl:dI c H H:=λ_ _ h _=>h
def dI.trans(a:dI c H H1)(b:dI c H1 H2):dI c H H2:=λx o h n=>b x o #[wh] n
def dI.upd:dI c H #[Dr,o]:=λb u h n=>by rw[aE n];exact h
def dI.new(k:dI c H H')(h:H' p=none):dI c H (L2.upd H' p o):=λb u e n=>by have q:=k b u e n;rw[aE (a5 q h)];exact q
def drop_cons{l:List α}{x:α}{r:List α}(h:l.drop i=x::r):l[i]?=some x/\l.drop (i+1)=r/\i<l.length:=by
 have a:i<l.length:=by
  by_cases z:i<l.length
  ·exact z
  ·rw[vG #[j]]at h;rw[1914]
 rw[iY a]at h;injection h with b c;exact(e7 (by rw[aN a,b]) c a)
def drop_nil{l:List α}(h:l.drop i=[]):l.length<=i:=List.drop_eq_nil_iff.mp h
def At.step{dx a:ae}(h:At K t H c dx a ts i)(b:i<ts.length):At K t #[kn] c dx a ts (i+1):=(ao,M5 h.sq h.cu,b,h.sm)
def At.keep{dx a:ae}(h:At K t H c dx a ts i)(k:bp H H'):At K t H' c dx a ts i:=(k _ _ h.cu,k.seq h.sq,h.le,h.sm)
abbrev Bad(t:cI)(c:ae)(H:Hp)(E:XK):Prop:=∀H',dI c H H'->E #[ra] none H'
def Bad.of(b:Bad t c H E)(k:dI c H H1):Bad t c H1 E:=λH' a=>b H' (k.trans a)
abbrev tq(K:aA)(t:cI){α:Type}(f:bB->Option (α×bB))(b:Hp->Hp->V->α->Prop)(c:ae):Hp->VK->XK->Prop:=λH Q E=>∃(dx a:ae) (ts:bB) (i:Nat),At K t H c dx a ts i/\(f #[mT]=none->Bad t c H E)/\∀x r,f #[mT]=some ((x),r)->∀H' v j,At K t H' c dx a ts j->ts.drop j=r->dI c H H'->b H H' v x->Q v H'
nonrec abbrev isNum:Hp->Hp->V->Nat->Prop:=λ_ _ v x=>v= .int (x:Int)
abbrev Oo(K:aA)(t:cI):Sp:=λvs H Q E=>∃c:ae,vs=#[hd]/\tq K t ace isNum c H Q E
def ub(T:Txt K mg t):ff P w K mg base #[f4] 2 t.gR #[Bh] #[aK] (Oo K t):=by
 exists T.gS,N3,"1",_
 (let(c,rfl,d):=521 h;let(dx,a,g,i,b,f,good):=44 d)
 refine aK _ (aj (bX #[dv] #[r] bw) #[Cz,#[bD]]) ?_;rw[1891];simp[-ah,-aa,-ai,-aR,au,b.cu,mJ,bM];refine(xy c dx a i _ rfl b.cu b.sq #[q]);cases e:g.drop i with
 |nil=>rw[aq (by rw[bG];have:=drop_nil e;simp;omega)];exact(by decide,f #[zN] H dI.refl)
 |cons z r=>let(j,k,l):=40 #[cH];rw[am (by rw[bG];simp;omega)];refine(c4 dx _ b.cu bM (Bm c dx a i _ _ rfl b.cu b.sq (by rw[jd,j];rfl) ?_));exact good z r #[zN] _ _ (i+1) (b.step l) k dI.upd rfl
abbrev Bo(K:aA)(t:cI):Sp:=λvs H Q _=>∃(c:ae) (k:Nat),vs=#[jK]/\∃(dx a:ae) (ts:bB) (i:Nat),At K t H c dx a ts i/\(∀r,ts.drop i=k::r->∀H',At K t H' c dx a ts (i+1)->dI c H H'->Q #[hZ] H')/\((∀r,ts.drop i≠k::r)->Q #[fs] H)
def my: #[3,t.sR,#[W],Bo K t]:=by
 exists T.lM,acw,"2"
 (let(c,k,rfl,f):=522 h;let(dx,a,g,i,b,j,l):=44 f)
 refine aK _ (aj (bX (f7 xS #[kz] #[aZ]) #[tV] bw) (aj (c9 #[bD]) #[tV])) ?_;rw[1891];simp[-ah,-aa,-ai,-aR,au,b.cu,CC,bM];refine(xy c dx a i _ rfl b.cu b.sq ?_);cases e:g.drop i with
 |nil=>
  have d:(nums g).getD i .cG= .cG:=by rw[ei,eT (by rw[bG];exact drop_nil e)];rfl
  rw[d];simp[ams];exact l λr z=>by rw[e]at z;cases z
 |cons z r=>
  let(d,p,m):=40 #[cH];have n:(nums g).getD i .cG= .int (z:Int):=by rw[ei,jd,d];rfl
  rw[n];by_cases h:z=k
  ·subst h;simp[-ah,-aa,-ai,-aR,au,b.cu,vC,bM];refine(Bm c dx a i _ _ rfl b.cu b.sq (by rw[jd,d];rfl) ?_);exact j r e _ (b.step m) dI.upd
  ·have h':¬(z:Int)=(k:Int):=by lia
   simp[h',h,vC];exact l λs q=>by rw[e]at q;injection q with o _;exact h o
abbrev ag4(k:Nat)(ts:bB)(i j:Nat):Bool->Prop
 |true=>ts.drop i=k::ts.drop j
 |false=>j=i/\∀r,ts.drop i≠k::r
def tP{dx a:ae}{k:Nat}{z:Int}(hz:z=(k:Int))(f:At K t H c dx a ts i)(g:∀b H' j,At K t H' c dx a ts j->dI c H H'->ag4 k ts i j b->Q #[mq] H'):Bo K t [.ref c,.int z] H Q E:=(fi c k (by rw[hz]) (lj dx a ts i f (λr e H' d h=>g true H' (i+1) d h (by show ts.drop i=k::ts.drop (i+1);rw[#[cH].2.1];exact e)) (λne=>g false H i f dI.refl (rfl,ne))))
def YT{Q':VK}(h:Bo K t vs H Q E)(m:∀v H',Q v H'->Q' v H'):Bo K t vs H Q' E:=by
 (let(c,k,e,b):=22 h;let(dx,a,f,i,g,y,n):=44 b)
 exact(fi c k e (lj dx a f i g (λr q H' d j=>m _ _ (y r q H' d j)) (λq=>m _ _ (n q))))
def At.NU{dx a:ae}(h:At K t H c dx a ts i)(k:dI c H H'):a8 K H' a #[vI]:=by
 rcases h.sq with(q|⟨o,q⟩)|q
 ·exact .inl (.inl (k _ _ q #[xv]))
 ·exact .inl (.inr (o,k _ _ q #[xv]))
 ·rw[2117]
abbrev YU(K:aA)(t:cI):Sp:=λvs H Q E=>∃(c:ae) (k:Nat),vs=#[jK]/\tq K t (vj k) (λ_ _ v _=>v= .cG) c H Q E
def M6(T:Txt K mg t):ff P w K mg base #[f4] 4 t.nG #[A1] #[W] (YU K t):=by
 exists T.vU,XX,"2",_
 (let(c,k,rfl,b):=522 h;let(dx,a,g,i,j,d,good):=44 b)
 refine aK _ (aB (bX (fj (dB #[Cq,#[J]])) #[r] bw)) ?_;rw[1891];rw[1892];refine(fi c k rfl (lj dx a g i j (λr e H' f l=>#[q]) (λne=>#[q])))
 ·simp;exact good () r (by rw[e];exact aq rfl) H' _ (i+1) f #[cH].2.1 l rfl
 ·simp;refine(by decide,d ?_ H dI.refl);cases e:g.drop i with
  |nil=>rfl
  |cons z r=>show(if z=k then _ else _)=_;rw[am λq=>ne r (by rw[e,q])]
def P4{z:Nat}:YP (z:Int)=d7 z:=by unfold YP d7;have a:decide ((48:Int)<=(z:Int))=decide (48<=z):=decide_eq_decide.mpr #[f];have b:decide ((z:Int)<=(57:Int))=decide (z<=57):=decide_eq_decide.mpr #[bJ];rw[a,b]
def Gx{z:Nat}(h:d7 z=true):48<=z/\z<=57:=by unfold d7 at h;simp at h;exact h
abbrev We(K:aA)(t:cI):Sp:=λvs H Q E=>∃c:ae,vs=#[hd]/\tq K t Dt isNum c H Q E
def Lh(T:Txt K mg t):ff P w K mg base #[f4] 3 t.l7 #[A5] #[aK] (We K t):=by
 exists T.uC,Lf,"1",_
 (let(c,rfl,g):=521 h;let(dx,a,f,i,o,d,good):=44 g)
 refine aK _ (aj (bQ 1 Lf.nd #[bB])
   (aj (bX (fj (dB (d5 hr (Di T) T.A6 T.x8 #[J]))) #[r] bw)
   (aB (aW (cV ji #[aZ] (cN T.ur)))))) ?_
 rw[1891];rw[1892];refine(aK c rfl (lj dx a f i o (λe=>d ?_) (λz r e l v j k hd m p=> ?_)))
 ·cases q:f.drop i with
  |nil=>rfl
  |cons _ _=>rw[q]at e;rw[2048]
 ·subst p;have n:f.drop i=z::r:=by
   cases q:f.drop i with
   |nil=>rw[q]at e;rw[2048]
   |cons _ _=>rw[q]at e;rw[2048];rfl
  rw[1892];rw[2015];rw[P4];cases hz:d7 z with
  |true=>simp;have s:=Gx hz;refine good (z-48) r (by rw[n];exact aq hz) l _ j k hd m ?_;show V.int _=V.int _;congr 1;omega
  |false=>simp;exact(by decide,d (by rw[n];exact am (by rw[hz];decide)) l m)
abbrev Wf(K:aA)(t:cI):Sp:=λvs H Q E=>∃c:ae,vs=#[hd]/\tq K t mU isNum c H Q E
def afa{x:Nat}(h:Dt u=some ((x),r)):x<10:=by
 unfold Dt at h;split at h
 ·rw[1914]
 ·split at h
  ·rename_i hz;have:=Gx hz;rw[1914];omega
  ·rw[1914]
def Li(T:Txt K mg t):ff P w K mg base #[f4] 4 t.l6 #[A6] #[aK] (Wf K t):=by
 exists T.uB,Ef,"1",_
 (let(c,rfl,g):=521 h;let(dx,a,k,i,A,l,good):=44 g)
 refine aK _ (aj (bQ 1 Ef.nd #[eH])
   (aj (bX (PW.pt (QF (fj #[dv]) (Nv (dB (d5 hr (Di T) T.A6 T.x8 #[Cw,#[kz]]))))) (aB (bQ 1 Ef.nd (cV rA #[jC] #[eH])))
    bw)
   #[cc])) ?_
 rw[1891];rw[1892];refine(aK c rfl (lj dx a k i A (λe=>l ?_) (λz r e u v j d hd m B=> ?_)))
 ·unfold mU;rw[e];rfl
 subst B;have hz:=afa e;simp[-ah,-aa,-ai,au,d.cu,mJ,CC];refine(xy c dx a j _ rfl d.cu d.sq #[q]);cases r with
 |nil=>have:=drop_nil hd;rw[aq #[s6]];refine good z [] ?_ u _ j d hd m rfl;unfold mU;rw[e];rfl
 |cons y r=>
  let(C,H,I):=40 #[zH];rw[am #[s6]];refine(c4 dx _ d.cu CC (xy c dx a j _ rfl d.cu d.sq ?_));have D:(nums k).getD j .cG= .int (y:Int):=by rw[ei,jd,C];rfl
  rw[D];rw[2015];rw[P4];cases f:d7 y with
  |false=>simp;refine good z (y::r) ?_ u _ j d hd m rfl;unfold mU;rw[e];show #[nU]=_;rw[am (by rw[f];decide)]
  |true=>
   simp[-ah,-aa,-ai,-aR,au,SQ];refine(aK c rfl (lj dx a k j d (λq=> ?_) (λz2 J q E L F n o p s=> ?_)))
   ·rw[hd]at q;have:Dt (y::r)=some ((y-48),r):=aq f;rw[this]at q;rw[2090]
   ·rw[hd]at q;have G:Dt (y::r)=some ((y-48),r):=aq f;rw[G]at q;rw[2090];subst s;rw[1982];refine good (10*z+(y-48)) r ?_ E _ F n o (m.trans p) ?_
    ·unfold mU;rw[e];show #[nU]=_;rw[aq f]
    ·show V.int _=V.int _;congr 1
abbrev RO(H:Hp)(r:ae)(p:Nat×Nat):Prop:=H r=some (.tup [.int (p.1:Int),.int (p.2:Int)])
abbrev ll(H:Hp)(rs:List ae)(l:List #[aw]):Prop:=Paired (λr p=>RO H r p) rs l
abbrev lz:Fit->Bool×List #[aw]
 | .sign c=>#[yo]
 | .any=>((true),[])
 | .set d l=>((d),l)
abbrev lA(t:cI)(N:ae->Prop)(H:Hp)(u:ae)(f:Fit):Prop:=∃(dx l:ae) (rs:List ae),N l/\H u=some (.ins t.Unit dx #[o7])/\H l=some #[ax]/\ll H rs #[vO].2
abbrev iE(t:cI)(N:ae->Prop)(H:Hp)(p:ae):Item->Prop
 | .unit f lo a sp=>∃(dx u:ae),H p=some (.ins t.Item dx (fe #[rd] #[z5] #[pT] (.int (a:Int)) #[wM]))/\lA t N H u f
 | .begins=>∃dx,H p=some #[Ca,2]
 | .ends=>∃dx,H p=some #[Ca,3]
 | .opening=>∃dx,H p=some #[Ca,4]
 | .closing=>∃dx,H p=some #[Ca,5]
def ll.keep(k:∀(b:ae) xs,H b=some #[bL]->H' b=some #[bL]):∀{rs:List ae} {l:List (Nat×Nat)},ll H rs l->ll H' rs l:=by
 rw[2059]
 induction h with
 |nil=>exact .nil
 |cons h r a=>exact .cons (k _ _ h) a
abbrev Still(H H':Hp):Prop:=∀(b:ae) (o:HO),H b=some o->(∀C dx fs,o= .ins C dx fs->fs.lookup #[kY]=none)->H' b=some o
def Still.trans(a:Still H H1)(b:Still H1 H2):Still H H2:=λx o h n=>b x o #[wh] n
def Still.of_keep{dx a:ae}{i:Int}(k:dI c H H')(d:H c=some #[d5]):Still H H':=λb o h n=>k b o h λe=>by subst e;rw[d]at h;have e:=dm.inj h;have z:=n _ _ _ e.symm;rw[ni]at z;cases z
def Still.of_same(k:bp H H'):Still H H':=λb o h _=>k b o h
def RP:#[sP].lookup #[kY]=none:=by unfold yg;rw[eQ #[a],eQ #[a]];rfl
def RQ:#[cw].lookup #[kY]=none:=by unfold fe;rw[eQ #[a],eQ #[a],eQ #[a],eQ #[a],eQ #[a]];rfl
def lA.mono{N:ae->Prop}{u:ae}(h:lA t N H u f)(m:∀l,N l->N' l):lA t N' H u f:=by let(dx,l,a,h0,h):=23 h;exact(x3_ dx l a (m l h0,h))
def lA.tW{N:ae->Prop}{u:ae}(h:lA t N H u f)(k:Still H H'):lA t N H' u f:=by let(dx,l,a,h0,c,d,g):=63 h;exact(jc dx l a h0 (k _ _ c (λ_ _ _ e=>by injection e with _ _ e;rw[<-e];exact RP)) (k _ _ d (λ_ _ _ e=>by cases e)) (g.keep λb xs q=>k _ _ q (λ_ _ _ e=>by cases e)))
def iE.mono{N:ae->Prop}(h:iE t N H p it)(m:∀l,N l->N' l):iE t N' H p it:=by
 cases it with
 |unit f lo c sp=>let(dx,u,a,b):=22 h;exact(fi dx u a (b.mono m))
 |begins=>exact h
 |ends=>exact h
 |opening=>exact h
 |closing=>exact h
def lA.other{N:ae->Prop}{u:ae}(h:lA t N H u f)(a:H f0=some #[ai])(n:¬N f0):lA t N #[tv] u f:=by
 let(dx,l,d,h0,c,e,g):=63 h;refine(jc dx l d h0 ?_ ?_ (g.keep λb xs q=> ?_))
 ·rw[aE (dt c a #[b])];exact c
 ·have i:l≠f0:=λz=>by rw[z]at h0;exact n h0
  rw[aE i];exact e
 ·rw[aE #[Cj,a]];rw[2105]
def iE.other{N:ae->Prop}(h:iE t N H p it)(b:H f0=some #[ai])(n:¬N f0):iE t N #[tv] p it:=by
 have z:∀{dx:ae} {c d e g i:V},H p=some #[mn]->upd H f0 o p=some #[mn]:=λq=>by rw[aE #[Cj,b]];rw[2105]
 cases it with
 |unit f lo k sp=>let(dx,u,a,j):=22 h;exact(fi dx u (z a) (j.other b n))
 |begins=>let(dx,a):=1 h;rw[1920]
 |ends=>let(dx,a):=1 h;rw[1920]
 |opening=>let(dx,a):=1 h;rw[1920]
 |closing=>let(dx,a):=1 h;rw[1920]
def mC{l:ae}(k:dI c H H1)(a:H1 c=some o)(h:H1 l=none):H l=none:=by
 cases e:H l with
 |none=>rfl
 |some u=>rw[k l u e (λz=>by rw[z,a]at h;cases h)]at h;rw[1914]
def iE.tW{N:ae->Prop}(h:iE t N H p it)(k:Still H H'):iE t N H' p it:=by
 have z:∀{dx:ae} {b c d g i:V},H p=some #[mo]->H' p=some #[mo]:=λq=>k _ _ q (λ_ _ _ e=>by injection e with _ _ e;rw[<-e];exact RQ);cases it with
 |unit f lo l sp=>let(dx,u,a,j):=22 h;exact(fi dx u (z a) (j.tW k))
 |begins=>let(dx,a):=1 h;rw[1920]
 |ends=>let(dx,a):=1 h;rw[1920]
 |opening=>let(dx,a):=1 h;rw[1920]
 |closing=>let(dx,a):=1 h;rw[1920]
abbrev YV(t:cI):Sp:=λvs H Q _=>∃(p dx:ae) (v0 v1:V),vs=#[y8]/\H p=some #[Ct,t.Unit]/\Q .cG (upd H p (.ins t.Unit dx #[sP]))
def Gy: #[1,t.pj,#[df],YV t]:=by exists T.zb,XT,"4";let(p,dx,b,c,rfl,a,k):=544 h;refine aK _ #[jZ] ?_;dsimp only[b6,aZ,bC,bD,ak,aH,ay,az,aG,aJ,aO,aP];simp[-ah,-aa,-aR,au,a,T.FB,T.rJ,T.vM,ao,d8,acz,acA];exact k
abbrev YW(t:cI):Sp:=λvs H Q _=>∃(p dx:ae) (v0 v1 v2 v3 v4:V),vs=[.ref p,v0,v1,v2,v3,v4]/\H p=some #[Ct,t.Item]/\Q .cG (upd H p (.ins t.Item dx #[cw]))
def Bp: #[1,t.pq,#[aP],YW t]:=by
 exists T.vT,XU,"7"
 (let(p,dx,c,d,e,f,g,a):=507 h;let(rfl,b,k):=40 a)
 refine aK _ (aj #[cV] (aj #[cY] (aj #[g6] (aj #[m3] (aB (gr #[aq] (pv 5))))))) ?_;rw[1891];simp[-ah,-aa,-aR,au,b,T.oW,T.kH,T.pB,T.xn,T.sV,T.vN,ao,d8,acB,acC,acD,acE,acF];exact k
def lO{x dx:ae}(nx:H x=none)(nd:H dx=none):bp H (upd #[my] x o):=λb u e=>by rw[d8,aE (a5 e nx),aE (a5 e nd)];exact e
abbrev RR:Nat->Option Item
 |2=>some .begins
 |3=>some .ends
 |4=>some .opening
 |5=>some .closing
 |_=>none
abbrev abC(t:cI):Sp:=λvs H Q _=>∃(k:Nat) (it:Item),vs=#[zb]/\RR k=some it/\∀H' p,bp H H'->(∀N,iE t N H' p it)->Q #[aI] H'
def YX{k:Nat}(h:RR k=some it){dx:ae}(e:H p=some (.ins t.Item dx (fe (.int (k:Int)) .cG #[gU] #[gU] #[hZ])))(N:ae->Prop):iE t N H p it:=by unfold RR at h;split at h<;>first|(cases h;exact(dx,e))|cases h
def NW: #[3,t.AR,#[zf],abC t]:=by exists T.Jr,ai7,"2";let(n,it,rfl,a,k):=542 h;refine aK _ (aB (aW (cb hr T.Cs (Bp T) T.Ge T.vT (ag #[aq] (ag Az #[oN]))))) ?_;dsimp only[b6,aZ,bC,bD,ak,aH,ay,az,aG,aJ,aO,aP];simp[-ah,-aa,-aR,au];intro x dx nx nd ne;refine #[CG,dx];exact k _ x #[yd] (YX a ao)
abbrev Uh(t:cI)(f:Fit):Hp->VK->Prop:=λH Q=>∀H' u,bp H H'->lA t (λl=>H l=none) H' u f->Q #[z5] H'
abbrev Ui(t:cI):Sp:=λvs H Q _=>∃u:Unit,vs=[]/\Uh t .any H Q
def Jx: #[3,t.mq,[],Ui t]:=by exists T.sH,To,"1";let(u,rfl,k):=21 h;refine aK _ (aB (aW (cb hr T.FC (Gy T) T.Jo T.zb (ag #[kC] #[yD])))) ?_;dsimp only[b6,aZ,bC,bD,ak,aH,ay,az,aG,aJ,aO,aP];simp[-ah,-aa,-aR,au];intro l a x dx nx nd ne;refine #[g3];refine k _ x ((a3 a).trans #[yd]) (jc dx l ([]) a ao ?_ .nil);exact lO nx nd _ _ ao
abbrev RS(t:cI):Sp:=λvs H Q _=>∃c:Nat,vs=#[zc]/\Uh t (.sign c) H Q
def HC: #[3,t.kW,#[ze],RS t]:=by
 exists T.yc,Rk,"1";rw[2080];refine aK _ (aB (aW (cb hr T.FC (Gy T) T.Jo T.zb (ag (cf (ag (lY #[CJ,#[y]]) aw)) #[yD])))) ?_;rw[1891];rw[2020];refine(by decide,λr a=>(by decide,λl b x dx nx nd ne=> ?_));refine #[g3];refine k _ x (((a3 a).trans (a3 b)).trans #[yd]) (jc dx l ([r]) ((dz b).1) ao ?_ (.cons ?_ .nil))
 ·exact lO nx nd _ _ ao
 ·exact lO nx nd _ _ (a3 b _ _ ao)
abbrev esc(d:Nat):Nat:=if d=110 then 10 else d
abbrev M7(t:cI):Sp:=λvs H Q _=>∃c:Nat,vs=#[zc]/\Uh t (.sign (esc c)) H Q
def M8: #[4,t.hZ,#[eR],M7 t]:=by
 exists T.yR,Mx,"1";rw[2080];refine aK _ (aB (aW (d5 hr (HC T) T.Cz T.yc (ag (wM #[qO] #[ll] #[aq]) aw)))) ?_;rw[1891];simp[-ah,-aa,-aR,au,-ai,vC];by_cases h:c=110
 ·subst h;simp;exact(aK 10 rfl k)
 ·have h':¬(c:Int)=110:=by lia
  simp[h'];unfold esc at k;rw[am h]at k;exact(aK c rfl k)
def dI.same(k:dI c H H1)(s:bp H1 H2):dI c H H2:=λb o h n=>s b o (k b o h n)
nonrec abbrev afb (t:cI) (N:ae->Prop) (f:Fit):Hp->Hp->V->Nat×Nat×Bool->Prop:=λ_ H v y=>∃p,v= .ref p/\iE t N H p (.unit f y.1 y.2.1 y.2.2)
abbrev aaL(K:aA)(t:cI):Sp:=λvs H Q E=>∃(c u:ae) (lo a:Nat) (f:Fit) (N:ae->Prop),vs=[.ref c,.ref u,.int (lo:Int),.int (a:Int)]/\lA t N H u f/\tq K t (λx=>some (yB lo a x)) (afb t N f) c H Q E
def OP: #[4,t.qH,#[b0],aaL K t]:=by
 exists T.E3,OI,"6"
 (let(c,u,lo,k,f,N,p):=506 h;let(rfl,y,s):=40 p;let(dx,a,l,i,w,z,good):=44 s)
 refine aK _ (aj (bQ 4 OI.nd #[Cq,#[wc]]) (aB (aW (cb hr T.Cs (Bp T) T.Ge T.vT (ag #[v5] (ag #[aZ] (ag #[bG] (ag #[dy] (ag (adP #[pf]) aw))))))))) ?_;rw[1891];rw[1892];have m:∀(d:Hp) (sp:Bool) (j:Nat),At K t d c dx a l j->dI c H d->yB lo k (l.drop i)=(((lo),k,sp),l.drop j)->∀x b,d x=none->d b=none->Q #[ht] (upd (upd (upd d b #[gS]) x (.ins t.Item b [])) x (.ins t.Item b #[ek])):=by intro d sp j g n e x b nx nd;have sm:=lO (C:=t.Item) (o:= .ins t.Item b #[ek]) nx nd;exact good ((lo),k,sp) _ (by show some (yB lo k (l.drop i))=_;rw[e]) _ _ j (g.keep sm) rfl (n.same sm) (aK x rfl (fi b u ao (y.tW ((Still.of_keep n w.cu).trans #[mj]))))
 refine(fi c 126 rfl (lj dx a l i w (λr e d g n=> ?_) (λne=> ?_)))
 ·refine #[fQ];exact m d true (i+1) g n (by rw[e,#[cH].2.1];rfl) x b nx nd
 ·refine #[fQ];exact m H false i w dI.refl (aeq λv q=>ne v q) x b nx nd
abbrev Wg(K:aA)(t:cI):Sp:=λvs H Q E=>∃(c u:ae) (f:Fit) (N:ae->Prop),vs=#[Dq,u]/\lA t N H u f/\tq K t ug (afb t N f) c H Q E
def afc:ug (64::r)=some #[vn]:=rfl
def xA:ug (123::r)=(mU r).bind λx=>(vj 44 x.2).bind λy=>(mU y.2).bind λz=>(vj 125 z.2).bind λu=>if z.1<x.1\/z.1<1 then none else some #[w2]:=rfl
def aaM(a:∀r,u≠64::r)(b:∀r,u≠123::r):ug u=some ((#[q9]),u):=by
 unfold ug;split
 ·rename_i r;exact absurd rfl (a r)
 ·rename_i r;exact absurd rfl (b r)
 ·rfl
def Wh(T:Txt K mg t):ff P w K mg base #[f4] 5 t.l5 #[A7] #[mO] (Wg K t):=by
 exists T.A9,Ee,"4",_
 (let(c,u,f,N,rfl,Q,R):=544 h;let(dx,a,k,i,D,g,good):=44 R)
 refine aK _ (aj (bX #[B6,T.Dy] (aB (aW (d5 hr (OP T) T.Kv T.E3 (ag #[aq] (ag #[aZ] (ag a6 #[Cw,#[Bw]])))))) bw) (aj (bX (fj #[B6,T.xj]) (aB (aW (cb hr T.Cs (Bp T) T.Ge T.vT (ag #[v5] #[Df,#[oN]])))) bw) (aj (bQ 2 Ee.nd #[eG])
   (aj (c9 (fV (M6 T) #[an] #[aT] T.IH T.vU.fn.kp T.vU.b .nil x.pass #[B9,T.NM]))
   (aj (bQ 3 Ee.nd #[eG])
   (aj (c9 (fV (M6 T) #[an] #[aT] T.IH T.vU.fn.kp T.vU.b .nil x.pass #[B9,T.vJ]))
   (aj (bX (PW.pt (xR (f7 CY #[bG] #[dy]) (vI (f7 zo #[dy] a6)))) #[r] bw)
   (aB (aW (d5 hr (OP T) T.Kv T.E3 (ag #[aq] #[Df,#[pv]]))))))))))) ?_
 rw[1891];rw[1892];refine(fi c 64 rfl (lj dx a k i D (λr e H1 l E=>#[q]) (λF=>#[q])))
 ·rw[1898];refine(x6_ c u 1 99 f N (e7 rfl (Q.tW (Still.of_keep E D.cu)) (lj dx a k (i+1) l (λq=>by cases q) (λx A q H2 v j m hd n S=> ?_))));rw[#[cH].2.1]at q;exact good x A (by rw[e,afc];exact q) H2 v j m hd (E.trans n) S
 rw[1900];refine(fi c 123 rfl (lj dx a k i D (λr e H1 l E=>#[q]) (λp=>#[q])))
 ·rw[1898];have G:=#[cH].2.1;refine(aK c rfl (lj dx a k (i+1) l (λq=> ?_) (λlo A q H2 v j m hd n S=> ?_)))
  ·rw[G]at q;exact(g (by rw[e,xA,q];rfl)).of E
  subst S;rw[G]at q;have k2:=E.trans n;refine(fi c 44 rfl (lj dx a k j m (λs=> ?_) (λ_ U s H3 v3 j3 V H W _=> ?_)))
  ·rw[hd]at s;exact(g (by rw[e,xA,q];show #[vr].bind _=_;rw[s];rfl)).of k2
  rw[hd]at s;have k3:=k2.trans W;refine(aK c rfl (lj dx a k j3 V (λB=> ?_) (λd r4 B H4 v4 j4 X I Y Z=> ?_)))
  ·rw[H]at B;exact(g (by rw[e,xA,q];show #[vr].bind _=_;rw[s];show(mU U).bind _=_;rw[B];rfl)).of k3
  subst Z;rw[H]at B;have k4:=k3.trans Y;refine(fi c 125 rfl (lj dx a k j4 X (λJ=> ?_) (λ_ r5 J H5 v5 j5 hA5 Jy hk5 _=> ?_)))
  ·rw[I]at J;exact(g (by rw[e,xA,q];show #[vr].bind _=_;rw[s];show(mU U).bind _=_;rw[B];show(vj 125 r4).bind _=_;rw[J];rfl)).of k4
  rw[I]at J;have k5:=k4.trans hk5;have L:ug (k.drop i)=if d<lo\/d<1 then none else some (yB lo d r5):=by rw[e,xA,q];show #[vr].bind _=_;rw[s];show(mU U).bind _=_;rw[B];show(vj 125 r4).bind _=_;rw[J];rfl
  by_cases M:d<lo\/d<1
  ·rw[aq M]at L;have hE:=g L H5 k5;by_cases O:d<lo
   ·simp[O];exact #[uD]
   ·have h2:d<1:=by simp_all
    have h3:d=0:=by simp_all
    have h4:(d:Int)<1:=by simp_all
    simp[O,h4];exact #[uD]
  ·rw[am M]at L;have O:¬d<lo:=λz=>M #[Ad];have h2:¬d<1:=λz=>M #[Ab];have h3:¬(d:Int)<1:=by lia
   simp[O,h3];refine(x6_ c u lo d f N (e7 rfl (Q.tW (Still.of_keep k5 D.cu)) (lj dx a k j5 hA5 (λq=>by cases q) (λx r6 q6 H6 v6 j6 hA6 hd6 hk6 hv6=> ?_))));rw[Jy]at q6;exact good x r6 (by rw[L];exact q6) H6 v6 j6 hA6 hd6 (k5.trans hk6) hv6
 ·rw[1900];intro x y nx nd _;refine #[CG,y];have sm:=lO (C:=t.Item) (o:= .ins t.Item y (fe #[rd] #[z5] #[rd] #[rd] #[hZ])) nx nd;exact good #[q9] _ (aaM F p) _ _ i (D.keep sm) rfl (dI.refl.same sm) (aK x rfl (fi y u ao (Q.tW #[mj])))
def abD{z:Nat}:∀{l:List Nat},Xe #[l2] #[eU]=xN l z
 |[]=>rfl
 |c::l=>by
  show(QS #[l3] #[l2]||Xe (.int (z:Int)) (l.map λ(c:Nat)=>V.int (c:Int)))=((c==z)||xN l z);rw[abD];congr 1;show((c:Int)==(z:Int))=(c==z);by_cases h:c=z
  ·subst h;simp
  ·have h':¬(c:Int)=(z:Int):=by lia
   rw[beq_eq_false_iff_ne.mpr h,beq_eq_false_iff_ne.mpr h']
def RT{c:Nat}{s:bB}(h:c≠92):eO (c::s)=if xN #[xQ] c=true then none else some ((c),s):=by rw[eO];exact h
def abE{z:Nat}{l:List Nat}(h:H p=some (.tup #[eU]))(q:Q (.bl (xN l z)) H):rIn K false #[l2] #[aI] H Q:=by
 refine(x2_ p _ (rfl,.inr (cK.of h),rfl,?_,?_))
 ·rw[vF,dH];intro _ _;rfl
 ·rw[am #[c],abD];rw[2105]
abbrev Gz(K:aA)(t:cI):Sp:=λvs H Q E=>∃c:ae,vs=#[hd]/\tq K t eO isNum c H Q E
def KC{z:Nat}(h:ace u=some ((z),r)):u=z::r:=by
 cases u with
 |nil=>cases h
 |cons _ _=>cases h;rfl
def KD(h:ace u=none):u=[]:=by
 cases u with
 |nil=>rfl
 |cons _ _=>cases h
def xB(T:Txt K mg t):ff P w K mg base #[f4] 3 t.et #[Bl] #[aK] (Gz K t):=by
 exists T.iT,xi,"1",_
 (let(c,rfl,n):=521 h;let(dx,a,A,i,C,f,good):=44 n)
 refine aK _ (aj (bQ 1 xi.nd #[bB])
   (aj (bX #[qP] #[Cz,#[bB]]
    bw)
   (aj (bX (NA LV #[aZ] (lY (ag #[By] (ag (cN T.Gc) #[wb]))) #[aT])
    #[r]
    bw)
   #[cc]))) ?_
 rw[1891];rw[1895];refine(aK c rfl (lj dx a A i C (λe=>f (by rw[KD e];rfl)) (λz r e I v j k hd q D=> ?_)));subst D;have e:=KC e;rw[1895];by_cases h:z=92
 ·subst h;simp;refine(aK c rfl (lj dx a A j k (λg=>(f (by rw[e,<-hd,KD g];rfl)).of q) (λz2 E g F G H s u d y=> ?_)));have g:=KC g;rw[hd]at g;exact good z2 E (by rw[e,g];rfl) F G H s u (q.trans d) y
 ·have h':¬(z:Int)=92:=by lia
  simp[h',-ai];refine(by decide,λp B=>abE (l:=#[xQ]) ao #[q]);have d:=q.new (o:= .tup [V.int 93,V.int 45,V.int 33]) B;by_cases m:xN #[xQ] z=true
  ·rw[aq m];exact(by decide,f (by rw[e,RT h,aq m]) _ d)
  ·rw[am m];exact good z r (by rw[e,RT h,am m]) _ _ j (k.keep (a3 B)) hd d rfl
nonrec abbrev akS:Hp->Hp->V->Nat×Nat->Prop:=λ_ H v p=>∃r,v= .ref r/\RO H r p
abbrev Uj(K:aA)(t:cI):Sp:=λvs H Q E=>∃c:ae,vs=#[hd]/\tq K t ot akS c H Q E
def KF{x:Nat}(h:eO u=some ((x),45::r)):ot u=(eO r).bind λy=>if x<=y.1 then some (((x),y.1),y.2)else none:=by unfold ot;rw[h];rfl
def ada{x:Nat}(h:eO u=some ((x),r))(n:∀s,r≠45::s):ot u=some (((x),x),r):=by
 unfold ot;rw[h];rw[1906];split
 ·rename_i s _;exact absurd rfl (n _)
 ·rfl
def adb(h:eO u=none):ot u=none:=by unfold ot;rw[h];rfl
def Jz(T:Txt K mg t):ff P w K mg base #[f4] 4 t.kD #[Bb] #[aK] (Uj K t):=by
 exists T.sI,Co,"1",_
 (let(c,rfl,n):=521 h;let(dx,a,o,i,F,d,good):=44 n)
 refine aK _ (aj (bQ 1 Co.nd #[eF])
   (aj (bX (fj #[B6,T.Gc]) #[Dm,#[yH]] bw)
   (aj (bQ 2 Co.nd #[eF])
   (aj (bX #[Du,#[aZ]] #[r] bw)
   #[Dm,#[yI]])))) ?_
 rw[1891];rw[1895];refine(aK c rfl (lj dx a o i F (λe=>d (adb e)) (λz r e L v j f hd D G=> ?_)));subst G;refine(fi c 45 rfl (lj dx a o j f (λM E N q s=>#[q]) (λne=>#[q])))
 ·rw[1898];rw[hd]at E;subst E;have g:=#[zH].2.1;have k2:=D.trans s;refine(aK c rfl (lj dx a o (j+1) q (λk=>(d (by rw[KF e,<-g,k];rfl)).of k2) (λy H k I O J u A B C=> ?_)));subst C;rw[g]at k;have k3:=k2.trans B;rw[1895];by_cases l:y<z
  ·rw[aq l];exact(by decide,d (by rw[KF e,k];exact am #[qa]) I k3)
  ·rw[am l];refine #[nO];exact good ((z),y) H (by rw[KF e,k];exact aq #[qa]) _ _ J (u.keep (a3 m)) A (k3.new m) #[BG]
 ·rw[1900];rw[hd]at ne;refine #[nO];exact good ((z),z) r (ada e ne) _ _ j (f.keep (a3 m)) hd (D.new m) #[BG]
nonrec abbrev isUnit (t:cI):Hp->Hp->V->Fit->Prop:=λa H v f=>∃u,v= .ref u/\lA t (λl=>a l=none) H u f
abbrev aaN(K:aA)(t:cI):Sp:=λvs H Q E=>∃c:ae,vs=#[hd]/\tq K t L8 (isUnit t) c H Q E
def afe{b:Bool}(h:ag4 33 ts i j b):L8 #[mT]=FO b (ts.drop j):=by
 cases b with
 |true=>rw[show ts.drop i=33::ts.drop j from h];rfl
 |false=>
  let(rfl,ne):=20 h;unfold L8;split
  ·rename_i s e;exact absurd e (ne s)
  ·rfl
def ll.snoc{l:List #[aw]}{r:ae}{p:Nat×Nat}(h:ll H rs l)(q:RO H r p):ll H (rs++[r]) #[zw]:=by
 induction h with
 |nil=>exact .cons q .nil
 |cons a _ b=>exact .cons a b
def ll.len{l:List #[aw]}(h:ll H rs l):rs.length=l.length:=Paired.length h
def aaO(T:Txt K mg t):ff P w K mg base #[f4] 5 t.pw #[AY] #[aK] (aaN K t):=by
 exists T.E2,IF,"1",_
 (let(c,rfl,D):=521 h;let(dx,a,g,i,hA,N,good):=44 D)
 refine aK _ (aj (bQ 1 IF.nd #[Cq,#[wb]]) (aj (bQ 2 IF.nd (cf #[dQ]))
   (aj (ry x.own (fj (dB (d5 hr #[xf] T.m9 T.lM (ag #[aq] #[Cw,#[By]])))) (aB (c9 (hR bi bR bS fE #[bG] #[dQ]))))
   (aB (aW (cb hr T.FC (Gy T) T.Jo T.zb #[yG])))))) ?_
 rw[1891];rw[1895];refine tP (k:=33) rfl hA λb Y j hA1 O hb=> ?_;have ev:=afe hb;refine(aK c rfl (lj dx a g j hA1 (λe=>(N (by rw[ev];unfold FO;rw[e];rfl)).of O) (λp0 r0 e0 H2 v j2 f Q hk2 hv=> ?_)));let(q0,rfl,hq0):=21 hv;have k2:=O.trans hk2;refine(by decide,λl u=> ?_);have R:H l=none:=by
  cases z:H l with
  |none=>rfl
  |some o=>
   by_cases hc:l=c
   ·subst hc;rw[f.cu]at u;cases u
   ·rw[k2 l o z hc]at u;cases u
 have p:l≠c:=λz=>by rw[z,f.cu]at u;cases u
 refine rz (λZ H'=>∃(done:List (Nat×Nat)) (r:List ae) (m:Nat),Z=[some #[hu],some #[mq],some #[co]]/\At K t H' c dx a g m/\dI c H H'/\H' l=some #[kR]/\ll H' r done/\done.length<=m/\L8 (g.drop i)=(mem (g.drop m)).map λz=>((.set b (done++z.1)),z.2)) (λZ H'=>(match H' c with|some (.ins _ _ fs)=>#[dX]|_=>0)) (x3_ ([p0]) ([q0]) j2 (rfl,?_,?_,ao,?_,?_,?_)) ?_ ?_
 ·exact(by rw[aE p.symm];exact f.cu,(a3 u).seq f.sq,f.le,f.sm)
 ·exact k2.new u
 ·exact .cons (a3 u _ _ hq0) .nil
 ·have:=EQ e0;have h1:r0.length=g.length-j2:=by rw[<-Q,bN]
  simp only[bN]at this;simp
  lia
 ·rw[ev,Q];unfold FO;rw[e0];rfl
 ·(intro Z H3 YY;(let(done,r,m,D):=3 YY;let(rfl,E,k3,hl3,hP,hdm,hm):=120 D))
  rw[1895];refine tP (k:=93) rfl E λb2 H4 m4 G s A=> ?_;have I:H4 l=some #[kR]:=s l _ hl3 p;have S:ll H4 r done:=hP.keep λx xs q=>s x _ q #[Cj,E.cu];cases b2 with
  |true=>have A:g.drop m=93::g.drop m4:=A;rw[1982];rw[1895];intro x J nx nd _;refine(rV x J _ _ rfl ao rfl ?_);have sm:=lO (C:=t.Unit) (o:= .ins t.Unit J (yg #[co] #[mq])) nx nd;rw[A,abq]at hm;have hm:L8 (g.drop i)=some ((.set b (done++[])),g.drop m4):=hm;rw[ah]at hm;exact good _ _ hm _ _ m4 (G.keep sm) rfl (#[tG].same sm) (aK x rfl (jc J l r R ao (sm _ _ I) (S.keep λy xs q=>sm _ _ q)))
  |false=>
   let(rfl,ne):=20 A;rw[1982];rw[1895];refine(gU #[B8,I] c rfl (lj dx a g m4 G (λe=>(N (by rw[hm,Pj _ ne,e];rfl)).of #[tG]) (λp5 r5 e5 M v5 m5 d U L hv5=> ?_)));let(q5,rfl,hq5):=21 hv5;have W:M l=some #[kR]:=L l _ I p;have X:ll M r done:=S.keep λx xs q=>L x _ q #[Cj,G.cu];have lt:=EQ e5;have h1:r5.length=g.length-m5:=by rw[<-U,bN]
   simp only[bN]at lt;refine #[zJ]
   ·rw[aD,X.len];have:=d.le;have:=d.sm;exact Fe #[f]
   have B:∀(x:ae) xs,M x=some #[bL]->upd M l #[l1] x=some #[bL]:=λx xs q=>by rw[aE #[Cj,W]];rw[2105]
   have kk:dI c H M:=#[tG].trans L;have kl:dI c H (upd M l #[l1]):=λx o q n=>by rw[aE (a5 q R)];exact kk x o q n
   refine⟨(x3_ (done++[p5]) (r++[q5]) m5 ((by rw[aE p.symm];exact d.cu,hA.NU kl,d.le,d.sm),kl,?_,(X.keep B).snoc (B _ _ hq5),?_,?_)),?_⟩
   ·rw[ao,bb];rfl
   ·rw[aM];have:=d.le;simp;omega
   ·rw[hm,Pj _ ne,e5,U];show((mem r5).map _).map _=(mem r5).map _;cases mem r5 with
    |none=>rfl
    |some z=>simp
   ·rw[aE p.symm,d.cu,E.cu];rw[1897];rw[iw,iw];have:=d.le;dsimp only
    simp_all
 ·intro Z H' Q1 Q2 m h;let(v,hv,h):=21 (JQ h);have h:Bo K t [v,V.int 93] H' (λx Y=>mB x λc=>Q1 (!c) Y) E0:=h;exact Ax.mpr (aK v hv (YT (Q':=λx Y=>mB x λc=>Q2 (!c) Y) h λv H2=>ac1 λb q=>m _ _ q))
abbrev RU(K:aA)(t:cI){α:Type}(f:bB->Option (α×bB))(b:Hp->Hp->V->α->Prop)(ok:Nat->Prop)(c:ae):Hp->VK->XK->Prop:=λH Q E=>∃(dx a:ae) (ts:bB) (i z:Nat) (r:bB),At K t H c dx a ts i/\ts.drop i=z::r/\ok z/\(f (z::r)=none->Bad t c H E)/\∀x d,f (z::r)=some ((x),d)->∀H' v j,At K t H' c dx a ts j->ts.drop j=d->dI c H H'->b H H' v x->Q v H'
abbrev Ff(z:Nat):Prop:=z≠60/\z≠62/\z≠40/\z≠41/\z≠42
def OQ:iy (92::r)=match r with|d::s=>some ((.sign (esc d)),s)|[]=>none:=by cases r<;>rfl
def OR:iy (91::r)=L8 r:=by rw[<-aiW];rfl
def Lj{z:Nat}(p:Ff z)(a:z≠92)(b:z≠63)(c:z≠91):iy (z::r)=if xN #[hc] z=true then none else some ((.sign z),r):=by
 let(d,f,g,h,i):=80 p;unfold iy;rw[1897];rw[am a,am b,am c];have e:ZE z=xN #[hc] z:=by unfold ZE xN;simp only[nI,List.any_nil];rw[beq_eq_false_iff_ne.mpr #[Cs,a],beq_eq_false_iff_ne.mpr #[Cs,b],beq_eq_false_iff_ne.mpr #[Cs,c],beq_eq_false_iff_ne.mpr #[Cs,d],beq_eq_false_iff_ne.mpr #[Cs,f],beq_eq_false_iff_ne.mpr #[Cs,g],beq_eq_false_iff_ne.mpr #[Cs,h],beq_eq_false_iff_ne.mpr #[Cs,i]];rfl
 rw[e]
abbrev YZ(K:aA)(t:cI):Sp:=λvs H Q E=>∃c:ae,vs=#[hd]/\RU K t iy (isUnit t) Ff c H Q E
def Y0(T:Txt K mg t):ff P w K mg base #[f4] 6 t.nF #[A2] #[aK] (YZ K t):=by
 exists T.Dc,Mw,"1",_
 (let(c,rfl,F):=521 h;let(dx,a,R,i,z,r,G):=6 F;let(D,e,S,n,good):=80 G)
 refine aK _ (aj (bQ 1 Mw.nd #[bD]) (aj (bX #[qP] (aB (aW (d5 hr (M8 T) T.Ez T.yR #[Cw,#[bB]])))
    bw)
   (aj (bX (f7 gf #[aZ] (cN T.wy)) #[Cz,#[fW]]
    bw)
   (aj (bX (f7 gf #[aZ] (cN T.zy)) (aB (aW (fV (aaO T) #[an] #[aT] T.Rt T.E2.fn.kp T.E2.b .nil x.pass #[y])))
    bw)
   (aj (bX (NA LV #[aZ] (lY (ag #[By] (ag (cN T.xj) (ag (cN T.vJ) (ag (cN T.Dy) #[wc]))))) #[aT])
    #[r]
    bw)
   (aB (aW (d5 hr (HC T) T.Cz T.yc #[J])))))))) ?_
 rw[1891];let(W,A,X):=40 #[cH];simp[-ah,-aa,-ai,-aR,au,vC,D.cu,bM];refine(Bm c dx a i _ _ rfl D.cu D.sq (by rw[jd,W];rfl) ?_);have k:=D.step X;rw[2067];generalize upd H c #[cs]=H1 at k k1;rw[1895];by_cases I:z=92
 ·subst I;simp;refine(aK c rfl (lj dx a R (i+1) k (λq=>(n ?_).of k1) (λd s q U v j m hd g J=> ?_)))
  ·have q:=KD q;rw[A]at q;rw[OQ,q]
  ·subst J;have q:=KC q;rw[A]at q;refine(aK d rfl (λB u sm y=> ?_));exact good (.sign (esc d)) s (by rw[OQ,q]) B _ j #[vM] hd (#[tH].same sm) (aK u rfl (y.mono λl z=>mC #[tH] m.cu z))
 have L:¬(z:Int)=92:=by lia
 by_cases M:z=63
 ·subst M;simp;refine(aK () rfl (λB u sm y=> ?_));exact good .any r rfl B _ (i+1) (k.keep sm) A (k1.same sm) (aK u rfl #[mv])
 have N:¬(z:Int)=63:=by lia
 by_cases O:z=91
 ·subst O;simp;refine(aK c rfl (lj dx a R (i+1) k (λq=>(n ?_).of k1) (λf s q U v j m hd g J=> ?_)))
  ·rw[OR,<-A];rw[2105]
  ·exact good f s (by rw[OR,<-A];exact q) U v j m hd #[tH] (let(u,e,y):=J;(aK u e #[mv]))
 have Q:¬(z:Int)=91:=by lia
 simp[L,N,Q,-ai];refine(by decide,λp C=>abE (l:=#[hc]) ao #[q]);have g:=k1.new (o:= .tup #[g0]) C;have m:=k.keep (a3 (o:= .tup #[g0]) C);by_cases E:xN #[hc] z=true
 ·rw[aq E];exact(by decide,n (by rw[Lj S I M O,aq E]) _ g)
 ·rw[am E];refine(aK z rfl (λB u sm y=> ?_));exact good (.sign z) r (by rw[Lj S I M O,am E]) B _ (i+1) #[vM] A (g.same sm) (aK u rfl (y.mono λl z=>mC g m.cu z))
nonrec abbrev isIt (t:cI):Hp->Hp->V->Item->Prop:=λa H v it=>∃p,v= .ref p/\iE t (λl=>a l=none) H p it
abbrev Y1(K:aA)(t:cI):Sp:=λvs H Q E=>∃c:ae,vs=#[hd]/\RU K t qC (isIt t) (λ_=>True) c H Q E
def ag5:qC (60::r)=some ((.begins),r):=rfl
def ag6:qC (62::r)=some ((.ends),r):=rfl
def ag7:qC (40::r)=some ((.opening),r):=rfl
def ag8:qC (41::r)=some ((.closing),r):=rfl
def ag9:qC (42::r)=some #[qf]:=rfl
def KG{z:Nat}(p:Ff z):qC (z::r)=(iy (z::r)).bind λx=>(ug x.2).map λy=>((.unit x.1 y.1.1 y.1.2.1 y.1.2.2),y.2):=by let(a,b,c,d,e):=80 p;unfold qC;dsimp only;rw[am a,am b,am c,am d,am e];congr 1;funext x;rw[aer];cases ug x.2<;>rfl
def Bq{k z:Nat}{b:Bool}(e:ts.drop i=z::r)(h:ag4 k ts i j b):(b=true/\z=k/\ts.drop j=r)\/(b=false/\z≠k/\j=i):=by
 cases b with
 |true=>have h:ts.drop i=k::ts.drop j:=h;rw[2099];injection h with a c;exact .inl (e7 rfl a c.symm)
 |false=>exact .inr (e7 rfl (λq=>h.2 r (by rw[e,q])) h.1)
def Y2(T:Txt K mg t):ff P w K mg base #[f4] 7 t.nE #[A3] #[aK] (Y1 K t):=by
 exists T.Da,XW,"1",_
 (let(c,rfl,L):=521 h;let(dx,a,I,i,z,r,M):=6 L;let(hA,e,_,B,good):=80 M)
 refine aK _ (aj (bX #[B6,T.C6] #[Cb,T.xk] bw) (aj (bX #[B6,T.x5] #[Cb,T.AW] bw) (aj (bX #[B6,T.AS] #[Cb,T.oU] bw) (aj (bX #[B6,T.zx] #[Cb,T.rh] bw) (aj (bX #[B6,T.Rr] (aB (aW (cb hr T.Cs (Bp T) T.Ge T.vT (ag #[v5] (ag #[fW] (ag a6 (ag #[Bw] #[yD])))))))
    bw)
   (aB (aW (fV (Wh T) #[an] #[aT] T.ME T.A9.fn.kp T.A9.b .nil x.pass (ag #[aq] (ag (fV (Y0 T) #[an] #[aT] T.OL T.Dc.fn.kp T.Dc.b .nil x.pass #[y]) aw)))))))))) ?_
 rw[1891];rw[1895];have J:∀(k:Nat) (it:Item) (v:Hp) (j:Nat),RR k=some it->At K t v c dx a I j->dI c H v->qC (z::r)=some ((it),I.drop j)->abC t #[zb] v Q E0:=λk it v j hk d k1 ev=>
  (c4 k it rfl hk (λN p sm O=>good it _ ev N _ j (d.keep sm) rfl (k1.same sm) (aK p rfl (O _))))
 refine tP (k:=60) rfl hA λb v j d k1 g=>#[q];rcases Bq e g with⟨rfl,rfl,hd⟩|⟨rfl,R,rfl⟩
 ·rw[1898];exact J 2 .begins v j rfl d k1 (by rw[ag5,hd])
 rw[1900];refine tP (k:=62) rfl d λb N j2 D k2 g=>#[q];rcases Bq e g with⟨rfl,rfl,hd⟩|⟨rfl,S,rfl⟩
 ·rw[1898];exact J 3 .ends N j2 rfl D (k1.trans k2) (by rw[ag6,hd])
 rw[1900];refine tP (k:=40) rfl D λb H3 j3 E k3 g=>#[q];rcases Bq e g with⟨rfl,rfl,hd⟩|⟨rfl,U,rfl⟩
 ·rw[1898];exact J 4 .opening H3 j3 rfl E #[ir] (by rw[ag7,hd])
 rw[1900];refine tP (k:=41) rfl E λb H4 j4 F k4 g=>#[q];rcases Bq e g with⟨rfl,rfl,hd⟩|⟨rfl,V,rfl⟩
 ·rw[1898];exact J 5 .closing H4 j4 rfl F #[xM] (by rw[ag8,hd])
 rw[1900];refine tP (k:=42) rfl F λb H5 j5 m k5 g=>#[q];have A:=#[xM].trans k5;rcases Bq e g with⟨rfl,rfl,hd⟩|⟨rfl,W,rfl⟩
 ·rw[1898];refine(aK () rfl (λH6 u sm X=> ?_));intro x n nx nd _;refine #[CG,n];have s:=lO (C:=t.Item) (o:= .ins t.Item n (fe #[rd] #[z5] #[gU] (.int 99) #[fs])) nx nd;exact good (.unit .any 0 99 true) r ag9 _ _ j5 (#[vM].keep s) hd ((A.same sm).same s) (aK x rfl (fi n u ao (#[ny].tW (Still.of_same s))))
 rw[1900];have ps:Ff z:=(R,S,U,V,W);refine(aK c rfl (Bm dx a I j5 z r m e ps (λq=>(B (by rw[KG ps,q];rfl)).of A) (λf r6 q6 H6 v6 j6 Y G k6 Z=> ?_)));let(u,rfl,X):=21 Z;refine(lj c u f (λl=>H l=none) rfl #[ny] (lj dx a I j6 Y (λq=>(B (by rw[KG ps,q6];show(ug r6).map _=_;rw[<-G,q];rfl)).of (A.trans k6)) (λy r7 q7 H7 v7 j7 hA7 hd7 k7 hv7=> ?_)));let(p,rfl,O):=21 hv7;rw[G]at q7;exact good _ r7 (by rw[KG ps,q6];show(ug r6).map _=_;rw[q7];rfl) H7 _ j7 hA7 hd7 ((A.trans k6).trans k7) (p,rfl,O)
abbrev fW(t:cI)(N:ae->Prop)(H:Hp)(ps:List ae)(l:List Item):Prop:=Paired (λp it=>iE t N H p it) ps l
def fW.tW{N:ae->Prop}(k:Still H H'):∀{ps:List ae} {l:List Item},fW t N H ps l->fW t N H' ps l:=by
 rw[2059]
 induction h with
 |nil=>exact .nil
 |cons h r a=>exact .cons (h.tW k) a
def fW.mono{N:ae->Prop}(m:∀l,N l->N' l):∀{ps:List ae} {l:List Item},fW t N H ps l->fW t N' H ps l:=by
 rw[2059]
 induction h with
 |nil=>exact .nil
 |cons h r a=>exact .cons (h.mono m) a
def fW.other{N:ae->Prop}{H:Hp}{f0:ae}{xs:List V}{o:HO}(a:H f0=some #[ai])(n:¬N f0):∀{ps:List ae} {l:List Item},fW t N H ps l->fW t N #[tv] ps l
 |_,_,.nil=> .nil
 |_,_,.cons h r=> .cons (h.other a n) (fW.other a n r)
def fW.snoc{N:ae->Prop}{ps:List ae}(h:fW t N H ps l)(q:iE t N H p it):fW t N H #[AJ] #[AS]:=by
 induction h with
 |nil=>exact .cons q .nil
 |cons a _ b=>exact .cons a b
def fW.len{N:ae->Prop}{ps:List ae}(h:fW t N H ps l):ps.length=l.length:=Paired.length h
def fW.at{N:ae->Prop}:∀{ps:List ae} {l:List Item} {i:Nat} {p:ae},fW t N H ps l->ps[i]?=some p->∃it,l[i]?=some it/\iE t N H p it:=by
 intro ps l i p h
 induction h generalizing i with
 |nil=>intro e;simp at e
 |cons h r a=>
  intro e;cases i with
  |zero=>simp at e;rw[2046];exact(aK _ rfl h)
  |succ i=>let(it,b,c):=21 (a (i:=i) #[u1]);exact(aK it #[ic] c)
def iE.kind{N:ae->Prop}(h:iE t N H p it):∃dx v1 v2 v3 v4,H p=some (.ins t.Item dx (fe (.int (mS it:Int)) v1 v2 v3 v4)):=by
 cases it with
 |unit f lo b sp=>let(dx,u,a,_):=22 h;rw[2092]
 |begins=>let(dx,a):=1 h;rw[2092]
 |ends=>let(dx,a):=1 h;rw[2092]
 |opening=>let(dx,a):=1 h;rw[2092]
 |closing=>let(dx,a):=1 h;rw[2092]
def iU{as:List ae}{x:V}(h:#[C8,as.map][i]?=some x):∃z,as[i]?=some z/\x=V.ref z:=by
 rw[bz]at h;cases e:as[i]? with
 |none=>rw[e]at h;rw[1914]
 |some z=>rw[e]at h;exact #[nW]
def Vc{s:L6}{it:Item}:∀{l:List Item},vg s #[AS]=(vg s l).bind λu=>sO u it
 |[]=>by show(sO s it).bind (λu=>some u)=sO s it;cases sO s it<;>rfl
 |x::l=>by
  show(sO s x).bind (λu=>vg u #[AS])=#[nK].bind _;cases sO s x with
  |none=>rfl
  |some u=>exact Vc
def Y3{s:L6}:∀{l m:List Item},vg s (l++m)=(vg s l).bind λu=>vg u m
 |[],_=>rfl
 |x::l,m=>by
  show(sO s x).bind (λu=>vg u (l++m))=#[nK].bind _;cases sO s x with
  |none=>rfl
  |some u=>exact Y3
abbrev g0:L6:=(0,0,false)
def Uk:ox false false 0 l=true↔∃s',vg g0 l=some s'/\s'.within=false/\s'.groups<=9:=Fx l g0 false (λz=>by cases z) #[c]
def M9(h:vg g0 (l.take i)=none):ox false false 0 l=false:=by
 cases e:ox false false 0 l with
 |false=>rfl
 |true=>let(s',q,_):=21 (Uk.mp e);rw[<-fD i l,Y3,h]at q;rw[2090]
abbrev HD(n:Nat):V:=if n=0 then .cG else .int (n:Int)
def adc(it:Item):mS it≠0:=by cases it<;>(intro z;cases z)
def uI{a b:Int}:LO (.int a) (.int b)=true:=rfl
def afg:V.int (mS it:Int)=HD (mS it):=by unfold HD;rw[am (adc it)]
def afh{z:Int}:LO (HD n) #[z9]=true:=by unfold HD;split<;>rfl
def abF:(HD n=V.int 4)↔n=4:=by
 unfold HD;split
 ·constructor
  ·intro z;cases z
  ·intro z;lia
 ·constructor
  ·intro z;injection z with z;lia
  ·intro z;rw[z];rfl
abbrev Ul(K:aA)(t:cI):Sp:=λvs H Q E=>∃(l:ae) (ps:List ae) (a:List Item) (N:ae->Prop),vs=[.ref l]/\a8 K H l #[zq]/\fW t N H ps a/\(ox false false 0 a=true->Q (.int (opened a:Int)) H)/\(ox false false 0 a=false->E #[ra] none H)
def Um(T:Txt K mg t):ff P w K mg base #[f4] 1 t.kC #[Bc] #[Ax] (Ul K t):=by
 exists T.zD,kP,"4",_
 (let(l,ps,a,N,c):=504 h;let(rfl,u,y,good,d):=80 c)
 refine aK _ (aj (bQ 1 kP.nd a6) (aj (bQ 2 kP.nd Az) (aj #[pr] (aj (iz x.own rfl #[sZ] (o6 4 kP.nd) (aj (bX #[qN] (aj (bX #[ys] #[r] bw) (aj #[pr] (aB (Bl 1 kP.nd a6 wO)))) (aB (bX #[qM] (aj (bX (PW.pt (xR (fj #[ys]) (vI #[CD,T.oU]))) #[r] bw) (aB #[pr])) bw))) (aB (bQ 2 kP.nd #[ba])))) (aj (bX (PW.pt (xR #[ys] (vI (f7 CY #[aZ] (cN T.zA))))) #[r] bw) #[cc]))))) ?_;rw[1891];rw[1892];refine uH (xs:=ps.map V.ref) (λi o H'=>H'=H/\∃(g:L6) (v:Option V),o=[some #[co],some (.int #[qK]),some (HD g.prev),some (.bl g.within),v]/\vg g0 (a.take i)=some g) rfl u (rfl,fi g0 none rfl rfl) ?_ ?_ ?_
 ·(intro i o H' _ f;let(rfl,_):=20 f);exact u
 ·(intro i x o H' C f;(let(rfl,c):=20 f;let(g,v,rfl,n):=22 c))
  let(p,D,rfl):=21 (iU C);let(it,r,s):=21 (y.at D);let(dx,J,L,M,O,E):=5 (s.kind);have step:vg g0 (a.take (i+1))=sO g it:=by rw[take_snoc r,Vc,n];rfl
  simp[-ah,-aa,-ai,-aR,au,uI,afh,E,T.oW,T.kH,oC];unfold sO at step;by_cases A:mS it=4
  ·rw[aq A]at step;have b:(mS it:Int)=4:=by solve_by_elim
   cases hw:g.within with
   |true=>rw[hw,aq rfl]at step;simp[b,-ai];exact #[gY]
   |false=>rw[hw,am #[c]]at step;simp[b,-ai];exact(oZ (g.groups+1,4,true) rfl rfl rfl step)
  ·rw[am A]at step;have b:¬(mS it:Int)=4:=by lia
   by_cases h5:mS it=5
   ·rw[aq h5]at step;have j:(mS it:Int)=5:=by solve_by_elim
    cases hw:g.within with
    |false=>rw[hw,aq #[lZ]]at step;simp[b,j,-ai];exact #[gY]
    |true=>
     by_cases k:g.prev=4
     ·rw[aq (Or.inr k)]at step;simp[b,j,abF.mpr k,-ai];exact #[gY]
     ·rw[hw,am (by simp[k])]at step;have F:¬HD g.prev=V.int 4:=λz=>k (abF.mp z);simp[b,j,F,-ai];exact(oZ (g.groups,5,false) rfl rfl rfl step)
   ·rw[am h5]at step;have j:¬(mS it:Int)=5:=by lia
    simp[b,j,-ai];exact(oZ (g.groups,mS it,g.within) rfl afg rfl step)
 ·(intro o H' f;(let(rfl,c):=20 f;let(g,v,rfl,n):=22 c))
  rw[aD,y.len,cy]at n;rw[1892];have cnt:=J4 a g0 g n;have cnt:g.groups=opened a:=by rw[cnt];show 0+opened a=_;lia
  have B:(g.within=true\/9<g.groups)->ox false false 0 a=false:=λh=>by
   cases e:ox false false 0 a with
   |false=>rfl
   |true=>
    let(s',q,G,Q):=41 (Uk.mp e);rw[n]at q;rw[2090];rcases h with h|h
    ·rw[G]at h;rw[1914]
    ·lia
  cases hw:g.within with
  |true=>simp;exact(by decide,d (B (.inl hw)))
  |false=>
   simp;by_cases I:9<g.groups
   ·have m:(9:Int)<#[qK]:=by lia
    rw[aq m];exact(by decide,d (B (.inr I)))
   ·have m:¬(9:Int)<#[qK]:=by lia
    rw[am m,cnt];exact good (Uk.mpr (cX g n hw #[j]))
abbrev lP(t:cI)(N:ae->Prop)(H:Hp)(p:ae)(l:List Item):Prop:=∃(dx f:ae) (ps:List ae),N f/\H p=some (.ins t.Pattern dx (Bk #[bz] (.int (opened l:Int))))/\H f=some #[T]/\fW t N H ps l
abbrev RV(t:cI):Sp:=λvs H Q _=>∃(p dx:ae) (v0 v1:V),vs=#[y8]/\H p=some #[Ct,t.Pattern]/\Q .cG (upd H p (.ins t.Pattern dx #[yW]))
def RW: #[1,t.kU,#[bN],RV t]:=by exists T.Cy,Rj,"4";let(p,dx,b,c,rfl,a,k):=544 h;refine aK _ #[jZ] ?_;dsimp only[b6,aZ,bC,bD,ak,aH,ay,az,aG,aJ,aO,aP];simp[-ah,-aa,-aR,au,a,T.vu,T.iR,T.jW,ao,d8,VI,VJ];exact k
abbrev uc(ns:List Int):Option #[hq]:=if ns.all (λc=>decide (0<=c))=true then yp #[iJ]else none
def KH{n:Int}:Gv n=true↔32<=n/\n<=126:=by unfold Gv;simp
def afi{ns:List Int}(h:ns.all Gv=true):∃ts:bB,ns=oQ (λ(c:Nat)=>(c:Int)) ts/\ts.all qX=true:=by
 refine(aK #[iJ] ?_ ?_)
 ·rw[fO];refine(DO ns).symm.trans (dO λn a=> ?_);have:=KH.mp #[Br];show n=((n.toNat:Nat):Int)
  lia
 ·rw[vF,dH];intro n a;have:=KH.mp #[Br];unfold qX;show(decide (32<=n.toNat)&&decide (n.toNat<=126))=true;simp;lia
def Vd:#[dh].map (λc=>c.toNat)=ts:=by rw[fO];exact(dO λn _=>by show((n:Int)).toNat=n;simp_all).trans (DO ts)
def Y4:#[dh].map V.int=nums ts:=by rw[fO];rfl
def Na{ns:List Int}(h:¬(1<=ns.length/\ns.length<=200/\ns.all Gv=true)):uc ns=none:=by
 unfold uc;split
 ·rename_i h0;rw[FM];split
  ·rfl
  ·rename_i a;exfalso;apply h;rw[2053];refine(e7 a.1 a.2.1 (dH.mpr λn b=> ?_));have c:=dH.mp a.2.2 n b;rw[1978];have d:=eo d;rw[KH];unfold qX at c;simp at c
   simp_all
 ·rfl
def ade(b:1<=ts.length)(d:ts.length<=200)(a:ts.all qX=true):uc #[dh]=(items ts).bind λl=>if ox false false 0 l=true/\l.length<=40 then some l else none:=by unfold uc;rw[aq #[fa],Vd,FM,am (by rw[a];simp;solve_by_elim)]
abbrev HE(K:aA)(t:cI):Sp:=λvs H Q E=>∃(a:ae) (ns:List Int),vs=#[jv]/\a8 K H a #[N]/\ns.length<=2000/\(uc ns=none->∀H',bp H H'->E #[ra] none H')/\∀l,uc ns=some l->∀H' p,bp H H'->lP t (λb=>H b=none) H' p l->Q #[aI] H'
def afj{done:List Item}{z:Nat}(h:items ts=(items #[mT]).map λl=>done++l)(e:ts.drop i=z::r):items ts=(qC (z::r)).bind λx=>#[qD].map λl=>#[Bq]++l:=by
 rw[h,e,acd #[p]];cases qC (z::r)with
 |none=>rfl
 |some x=>
  show(#[qD].map _).map _=#[qD].map _;cases items x.2 with
  |none=>rfl
  |some l=>simp
def RX(T:Txt K mg t):ff P w K mg base #[f4] 8 t.ju #[Bd] #[sL] (HE K t):=by
 exists T.yb,AQ,"2",_;let(a,ns,rfl,J,hn,d,good):=582 h;refine aK _ (aj (bX (PW.pt (xR (fj (JU kN kN a6 #[xa] (cN T.uq))) #[h5])) #[r] bw) (aj (bQ 1 AQ.nd #[eI]) (aj #[C9,AQ.nd] (aj (ry x.own #[cG] (aB (c9 (hR bi bR bS fE #[bG] (ag (fV (Y2 T) #[an] #[aT] T.OK T.Da.fn.kp T.Da.b .nil x.pass #[J]) aw)))))
   (aj (bX (f7 CY #[jB] (cN T.AX)) #[r] bw)
   (aB (aW (cb hr T.EZ (RW T) T.Ht T.Cy (ag #[bG] (ag (fV (Um T) #[an] #[aT] T.Lg T.zD.fn.kp T.zD.b .nil x.pass #[C]) aw)))))))))) ?_
 rw[1891];rw[1905];refine #[CL,J];rw[aD];by_cases L:1<=ns.length
 case neg=>rw[am #[j]];exact(by decide,d (Na λz=>L z.1) H #[wa])
 rw[1930];by_cases M:ns.length<=200
 case neg=>rw[aq #[f]];exact(by decide,d (Na λz=>M z.2.1) H #[wa])
 rw[1934];refine(xx a ns rfl J #[f] (λZ s1=>#[q]));cases hc:ns.all Gv with
 |false=>exact(by decide,d (Na λz=>by rw[hc]at z;cases z.2.2) Z s1)
 |true=>
 let(j,rfl,hts):=21 (afi hc);rw[aD]at L M;rw[Y4]at J;have k:=ade L M hts;rw[1898];intro x dx nx nd _;refine(jc x dx a rfl ao rfl (λf N=> ?_));have X:=s1.trans #[iu];have E:#[h6] x=some #[cC]:=ao;generalize #[h6]=H2 at X E N;have hx0:H x=none:=s1.free nx;have O:H f=none:=X.free N;have D:x≠f:=a5 E N;have Q:∀{R G:Hp},bp H R->dI x R G->bp H G:=λa b c o h=>b c o #[BK] (a5 h hx0);refine rz (λY H'=>∃(done:List Item) (ps:List ae) (m:Nat),Y=#[k0]/\At K t H' x dx a j m/\bp H H'/\H' f=some #[T]/\fW t (λb=>H b=none/\b≠f) H' ps done/\done.length<=m/\items j=(items (j.drop m)).map λl=>done++l) (λY H'=>(match H' x with|some (.ins _ _ fs)=>(match fs.lookup #[y4]with|some (.int m)=>j.length-m.toNat|_=>0)|_=>0)) (x3_ ([]) ([]) 0 (rfl,#[qo],X.trans (a3 N),ao,.nil,dR _,?_)) ?_ ?_
 ·rw[aE D];exact E
 ·exact(X.trans (a3 N)).seq J
 ·rw[rZ];cases items j<;>rfl
 ·(intro Y R YY;(let(done,ps,m,n):=3 YY;let(rfl,s,I,g,u,hdm,A):=120 n))
  simp[-ah,-aa,-ai,-aR,au,s.cu,mJ];refine(xy x dx a m _ rfl s.cu s.sq #[q]);rw[bG];cases e:j.drop m with
  |nil=>
   have:=drop_nil e;rw[aq #[hP]];rw[e,aep]at A;have A:items j=some done:=by rw[A];simp
   rw[A]at k;have k:uc _=if ox false false 0 done=true/\done.length<=40 then some done else none:=k
   refine #[DB,g];rw[aD,u.len];by_cases h40:40<done.length
   ·rw[1930];rw[am #[j]]at k;exact(by decide,d k R I)
   ·rw[1934];refine(x4_ f ps done _ (rfl,a8.of g,u,λhg=> ?_,λhg=> ?_))
    ·intro y dy ny nyd _;refine(rV y dy _ _ rfl ao rfl ?_);rw[aq (hg,by simp_all)]at k;have sm:=lO (C:=t.Pattern) (o:= .ins t.Pattern dy (Bk #[bz] (.int (opened done:Int)))) ny nyd;exact good done k _ y (I.trans sm) (jc dy f ps O ao (sm _ _ g) ((u.mono λ_ z=>z.1).tW #[mj]))
    ·rw[am (by rw[hg];simp)]at k;exact d k R I
  |cons z r=>
   rw[2044];rw[am #[hP]];have i:=afj A e;refine(gU #[B8,g] x rfl (Bm dx a j m z r s e trivial (λq G S=> ?_) (λit r' q G v m4 B U S hv=> ?_)))
   ·rw[q]at i;rw[show items j=none from i]at k;exact d k G (Q I S)
   ·let(p,rfl,hp):=21 hv;rw[q]at i;have i:items j=(items r').map λl=>#[oJ]++l:=i;have W:G f=some #[T]:=S f _ g D.symm;have lt:=Pi q;have l1:r'.length=j.length-m4:=by rw[<-U,bN]
    have l2:(z::r).length=j.length-m:=by rw[<-e,bN]
    have l3:=B.le;rw[l2]at lt;simp only[l1]at lt;refine #[zJ]
    ·rw[aD,u.len];exact Fe #[f]
    have s4:=Q I S;have s5:bp H (upd G f #[fq]):=λb o q=>by rw[aE (a5 q O)];exact s4 b o q
    refine⟨(x3_ #[oJ] #[AJ] m4 ((by rw[aE D];exact B.cu,s5.seq J,B.le,B.sm),s5,?_,?_,?_,?_)),?_⟩
    ·rw[ao,bb];rfl
    ·exact((u.tW (Still.of_keep S s.cu)).snoc (hp.mono λl z=>(I.free z,λq=>by rw[q,g]at z;cases z))).other W λz=>z.2 rfl
    ·rw[aM];simp;lia
    ·rw[i,U]
    ·rw[aE D,B.cu];rw[1897];rw[iw,iw];rw[1897];assumption
 ·intro Y H' Q1 Q2 m h;let(v,hv,h):=21 (JQ h)
  (let(a',e,n):=21 (CW h);let(dx',fs',L,M,h3):=42 n)
  (let(c,dx2,a2,i2,xs,n):=5 h3;let(e2,h4,h5,h6):=60 n)
  exact Ax.mpr (aK v hv (G9.mpr (aK a' e (c4 dx' fs' L M #[jk]))))
abbrev ajo:hJ->Nat×Nat
 | .sign c=>((1),c)
 | .group k=>((2),k)
abbrev RY(H:Hp)(r:ae)(p:hJ):Prop:=RO H r (ajo p)
abbrev iV(H:Hp)(rs:List ae)(l:List hJ):Prop:=Paired (λr p=>RY H r p) rs l
def iV.keep(k:∀(b:ae) xs,H b=some #[bL]->H' b=some #[bL]):∀{rs:List ae} {l:List hJ},iV H rs l->iV H' rs l:=by
 rw[2059]
 induction h with
 |nil=>exact .nil
 |cons h r a=>exact .cons (k _ _ h) a
def iV.snoc{l:List hJ}{r:ae}{p:hJ}(h:iV H rs l)(q:RY H r p):iV H (rs++[r]) #[zw]:=by
 induction h with
 |nil=>exact .cons q .nil
 |cons a _ b=>exact .cons a b
def iV.len{l:List hJ}(h:iV H rs l):rs.length=l.length:=Paired.length h
abbrev JA(d:Nat):Option hJ:=if d7 d=true then some (.group (d-48))else if d=110 then some (.sign 10)else if d=92 then some (.sign 92)else none
abbrev Nb(t:cI):Sp:=λvs H Q E=>∃d:Nat,vs=[.int (d:Int)]/\(JA d=none->E #[rb] none H)/\∀p,JA d=some p->∀H' r,bp H H'->RY H' r p->Q #[kQ] H'
def Nc(T:Txt K mg t):ff P w K mg base #[f4] 2 t.gw #[Bg] #[eR] (Nb t):=by
 exists T.t7,Mz,"1",_;let(d,rfl,a,good):=541 h;refine aK _ (aj (bX (dB #[ne]) (aB (aW (lY (ag (cN T.AY) (ag (cV ji #[aq] (cN T.ur)) aw))))) bw) (aj (bX #[qO] (aB (aW (lY (ag #[sf] #[BF])))) bw) (aj (bX (f7 gf #[aq] #[Bz]) (aB (aW (lY (ag #[sf] #[Cw,#[Bz]])))) bw) #[dZ]))) ?_;rw[1891];rw[1905];rw[2015];rw[P4];unfold JA at a good;cases hd:d7 d with
 |true=>have i:=Gx hd;rw[1898];rw[aq hd]at good;refine(by decide,λp b=>good _ rfl _ p (a3 b) ?_);show upd H p _ p=_;rw[ao];show some (HO.tup [V.int 2,V.int ((d:Int)-48)])=some (HO.tup [V.int 2,V.int ((d-48:Nat):Int)]);congr 5;omega
 |false=>
  rw[1900];rw[am (by rw[hd];decide)]at a good;by_cases f:d=110
  ·subst f;simp;rw[aq rfl]at good;exact #[gX]
  ·have c:¬(d:Int)=110:=by lia
   rw[am f]at a good;by_cases g:d=92
   ·subst g;simp;rw[aq rfl]at good;exact #[gX]
   ·have e:¬(d:Int)=92:=by lia
    rw[am g]at a;simp[c,e];exact(by decide,a rfl)
def Ve{d:Nat}{s:bB}:vh (92::d::s)=(JA d).map λp=>((p),s):=by
 unfold vh JA;rw[1897];rw[1898];split;·rfl
 split;·rfl
 split;·rfl
 rfl
def aha{z:Nat}(h:z≠92):vh (z::r)=some ((.sign z),r):=by unfold vh;dsimp only;rw[am h]
abbrev Y5(K:aA)(t:cI):Sp:=λvs H Q E=>∃c:ae,vs=#[hd]/\∃(dx a:ae) (ts:bB) (i z:Nat) (r:bB),At K t H c dx a ts i/\ts.drop i=z::r/\(vh (z::r)=none->∀H',dI c H H'->E #[rb] none H')/\∀x b,vh (z::r)=some ((x),b)->∀H' q j,At K t H' c dx a ts j->ts.drop j=b->dI c H H'->RY H' q x->Q #[wA] H'
def Y6(T:Txt K mg t):ff P w K mg base #[f4] 3 t.nH #[A0] #[aK] (Y5 K t):=by
 exists T.Dd,My,"1",_
 (let(c,rfl,k):=521 h;let(dx,a,B,i,z,r,l):=6 k;let(j,e,g,good):=60 l)
 refine aK _ (aj (bQ 1 My.nd #[bD]) (aj (bX (f7 xS #[aZ] #[Bz]) (aB (aW (lY (ag #[sf] #[J])))) bw) (aj (bX #[dv] #[dZ] bw) (aB (aW (fV (Nc T) #[an] #[aT] T.EA T.t7.fn.kp T.t7.b .nil x.pass #[Cw,#[bD]])))))) ?_;rw[1891];let(C,m,D):=40 #[cH];simp[-ah,-aa,-ai,-aR,au,j.cu,bM];refine(Bm c dx a i _ _ rfl j.cu j.sq (by rw[jd,C];rfl) ?_);have f:=j.step D;rw[2067];generalize upd H c #[cs]=H1 at f k1;simp[-ah,-aa,-ai,-aR,au,uI,f.cu,mJ];by_cases h:z=92
 ·subst h;rw[1892];refine(xy c dx a #[h1] _ rfl f.cu f.sq #[q]);rw[bG];cases q:B.drop (i+1)with
  |nil=>have:=drop_nil q;rw[aq #[jX]];refine(by decide,g ?_ H1 k1);rw[<-m,q];rfl
  |cons d s=>
   let(E,F,G):=40 (drop_cons q);rw[am #[jX]];refine(c4 dx _ f.cu bM (Bm c dx a (i+1) _ _ rfl f.cu f.sq (by rw[jd,E];rfl) ?_));have n:=f.step G;have k2:=k1.trans (dI.upd (o:=cur t dx a (i+1+1:Nat)));have y:r=d::s:=by rw[<-m,q]
   refine(cX d rfl (λv=>g #[tP] _ k2) (λp v I u sm J=> ?_));exact good p s #[tP] I u (i+1+1) (n.keep sm) F (k2.same sm) J
 ·have h':¬(z:Int)=92:=by lia
  simp[h'];refine(by decide,λp A=> ?_);exact good _ r (aha h) _ p (i+1) (f.keep (a3 A)) m (k1.new A) ao
abbrev vD(ns:List Int):Option (List hJ):=if ns.all (λc=>decide (0<=c))=true then tG #[iJ]else none
def Vf{ns:List Int}(h:¬(ns.length<=200/\ns.all Gv=true)):vD ns=none:=by
 unfold vD;split
 ·rename_i h0;unfold tG;split
  ·rfl
  ·rename_i a;exfalso;apply h;rw[2053];refine(a.1,dH.mpr λn b=> ?_);have c:=dH.mp a.2 n b;rw[1978];have d:=eo d;rw[KH];unfold qX at c;simp at c
   simp_all
 ·rfl
def adf(b:ts.length<=200)(a:ts.all qX=true):vD #[dh]=c5 ts:=by unfold vD;rw[aq #[fa],Vd];unfold tG;rw[am (by rw[a];simp;omega)]
def afl{done:List hJ}{z:Nat}(h:c5 ts=(c5 #[mT]).map λl=>done++l)(e:ts.drop i=z::r):c5 ts=(vh (z::r)).bind λx=>#[zK].map λl=>#[Bq]++l:=by
 rw[h,e,Jh #[p]];cases vh (z::r)with
 |none=>rfl
 |some x=>
  show(#[zK].map _).map _=#[zK].map _;cases c5 x.2 with
  |none=>rfl
  |some l=>simp
abbrev BZ(K:aA)(t:cI):Sp:=λvs H Q E=>∃(a:ae) (ns:List Int),vs=#[jv]/\a8 K H a #[N]/\ns.length<=2000/\(vD ns=none->∀H',bp H H'->E #[rb] none H')/\∀l,vD ns=some l->∀H' p rs,bp H H'->H p=none->H' p=some #[ax]->iV H' rs l->Q #[aI] H'
def Lz(T:Txt K mg t):ff P w K mg base #[f4] 4 t.fR #[Bj] #[sL] (BZ K t):=by
 exists T.sW,we,"2",_;let(a,ns,rfl,E,hn,y,good):=582 h;refine aK _ (aj (bX (PW.pt (xR (f7 CY #[xa] (cN T.uq)) #[h5])) #[dZ] bw) (aj (bQ 1 we.nd #[eI]) (aj #[C9,we.nd] (aj (ry x.own #[cG] (aB (c9 (hR bi bR bS fE #[bG] (ag (fV (Y6 T) #[an] #[aT] T.OM T.Dd.fn.kp T.Dd.b .nil x.pass #[J]) aw)))))
   #[hV])))) ?_
 rw[1891];rw[1905];refine #[CL,E];rw[aD];by_cases G:ns.length<=200
 case neg=>rw[aq #[f]];exact(by decide,y (Vf λz=>G z.1) H #[wa])
 rw[1934];refine(xx a ns rfl E #[f] (λY Z=>#[q]));cases hc:ns.all Gv with
 |false=>exact(by decide,y (Vf λz=>by rw[hc]at z;cases z.2) Y Z)
 |true=>
 let(g,rfl,hts):=21 (afi hc);rw[aD]at G;rw[Y4]at E;have U:=adf G hts;rw[1898];intro x dx nx nd _;refine(jc x dx a rfl ao rfl (λf I=> ?_));have W:=Z.trans #[iu];have A:#[h7] x=some #[cC]:=ao;generalize #[h7]=H2 at W A I;have hx0:H x=none:=Z.free nx;have J:H f=none:=W.free I;have u:x≠f:=a5 A I;have L:∀{M s:Hp},bp H M->dI x M s->bp H s:=λa b c o h=>b c o #[BK] (a5 h hx0);refine rz (λX H'=>∃(done:List hJ) (ps:List ae) (m:Nat),X=#[k0]/\At K t H' x dx a g m/\bp H H'/\H' f=some #[T]/\iV H' ps done/\done.length<=m/\c5 g=(c5 (g.drop m)).map λl=>done++l) (λX H'=>(match H' x with|some (.ins _ _ fs)=>#[dX]|_=>0)) (x3_ ([]) ([]) 0 (rfl,#[qo],W.trans (a3 I),ao,.nil,dR _,?_)) ?_ ?_
 ·rw[aE u];exact A
 ·exact(W.trans (a3 I)).seq E
 ·rw[rZ];cases c5 g<;>rfl
 ·(intro X M YY;(let(done,ps,m,i):=3 YY;let(rfl,j,s3,B,D,hdm,k):=120 i))
  simp[-ah,-aa,-ai,-aR,au,j.cu,mJ];refine(xy x dx a m _ rfl j.cu j.sq #[q]);rw[bG];cases e:g.drop m with
  |nil=>
   have:=drop_nil e;rw[aq #[hP]];rw[e,Vx]at k;have k:c5 g=some done:=by rw[k];simp
   rw[k]at U;exact good done U M f ps s3 J B D
  |cons z r=>
   rw[2044];rw[am #[hP]];have d:=afl k e;refine(gU #[B8,B] x rfl (x6_ dx a g m z r (o3 j e (λq s N=> ?_) (λit r' q s p m4 n O N hp=> ?_))))
   ·rw[q]at d;rw[show c5 g=none from d]at U;exact y U s (L s3 N)
   ·rw[q]at d;have d:c5 g=(c5 r').map λl=>#[oJ]++l:=d;have Q:s f=some #[T]:=N f _ B u.symm;have lt:=Xw q;have l1:r'.length=g.length-m4:=by rw[<-O,bN]
    have l2:(z::r).length=g.length-m:=by rw[<-e,bN]
    have l3:=n.le;rw[l2]at lt;simp only[l1]at lt;refine(cX _ Q ?_ ?_)
    ·rw[aD,D.len];exact Fe #[f]
    have s4:=L s3 N;have s5:bp H (upd s f #[fq]):=λb o q=>by rw[aE (a5 q J)];exact s4 b o q
    have R:∀(b:ae) xs,s b=some #[bL]->upd s f #[fq] b=some #[bL]:=λb xs q=>by rw[aE #[Cj,Q]];rw[2105]
    have S:∀(b:ae) xs,M b=some #[bL]->s b=some #[bL]:=λb xs q=>N b _ q #[Cj,j.cu];refine⟨(x3_ #[oJ] #[AJ] m4 ((by rw[aE u];exact n.cu,s5.seq E,n.le,n.sm),s5,?_,?_,?_,?_)),?_⟩
    ·rw[ao,bb];rfl
    ·exact((D.keep S).snoc hp).keep R
    ·rw[aM];simp;lia
    ·rw[d,O]
    ·rw[aE u,n.cu];rw[1897];rw[iw,iw];rw[1897];assumption
 ·intro X H' Q1 Q2 m h;let(v,hv,h):=21 (JQ h)
  (let(a',e,i):=21 (CW h);let(dx',fs',h1,G,h3):=42 i)
  (let(c,dx2,a2,i2,xs,i):=5 h3;let(e2,h4,h5,h6):=60 i)
  exact Ax.mpr (aK v hv (G9.mpr (aK a' e (c4 dx' fs' h1 G #[jk]))))
@[simp] def arj{a:TS}:akD C E n tb a D σ H=(tb D σ H/\∀c H1,E c none H1->c= .ref C/\a D (xG n none) H1):=rfl
abbrev JB(N:ae->Prop)(b:ae):HO->Prop
 | .tup _=>True
 | .lst _=>N b
 | .ins _ _ fs=>fs.lookup #[aW]≠none\/fs.lookup #[d9]≠none\/fs.lookup #[a1]≠none
 |_=>False
abbrev pD(N:ae->Prop)(H H':Hp):Prop:=∀b o,H b=some o->JB N b o->H' b=some o
def lA.stays{N:ae->Prop}{u:ae}(h:lA t N H u f)(k:pD N H H'):lA t N H' u f:=by let(dx,l,a,h0,c,d,e):=63 h;exact(jc dx l a h0 (k _ _ c #[rf]) (k _ _ d h0) (e.keep λb xs q=>k _ _ q trivial))
def iE.stays{N:ae->Prop}(h:iE t N H p it)(k:pD N H H'):iE t N H' p it:=by
 have z:∀{dx:ae} {b c d e g:V},H p=some #[mp]->H' p=some #[mp]:=λq=>k _ _ q #[mJ];cases it with
 |unit f lo j sp=>let(dx,u,a,i):=22 h;exact(fi dx u (z a) (i.stays k))
 |begins=>let(dx,a):=1 h;rw[1920]
 |ends=>let(dx,a):=1 h;rw[1920]
 |opening=>let(dx,a):=1 h;rw[1920]
 |closing=>let(dx,a):=1 h;rw[1920]
def fW.stays{N:ae->Prop}(k:pD N H H'):∀{ps:List ae} {l:List Item},fW t N H ps l->fW t N H' ps l:=by
 rw[2059]
 induction h with
 |nil=>exact .nil
 |cons h r a=>exact .cons (h.stays k) a
def lP.stays{N:ae->Prop}(h:lP t N H p l)(k:pD N H H'):lP t N H' p l:=by let(dx,f,ps,h0,a,b,c):=63 h;exact(jc dx f ps h0 (k _ _ a #[mI]) (k _ _ b h0) (c.stays k))
def lP.mono{N:ae->Prop}(h:lP t N H p l)(m:∀b,N b->N' b):lP t N' H p l:=by let(dx,f,ps,h0,a,c,d):=63 h;exact(jc dx f ps (m f h0) a c (d.mono m))
def pD.trans{N:ae->Prop}(a:pD N H H1)(b:pD N H1 H2):pD N H H2:=λx o h n=>b x o #[wh] n
def pD.same{N:ae->Prop}(k:bp H H'):pD N H H':=λb o h _=>k b o h
def pD.upd{N:ae->Prop}{b:ae}{u:HO}(h:H b=some o)(n:¬JB N b o):pD N H (L2.upd H b u):=λx v q z=>by
 by_cases e:x=b
 ·rw[2046];rw[h]at q;rw[2090];exact absurd z n
 ·rw[aE e];rw[2105]
def CH{N:ae->Prop}{b dx:ae}:¬JB N b (.ins C dx #[G]):=by
 have z:∀k:Str,k="stretches"\/k="unit"\/k="group_count"->#[G].lookup k=none:=by rintro k (rfl|rfl|rfl)<;>(unfold c6;rw[eQ #[a],eQ #[a],eQ #[a],eQ #[a],eQ #[a],eQ #[a]];rfl)
 rintro(q|q|q)
 ·exact q (z _ #[ay])
 ·exact q (z _ #[uz])
 ·exact q (z _ #[uy])
abbrev RZ(K:aA)(t:cI):Sp:=λvs H Q _=>∃(ed c dx de a:ae) (i n:Nat) (ns:List Int) (d pt e fo f g:V),vs=#[e8]/\H ed=some (.ins t.fP de (c6 d pt e fo f g))/\H c=some #[aR]/\a8 K H a #[N]/\ns[i]?=some (n:Int)/\i+1+n<=ns.length/\n<=2000/\(uc #[ao]=none->∀H' p,dI c H H'->H' c=some #[aC]->H p=none->H' p=some #[va]->Q #[aI] H')/\∀l,uc #[ao]=some l->∀H' p q,#[gF]->H' c=some #[aC]->H' ed=some (.ins t.fP de (c6 d #[wA] e fo f g))->lP t (λb=>H b=none) H' q l->H p=none->H' p=some (.lst [.int #[qA],.int (opened l:Int)])->Q #[aI] H'
def adg: #[9,t.oA,#[e],RZ K t]:=by
 exists T.Hw,Rq,"14"
 (let(ed,c,dx,D,a,i,n,ns,F):=508 h;let(d,pt,G,fo,I,J,L):=506 F;let(rfl,u,B,hl,M,N,hsm,O,good):=160 L)
 refine aK _ (aj (bQ 2 Rq.nd #[en]) (aj (aeE (E:=λe _ H1=>e= .ref t.u4/\∃m,H1 c=some #[lL]/\m=#[i2]/\dI c H H1/\uc #[ao]=none) (tb:=LQ K #[AT] (CZ (HE K t) [] (λe _ H1=>e= .ref t.u4/\∃m,H1 c=some #[lL]/\m=#[i2]/\dI c H H1/\uc #[ao]=none) #[lH]) "pattern") T.gK rfl T.gx (rfl,rfl) (by intro _ _ y;exact(aB (gr #[aq] (fV (RX T) #[an] #[aT] T.Jq T.yb.fn.kp T.yb.b .nil y.pass #[C]))))
    #[gO])
   (aB (aW (cf (ag #[kt] #[ns])))))) ?_
 rw[1891];simp[-ah,-aa,-ai,-aR,au,u,B,wk];refine(x6_ c dx a i n #[N] (rfl,B,hl,(by rw[bz,M];rfl),(by rw[aD];exact N),λp P=> ?_));have Z:#[o1]=#[i4]:=by rw[gW,mh]
 rw[Z];have w:p≠c:=λz=>by rw[z,B]at P;cases P
 have k1:dI c H #[h]:=dI.upd.new #[sg];have j:#[h] c=some #[aC]:=by rw[aE w.symm];rw[2040]
 have x:#[h] p=some #[Da,#[i4]]:=ao;generalize #[h]=H1 at k1 j x;have A:ed≠c:=dt u B #[aD];have fresh:∀{r:ae} {s:Hp},dI c H s->s c=some #[aC]->s r=none->H r=none:=λk h z=>mC k h z;constructor
 ·refine(x2_ p _ (rfl,a8.of x,#[pp],λe s v=>(rfl,_,v _ _ j,rfl,k1.same v,e),λl e s q v hP=> ?_));have k2:=k1.same v;have g:s ed=some (.ins t.fP D (c6 d pt G fo I J)):=k2 _ _ u A;have Q:=hP;let(dq,f,ps,hfN,hq,hf,hI):=63 hP;have R:q≠ed:=dt hq g (by intro z;injection z with _ _ z;exact absurd (dA pR z) (by show¬2=6;decide));have S:f≠ed:=dt hf g #[b];simp[-ah,-aa,-ai,-aR,au,g,T.cg,T.kf,MK,tj,ao,aE R,hq,T.vu,T.iR,T.jW,wH,oN];refine(by show 6<1000;decide,_,.inl (a8.of (by rw[aE S];exact hf)),by decide,λr hr=> ?_);have U:=(dz hr).1;have C:bp #[g2] (upd #[g2] r (.lst [.int (#[zq].length:Int),.int (opened l:Int)])):=a3 hr;refine good l e _ r q (λb o z n1 n2=>C _ _ #[lP]) (C _ _ (by rw[aE A.symm];exact v _ _ j)) (C _ _ ao) ((Q.mono λb z=>mC k1 j z).stays ((pD.upd g CH).trans (pD.same C))) (fresh k2 (v _ _ j) U) ?_;rw[ao,aD,hI.len]
 ·(intro Z s W;subst W;intro m hm X;subst X;intro hk M)
  refine #[m8];have Y:r≠c:=λz=>by rw[z,hm]at hr;cases hr
  exact O M _ r (hk.new hr) (by rw[aE Y.symm];exact hm) (fresh hk hm hr) ao
abbrev JC(K:aA)(t:cI):Sp:=λvs H Q _=>∃(ed c dx de a:ae) (i n:Nat) (ns:List Int) (d pt g fo e f:V),vs=#[e8]/\H ed=some (.ins t.fP de (c6 d pt g fo e f))/\H c=some #[aR]/\a8 K H a #[N]/\ns[i]?=some (n:Int)/\i+1+n<=ns.length/\n<=2000/\(vD #[ao]=none->∀H' p,dI c H H'->H' c=some #[aC]->H p=none->H' p=some #[va]->Q #[aI] H')/\∀l,vD #[ao]=some l->∀H' p q rs,#[gF]->H' c=some #[aC]->H' ed=some (.ins t.fP de (c6 d pt #[wA] fo e f))->H q=none->H' q=some #[ax]->iV H' rs l->H p=none->p≠q->H' p=some (.lst [.int 0])->Q #[aI] H'
def Uo: #[5,t.io,#[e],JC K t]:=by
 exists T.zE,Jl,"14"
 (let(ed,c,dx,B,a,i,n,ns,G):=508 h;let(d,pt,Y,fo,C,D,I):=506 G;let(rfl,j,F,Z,J,L,hsm,M,good):=160 I)
 refine aK _ (aj (bQ 2 Jl.nd #[en]) (aj (aeE (E:=λe _ H1=>e= .ref t.oz/\∃m,H1 c=some #[lL]/\m=#[i2]/\dI c H H1/\vD #[ao]=none) (tb:=LQ K #[AT] (CZ (BZ K t) [] (λe _ H1=>e= .ref t.oz/\∃m,H1 c=some #[lL]/\m=#[i2]/\dI c H H1/\vD #[ao]=none) #[lH]) "replacement") T.rK rfl T.nX (rfl,rfl) (by intro _ _ y;exact(aB (gr #[aq] (fV (Lz T) #[an] #[aT] T.DB T.sW.fn.kp T.sW.b .nil y.pass #[C]))))
    #[gO])
   #[cI])) ?_
 rw[1891];simp[-ah,-aa,-ai,-aR,au,j,F,wk];refine(x6_ c dx a i n #[N] (rfl,F,Z,(by rw[bz,J];rfl),(by rw[aD];exact L),λp N=> ?_));have W:#[o1]=#[i4]:=by rw[gW,mh]
 rw[W];have v:p≠c:=λz=>by rw[z,F]at N;cases N
 have k1:dI c H #[h]:=dI.upd.new (by rw[aE v];exact N);have f:#[h] c=some #[aC]:=by rw[aE v.symm];rw[2040]
 have w:#[h] p=some #[Da,#[i4]]:=ao;generalize #[h]=H1 at k1 f w;have x:ed≠c:=dt j F #[aD];constructor
 ·refine(x2_ p _ (rfl,a8.of w,#[pp],λe k u=>(rfl,_,u _ _ f,rfl,k1.same u,e),λl e k q rs u O P hP=> ?_));have k2:=k1.same u;have g:k ed=some (.ins t.fP B (c6 d pt Y fo C D)):=k2 _ _ j x;have Q:q≠ed:=dt P g #[b];simp[-ah,-aa,-ai,-aR,au,g,T.cg,T.el,IM];refine(e7 (by show 6<1000;decide) #[c] (λr hr=> ?_));have s:=(dz hr).1;have A:bp #[b8] #[mS]:=a3 hr;have tp:∀(b:ae) xs,k b=some #[bL]->#[mS] b=some #[bL]:=λb xs z=>A _ _ (by rw[aE (dt z g #[b])];exact z);exact good l e _ r q rs (λb o z n1 n2=>A _ _ #[lP]) (A _ _ (by rw[aE x.symm];exact u _ _ f)) (A _ _ ao) (mC k1 f O) (A _ _ (by rw[aE Q];exact P)) (hP.keep tp) (mC k2 (u _ _ f) s) (λz=>by rw[z,P]at s;cases s) ao
 ·(intro W k R;subst R;intro m hm S;subst S;intro X J)
  refine #[m8];have U:r≠c:=λz=>by rw[z,hm]at hr;cases hr
  exact M J _ r (X.new hr) (by rw[aE U.symm];exact hm) (mC X hm hr) ao
@[simp] def amZ:#[gH].length<1000:=(by decide:2<1000)
@[simp] def ahb:#[k].length<1000:=(by decide:8<1000)
@[simp] def afm:#[bP].length<1000:=(by decide:4<1000)
@[simp] def IS:#[n].length<1000:=(by decide:6<1000)
@[simp] def An:#[G].length<1000:=(by decide:6<1000)
@[simp] def aig:#[gN].length<1000:=(by decide:2<1000)
@[simp] def aoI:#[hI].length<1000:=(by decide:3<1000)
@[simp] def apT:#[kq].length<1000:=(by decide:2<1000)
@[simp] def am0:#[dJ].length<1000:=(by decide:4<1000)
inductive Role where
 |doc|shown|changes|change (i:Nat)|qi|dict (p:ae)|pend (p:ae) (k:Nat)|foreign
deriving DecidableEq
abbrev Role.fits:Role->HO->Prop
 | .doc,o=>∃C dx fs,o= .ins C dx fs/\fs.lookup #[aW]=none/\fs.lookup #[d9]=none/\fs.lookup #[a1]=none
 | .qi,o=>∃C dx fs,o= .ins C dx fs/\fs.lookup #[aW]=none/\fs.lookup #[d9]=none/\fs.lookup #[a1]=none
 | .change _,o=>∃C dx fs,o= .ins C dx fs/\fs.lookup #[aW]=none/\fs.lookup #[d9]=none/\fs.lookup #[a1]=none
 | .shown,o=>∃xs,o= .lst xs
 | .changes,o=>∃xs,o= .lst xs
 | .pend _ _,o=>∃xs,o= .lst xs
 | .dict _,o=>∃o5,o= .dK o5
 | .foreign,o=>∃xs,o= .lst xs
nonrec abbrev bj:=ae->Option Role
abbrev dD(ρ:bj)(H:Hp):Prop:=∀a r,ρ a=some r->∃o,H a=some o/\r.fits o
def ahc:#[k].lookup #[aW]=none/\#[k].lookup #[d9]=none/\#[k].lookup #[a1]=none:=by refine #[sb]<;>(unfold ey;rw[eQ #[a],eQ #[a],eQ #[a],eQ #[a],eQ #[a],eQ #[a],eQ #[a],eQ #[a]];rfl)
def afn:#[bP].lookup #[aW]=none/\#[bP].lookup #[d9]=none/\#[bP].lookup #[a1]=none:=by refine #[sb]<;>(unfold iP;rw[eQ #[a],eQ #[a],eQ #[a],eQ #[a]];rfl)
def afo:#[n].lookup #[aW]=none/\#[n].lookup #[d9]=none/\#[n].lookup #[a1]=none:=by refine #[sb]<;>(unfold cR;rw[eQ #[a],eQ #[a],eQ #[a],eQ #[a],eQ #[a],eQ #[a]];rfl)
structure IT(ρ:bj)(H:Hp)(Lk:bj)(H':Hp):Prop where
 own:∀a r,ρ a=some r->Lk a=some r
 not:∀a o,H a=some o->ρ a=none->H' a=some o/\Lk a=none
structure Ext(ρ:bj)(H:Hp)(Lk:bj)(H':Hp):Prop extends IT ρ H Lk H' where
 R0:∀a o,ρ a=some .foreign->H a=some o->H' a=some o
def Ext.refl{ρ:bj}:Ext ρ H ρ H:=((λ_ _ h=>h,λ_ _ h n=>(h,n)),λ_ _ _ e=>e)
def Ext.trans{ρ c d:bj}(a:Ext ρ H c H1)(b:Ext c H1 d H2):Ext ρ H d H2:=((λx r h=>b.own x r (a.own x r h),λx o h n=>b.not x o #[yJ].1 #[yJ].2),λx o h e=>b.R0 x o (a.own x _ h) (a.R0 x o h e))
def Ext.same{ρ:bj}(s:bp H H'):Ext ρ H ρ H':=((λ_ _ h=>h,λ_ _ h n=>#[o2]),λ_ _ _ e=>s _ _ e)
def Ext.upd{ρ:bj}{a:ae}{r:Role}(h:ρ a=some r)(hr:r≠ .foreign:=by intro z;cases z):Ext ρ H ρ #[z0]:=((λ_ _ h=>h,λx u e n=>(by rw[aE (λz=>by rw[z,h]at n;cases n)];exact e,n)),λx u q e=>by rw[aE (λz=>by rw[z,h]at q;cases q;exact hr rfl)];exact e)
def Ext.hH{ρ:bj}{a:ae}{r:Role}(h:H a=none)(b:ρ a=none):Ext ρ H #[uU] H:=((λx c e=>by rw[bJ (λz=>by rw[z,b]at e;cases e)];exact e,λx o e n=>(e,by rw[bJ (a5 e h)];exact n)),λ_ _ _ e=>e)
def dD.free{ρ:bj}(k:dD ρ H){a:ae}(h:H a=none):ρ a=none:=by
 cases e:ρ a with
 |none=>rfl
 |some r=>let(o,q,_):=21 (k a r e);rw[h]at q;rw[2090]
def dD.tup{ρ:bj}(k:dD ρ H){a:ae}(h:H a=some #[bL]):ρ a=none:=by
 cases e:ρ a with
 |none=>rfl
 |some r=>let(o,q,f):=21 (k a r e);rw[h]at q;rw[2090];rw[1915]
def dD.upd{ρ:bj}(k:dD ρ H){a:ae}(h:∀r,ρ a=some r->r.fits o):dD ρ #[z0]:=λx r e=>by
 by_cases z:x=a
 ·subst z;exact(aK o ao (h r e))
 ·rw[aE z];exact k x r e
def dD.hH{ρ:bj}(k:dD ρ H){a:ae}{r:Role}(h:H a=some o)(b:r.fits o):dD #[uU] H:=λx c e=>by
 by_cases z:x=a
 ·subst z;rw[df]at e;rw[2048];exact(aK o h b)
 ·rw[bJ z]at e;exact k x c e
def dD.same{ρ:bj}(k:dD ρ H)(s:bp H H'):dD ρ H':=λx r e=>by let(o,h,f):=21 (k x r e);exact(aK o (s _ _ h) f)
def jZ{ρ:bj}{a b:ae}{r c:Role}(h:ρ a=some r)(h':ρ b=some c)(n:r≠c):a≠b:=λz=>by rw[z,h']at h;cases h;exact n rfl
def ahd{ρ:bj}{a b:ae}{r:Role}(h:ρ a=some r)(h':ρ b=none):a≠b:=λz=>by rw[z,h']at h;cases h
structure PB where
 dx:ae
 sg:Nat
 lo:ae
 ls:ae
 li:ae
 ld:ae
 dd:ae
instance atw:Nonempty PB:=⟨(0,0,0,0,0,0,0)⟩
nonrec abbrev f9 (t:cI) (b:PB) (pr nx:ae):HO:= .ins t.Piece b.dx (ey (.int (b.sg:Int)) #[Cf,b.lo] #[Cf,b.ls] #[Cf,b.li] #[Cf,b.ld] #[Cf,b.dd] (.ref pr) (.ref nx))
def tr{b:PB}{pr nx:ae}:Role.fits .qi #[ca]:=(x3_ _ _ _ (rfl,ahc))
abbrev gZ(H:Hp)(r:ae)(y:lX):Prop:=H r=some (.tup [.int #[lB],.int (y.prop:Int),.int (y.value:Int)])
nonrec abbrev xC:=List (Nat×ae×List ae)
abbrev fG(es:xC):List #[iS]:=oQ (λ(e:Nat×ae×List ae)=>#[lx]) es
structure lB(ρ:bj)(H:Hp)(p dd:ae)(es:xC)(pend:List lX):Prop where
 own:ρ dd=some #[B0]
 dict:H dd=some (.dK #[og])
 nd:(es.map (·.1)).Nodup
 each:∀e∈es,ρ e.2.1=some (.pend p e.1)/\H e.2.1=some #[ip]/\Paired (λr y=>gZ H r y) e.2.2 #[lG]
 rest:∀k,k∉es.map (·.1)->pend.filter (λy=>y.prop==k)=[]
 lt4:∀e∈es,e.1<4
structure jP(K:aA)(ρ:bj)(H:Hp)(p:ae)(b:PB)(x:Piece):Prop where
 sg:b.sg=x.sign
 lo:cK K H b.lo #[AO]
 ls:cK K H b.ls #[mY]
 li:H b.li=some #[Cd,x.ins]/\ρ b.li=none
 ld:H b.ld=some #[Cd,x.del]/\ρ b.ld=none
 dd:∃es,lB ρ H p b.dd es x.pend
abbrev Role.of(p:ae):Role->Prop
 | .dict q=>q=p
 | .pend q _=>q=p
 |_=>False
abbrev WO(o:HO):Prop:=∀C dx fs,o≠ .ins C dx fs
def cK.ext{ρ:bj}{a:ae}(h:cK K H a xs)(k:dD ρ H)(e:∀a o,H a=some o->ρ a=none->WO o->H' a=some o):cK K H' a xs:=by
 rw[1919]
 ·exact .inl (.inl (e _ _ h (k.tup h) (λ_ _ _ z=>by cases z)))
 ·refine .inl (.inr (ob,e _ _ h ?_ (λ_ _ _ z=>by cases z)));cases q:ρ a with
  |none=>rfl
  |some r=>let(o,z,f):=21 (k a r q);rw[h]at z;cases z;rw[1915]
 ·rw[1923]
def gZ.ext{ρ:bj}{r:ae}(h:gZ H r y)(k:dD ρ H)(e:∀a o,H a=some o->ρ a=none->WO o->H' a=some o):gZ H' r y:=e _ _ h (k.tup h) (λ_ _ _ z=>by cases z)
def lB.ext'{ρ b:bj}{dd:ae}{es:xC}{pend:List lX}(h:lB ρ H p dd es pend)(k:dD ρ H)(w:∀a r,ρ a=some r->b a=some r)(e:∀a o,H a=some o->ρ a=none->WO o->H' a=some o)(s:∀a r,ρ a=some r->r.of p->H' a=H a):lB b H' p dd es pend:=by refine(w _ _ h.own,by rw[s _ _ h.own rfl];exact h.dict,h.nd,λx d=> ?_,h.rest,h.lt4);let(c,f,g):=40 (h.each x d);exact(e7 (w _ _ c) (by rw[s _ _ c rfl];exact f) (L2.Paired.imp' (λr y q=>gZ.ext q k e) g))
def jP.ext'{ρ c:bj}{b:PB}{x:Piece}(h:jP K ρ H p b x)(k:dD ρ H)(w:∀a r,ρ a=some r->c a=some r)(e:∀a o,H a=some o->ρ a=none->WO o->H' a=some o)(n:∀a o,H a=some o->ρ a=none->c a=none)(s:∀a r,ρ a=some r->r.of p->H' a=H a):jP K c H' p b x:=by let(es,hd):=1 (h.dd);exact(h.sg,cK.ext h.lo k e,cK.ext h.ls k e,(e _ _ h.li.1 h.li.2 (λ_ _ _ z=>by cases z),n _ _ h.li.1 h.li.2),(e _ _ h.ld.1 h.ld.2 (λ_ _ _ z=>by cases z),n _ _ h.ld.1 h.ld.2),es,hd.ext' k w e s)
def jP.ext{ρ c:bj}{b:PB}{x:Piece}(h:jP K ρ H p b x)(k:dD ρ H)(e:Ext ρ H c H')(s:∀a r,ρ a=some r->r.of p->H' a=H a):jP K c H' p b x:=h.ext' k e.own (λa o z q _=>#[kA].1) (λa o z q=>#[kA].2) s
structure Gh where
 dx:ae
 sl:ae
 cl:ae
 last:ae
 pre:List ae
 pc:ae->Piece
 bd:ae->PB
 nx:ae->ae
 pv:ae->ae
 cs:List ae
 cnt:Nat->Int
 sh:List ae
instance atx:Nonempty Gh:=⟨(0,0,0,0,[],λ_=>(0,[],[],[],[],[]),λ_=>(0,0,0,0,0,0,0),id,id,[],λ_=>0,[])⟩
nonrec abbrev Gh.ps (g:Gh):List ae:=g.pre++[g.last]
nonrec abbrev Dj (t:cI) (dx:ae) (ch:zl) (n:Int):HO:= .ins t.Change dx (iP (.int (ch.author:Int)) (.int (ch.time:Int)) (.int (ch.kind:Int)) #[wF])
nonrec abbrev P5 (t:cI) (g:Gh) (s:aU):HO:= .ins t.dg g.dx (cR #[Cf,g.last] #[Cf,g.sl] #[Cf,g.cl] (.int (s.author:Int)) (.int (s.time:Int)) (.bl s.tracking))
def ahe{g:Gh}{s:aU}:Role.fits .doc (P5 t g s):=#[o9]
def OS{dx:ae}{ch:zl}{n:Int}:Role.fits #[wL] #[lY]:=(x3_ _ _ _ (rfl,afn))
structure WP(t:cI)(ρ:bj)(H:Hp)(cs:List ae)(chs:List zl)(cnt:Nat->Int):Prop where
 len:cs.length=chs.length
 each:∀i c ch,cs[i]?=some c->chs[i]?=some ch->ρ c=some #[wL]/\∃dx,H c=some (Dj t dx ch (cnt (i+1)))
structure e8(K:aA)(t:cI)(ρ:bj)(H:Hp)(d:ae)(g:Gh)(s:aU):Prop where
 role:dD ρ H
 d:ρ d=some .doc/\H d=some (P5 t g s)
 sl:ρ g.sl=some .shown/\H g.sl=some #[Da,#[cW]]
 cl:ρ g.cl=some .changes/\H g.cl=some #[Da,#[xo]]
 nd:g.ps.Nodup
 ring:Path g.nx g.pv g.last g.ps
 nt:∀p,p∈g.ps->ρ p=some .qi/\H p=some (f9 t #[vU] (g.pv p) (g.nx p))/\jP K ρ H p #[vU] #[ap]
 chg:WP t ρ H g.cs s.changes g.cnt
structure DocOk(K:aA)(t:cI)(ρ:bj)(H:Hp)(d:ae)(g:Gh)(s:aU):Prop extends e8 K t ρ H d g s where
 row:g.ps.map g.pc=s.row
 Br:g.sh=eW g.pc g.ps
 cn:∀c,g.cnt c=(s.row.countP (dn c):Nat)
def WP.ext{ρ b:bj}{cs:List ae}{d:List zl}{cnt:Nat->Int}(h:WP t ρ H cs d cnt)(e:∀a r,ρ a=some r->b a=some r)(s:∀a i,ρ a=some #[wL]->H' a=H a):WP t b H' cs d cnt:=by
 refine(h.len,λi c ch j k=> ?_)
 (let(g,f):=20 (h.each i c ch j k);let(dx,l):=1 f)
 exact(e _ _ g,dx,by rw[s _ _ g];exact l)
def e8.same{ρ:bj}{d:ae}{g:Gh}{s:aU}(h:e8 K t ρ H d g s)(k:bp H H'):e8 K t ρ H' d g s:=by
 have st:∀a r,ρ a=some r->H' a=H a:=λa r q=>by let(o,z,_):=21 #[lJ];rw[z];exact k _ _ z
 refine(h.role.same k,(h.d.1,k _ _ h.d.2),(h.sl.1,k _ _ h.sl.2),(h.cl.1,k _ _ h.cl.2),h.nd,h.ring,λp b=> ?_,h.chg.ext (λ_ _ q=>q) λa i q=>st a _ q);let(c,e,f):=40 (h.nt p b);exact(e7 c (k _ _ e) (f.ext h.role #[CK,k] λa r q _=>st a r q))
def DocOk.same{ρ:bj}{d:ae}{g:Gh}{s:aU}(h:DocOk K t ρ H d g s)(k:bp H H'):DocOk K t ρ H' d g s:=(h.toe8.same k,h.row,h.Br,h.cn)
def e8.ahf{ρ:bj}{d b dx:ae}{fs:List #[o]}{g:Gh}{s:aU}(h:e8 K t ρ H d g s)(f:ρ b=none)(j:H b=some #[x]):e8 K t ρ #[qv] d g s:=by have st:∀a r,ρ a=some r->upd H b o a=H a:=λa r q=>aE (ahd q f);refine(λa r q=>by rw[st a r q];exact h.role a r q,#[ij],#[hx],#[hy],h.nd,h.ring,λp k=> ?_,h.chg.ext (λ_ _ q=>q) λa i q=>st a _ q);let(c,l,m):=40 (h.nt p k);refine(e7 c (by rw[st _ _ c];exact l) (m.ext' h.role (λ_ _ q=>q) (λa u q _ z=> ?_) (λ_ _ _ q=>q) λa r q _=>st a r q));rw[aE (λe=>by subst e;rw[j]at q;cases q;exact z _ _ _ rfl)];exact q
def DocOk.ahf{ρ:bj}{d b dx:ae}{fs:List #[o]}{g:Gh}{s:aU}(h:DocOk K t ρ H d g s)(a:ρ b=none)(c:H b=some #[x]):DocOk K t ρ #[qv] d g s:=(h.toe8.ahf a c,h.row,h.Br,h.cn)
def e8.ajp{ρ b:bj}{d:ae}{g:Gh}{s:aU}{c:PB}(h:e8 K t ρ H d g s)(m:p∈g.ps)(e:Ext ρ H b H')(rk:dD b H') (st:∀a r,ρ a=some r->a≠p->¬r.of p->H' a=H a) (f:H' p=some (f9 t c (g.pv p) (g.nx p))) (o:jP K b H' p c x'):e8 K t b H' d {g with pc:=cp g.pc p x',bd:=cp g.bd p c} s:=by
 have j:=(h.nt p m).1;have ne:∀a r,ρ a=some r->r≠ .qi->a≠p:=λa r q n=>jZ q j n;refine(rk,(e.own _ _ h.d.1,by rw[st _ _ h.d.1 #[C2,h.d.1] (λz=>z)];exact h.d.2),(e.own _ _ h.sl.1,by rw[st _ _ h.sl.1 #[C2,h.sl.1] (λz=>z)];exact h.sl.2),
  (e.own _ _ h.cl.1,by rw[st _ _ h.cl.1 #[C2,h.cl.1] (λz=>z)];exact h.cl.2),h.nd,h.ring,λq u=> ?_,h.chg.ext e.own λa i z=>st a _ z #[C2,z] (λz=>z))
 let(k,v,x):=40 (h.nt q u);by_cases z:q=p
 ·subst z;refine #[p5]
  ·show H' q=some (f9 t #[yv] _ _);rw[df];exact f
  ·show jP K b H' q #[yv] (cp g.pc q x' q);rw[df,df];exact o
 ·refine #[p5]
  ·show H' q=some (f9 t #[yw] _ _);rw[bJ z,st q _ k z (λz=>z)];exact v
  ·show jP K b H' q #[yw] (cp g.pc p x' q);rw[bJ z,bJ z];refine x.ext h.role e λa r w l=>st a r w ?_ ?_
   ·refine ne _ _ w ?_;intro z2;subst z2;exact l
   ·intro z2;cases r<;>first|exact l|(exact z (l.symm.trans z2))
def e8.afp{ρ:bj}{d:ae}{g:Gh}{s:aU}(h:e8 K t ρ H d g s)(b:List ae):e8 K t ρ (upd H g.sl #[gT]) d {g with sh:=b} s:=by have st:∀a r,ρ a=some r->r≠ .shown->upd H g.sl #[gT] a=H a:=λa r q n=>aE (jZ q h.sl.1 n);refine(h.role.upd λr q=>by rw[h.sl.1]at q;cases q;exact #[O],#[cp],(h.sl.1,ao),#[aL],h.nd,h.ring,λp e=> ?_,h.chg.ext (λ_ _ q=>q) λa i q=>st a _ q #[b]);let(c,f,j):=40 (h.nt p e);exact(e7 c (by rw[st _ _ c #[b]];exact f) (j.ext h.role #[Di,h.sl.1] λa r q w=>st a r q #[b7]))
def e8.ajq{ρ:bj}{d:ae}{g:Gh}{s:aU}{dx:ae}{ch:zl}{n:Int}(h:e8 K t ρ H d g s)(y:g.cs[i]?=some c)(e:s.changes[i]?=some ch)(E:∃m,H c=some (Dj t dx ch m)):e8 K t ρ #[Dr,#[lY]] d {g with cnt:=cp g.cnt (i+1) n} s:=by
 let(v,_):=20 (h.chg.each i c ch y e);have st:∀a r,ρ a=some r->r≠ .change i->upd H c #[lY] a=H a:=λa r q n=>aE (jZ q v n);refine(h.role.upd λr q=>by rw[v]at q;cases q;exact OS,#[cp],#[b4],#[aL],h.nd,h.ring,λp A=> ?_,h.chg.len,λj f b k u=> ?_)
 ·let(k,u,l):=40 (h.nt p A);exact(e7 k (by rw[st _ _ k #[b]];exact u) (l.ext h.role #[Di,v] λa r q w=>st a r q #[b7]))
 ·(let(l,x):=20 (h.chg.each j f b k u);let(o,B):=1 x)
  by_cases z:j=i
  ·subst z;have C:f=c:=dm.inj (k.symm.trans y);have D:b=ch:=dm.inj (u.symm.trans e);subst C D;refine(l,dx,?_);show upd H f _ f=some (Dj t dx b (cp g.cnt (j+1) n (j+1)));rw[ao,df]
  ·refine(l,o,?_);show upd H c _ f=some (Dj t o b (cp g.cnt (i+1) n (j+1)));rw[st _ _ l (by intro q;cases q;exact z rfl),bJ #[f]];exact B
abbrev Wi(t:cI):Sp:=λvs H Q _=>∃(p dx lo li:ae) (sg:Nat),vs=[.ref p,.int (sg:Int),.ref lo,.ref li]/\H p=some #[Ct,t.Piece]/\∀ld dd H',H ld=none->H dd=none->ld≠dd->H' p=some (f9 t (dx,sg,lo,lo,li,ld,dd) p p)->H' ld=some #[ar]->H' dd=some #[tk]->(∀b,b≠p->b≠ld->b≠dd->H' b=H b)->Q .cG H'
def Ll: #[1,t.nS,#[bF],Wi t]:=by
 exists T.A7,VB,"5"
 (let(p,dx,lo,li,sg,j):=505 h;let(rfl,q,k):=40 j)
 refine aK _ (aj #[cV] (aj #[cY] (aj #[cY] (aj #[g6] (aj #[ia] (aj #[AV] (aj #[xk] (aB #[xk])))))))) ?_;rw[1891];simp[-ah,-aa,-aR,au,q,T.b8,T.jm,T.ke,T.ef,T.fS,T.ib,ao,d8,Z3,Z4,Z5,Z6];intro ld l;let(e,a):=20 (dz l);have r:∀{o u:HO},upd (upd H p o) ld u p=some o:=λ{o u}=>by rw[aE a.symm];rw[2040]
 simp[-ah,-aa,-aR,au,r,T.b8,T.ib,Z7,T.dF];intro dd m;let(f,c):=20 (dz m);let(g,d):=20 (dz f);let(i,_):=20 (dz g);have s:∀{G:Hp} {o u:HO},upd (upd G p o) dd u p=some o:=λ{G o u}=>by rw[aE c.symm];rw[2040]
 simp[-ah,-aa,-aR,au,s,T.b8,T.dF,Z8,T.fH,T.ic,ao,d8,Z9,aaa];refine k ld dd _ e i d.symm ?_ ?_ ?_ λb n v w=> ?_
 ·rw[2040]
 ·rw[aE a,aE d.symm,aE a];rw[2040]
 ·rw[aE c];rw[2040]
 ·rw[aE n,aE w,aE n,aE v,aE n]
abbrev ahg(t:cI):Sp:=λvs H Q _=>∃(p b:ae) (bd:ae->PB) (nx pr:ae->ae),vs=[.ref p,.ref b]/\H p=some #[oh]/\H b=some (f9 t (bd b) (pr b) (nx b))/\H (pr b)=some (f9 t (bd (pr b)) (pr (pr b)) (nx (pr b)))/\p≠b/\p≠pr b/\∀H',(∀a,a=p\/a=b\/a=pr b->H' a=some (f9 t (bd a) (cp (cp pr p (pr b)) b p a) (cp (cp nx (pr b) p) p b a)))->(∀a,a≠p->a≠b->a≠pr b->H' a=H a)->Q .cG H'
def Fg: #[1,t.eD,#[bM],ahg t]:=by
 exists T.rM,wt,"5"
 (let(p,b,bd,nx,d,i):=505 h;let(rfl,r,q,s,c,g,k):=120 i)
 refine aK _ (aj (bQ 2 wt.nd #[ct]) (aj (gr #[bG] #[aq]) (aj #[cY] (aj #[cV] (aB (gr #[aZ] #[aq])))))) ?_;rw[1891];simp[-ah,-aa,-aR,au,q,s,T.b8,T.fH,T.ic,BV,wn];have v:∀{o:HO},upd H (d b) o p=some (f9 t (bd p) (d p) #[xc]):=λ{o}=>by rw[aE g];exact r
 simp[-ah,-aa,-aR,au,v,T.b8,T.fH,T.ic,oP,wn,ao,d8];by_cases z:d b=b
 ·have j:∀{o u:HO},upd #[x5] p u b=some o:=λ{o u}=>by rw[aE c.symm,z];exact ao
  rw[2002];rw[1967]
  ·have f:a=p\/a=b:=by rcases f with h|h|h;rw[2061];rw[1923];exact .inr (h.trans z)
   rcases f with rfl|rfl
   ·rw[2121]
   ·rw[ao,df,bJ c.symm,z,df]
  ·rw[aE m,aE l,aE n]
 ·have j:∀{o u:HO},upd #[x5] p u b=some (f9 t (bd b) (d b) (nx b)):=λ{o u}=>by rw[aE c.symm,aE (λe=>z e.symm)];exact q
  rw[2002];rw[1967]
  ·rcases f with rfl|rfl|rfl
   ·rw[2121]
   ·rw[ao,df,bJ c.symm,bJ (λe=>z e.symm)]
   ·rw[aE z,aE g.symm,ao,bJ z,bJ g.symm,bJ g.symm,df]
  ·rw[aE m,aE l,aE n]
abbrev ahh(t:cI):Sp:=λvs H Q _=>∃(p:ae) (bd:ae->PB) (nx pr:ae->ae),vs=#[qq]/\H p=some #[oh]/\H #[xc]=some (f9 t (bd #[xc]) (pr #[xc]) (nx #[xc]))/\H (pr p)=some (f9 t (bd (pr p)) (pr (pr p)) (nx (pr p)))/\∀H',(∀a,a=nx p\/a=pr p->H' a=some (f9 t (bd a) (cp pr #[xc] (pr p) a) (cp nx (pr p) #[xc] a)))->(∀a,a≠nx p->a≠pr p->H' a=H a)->Q .cG H'
def Nd: #[1,t.hX,#[az],ahh t]:=by
 exists T.yP,xh,"4"
 (let(p,bd,nx,c,d):=504 h;let(rfl,j,l,m,k):=80 d)
 refine aK _ (aj (bQ 1 xh.nd #[i]) (aj (bQ 2 xh.nd #[i]) (aj (gr #[aZ] #[bG]) (aB (gr #[bG] #[aZ]))))) ?_;rw[1891];simp[-ah,-aa,-aR,au,j,m,T.b8,T.fH,T.ic,BV,wm,wn];by_cases z:c p=nx p
 ·have f:∀{o:HO},upd H (c p) o #[xc]=some o:=λ{o}=>by rw[z];exact ao
  rw[2003];rw[1972]
  ·have b:a=nx p:=by rcases b with h|h;exact h;exact h.trans z
   subst b;rw[ao,df,z,df]
  ·rw[aE g,aE i]
 ·have f:∀{o:HO},upd H (c p) o #[xc]=some (f9 t (bd #[xc]) (c #[xc]) (nx #[xc])):=λ{o}=>by rw[aE (λe=>z e.symm)];exact l
  rw[2003];rw[1972]
  ·rcases b with rfl|rfl
   ·rw[ao,df,bJ (λe=>z e.symm)]
   ·rw[aE z,ao,bJ z,df]
  ·rw[aE g,aE i]
abbrev Bs(K:aA):Sp:=λvs H Q _=>∃(a:ae) (l:List Nat) (k v:Nat),vs=#[Cr,a]/\cK K H a #[f6]/\l.length=4/\k<4/\∀H' p,bp H H'->H' p=some (.tup (nums (l.set k v)))->Q #[aI] H'
def bp.tup{a:ae}(e:bp H H')(h:cK K H a xs):cK K H' a xs:=by
 rw[1919]
 ·exact .inl #[xI]
 ·exact .inl (.inr (ob,e _ _ h))
 ·rw[1923]
def Bt(h:n<=100):n<=aS:=by rw[cH];lia
def GA: #[1,t.ph,#[eM],Bs K]:=by
 exists T.za,XS,"4"
 (let(a,l,k,v,g):=504 h;let(rfl,u,P,R,w):=80 g)
 refine aK _ (aB (aW (cV YM (cV YM (tJ ad3 #[aq] Fu (pZ #[aZ])) (lY #[C])) (tJ ad3 #[aq] (pZ #[Dv,a6]) Fu)))) ?_;rw[1891];rw[2020];refine(cX #[f6] u ?_ (λB C=>(Bt #[c],λD m=> ?_)))
 ·rw[HT.Ad,bG];lia
 have E:=(dz m).2;have F:tK #[f6] none #[zi]=nums #[yf]:=by unfold tK;rw[HT.Ad,bG,jp #[f]];show(List.drop 0 #[f6]).take (k-0)=_;rw[2049];rw[rZ,K6,gW]
 have G:tK #[f6] #[Dc,#[h0]] none=nums #[zv]:=by unfold tK;rw[HT.Ad,bG,jp #[f]];show(List.drop (k+1) #[f6]).take (l.length-(k+1))=_;rw[2049];rw[<-mh,BI #[p]]
 rw[F]at m ⊢;have I:bp H (upd H B #[Dz,#[yf]]):=a3 C;have x:=a3 m (o:= .tup [.int (v:Int)]);have b:=I.trans x;have hs:=akx (l:=l) (k:=k) (v:=v) #[j];have c:∀(d:Hp) (q:ae),bp H d->cK K d q (nums #[ph])->d q=some #[Dz,#[ph]]->tSl (agr K) #[AT] (ab4 (Hk (BU λi j=>V.int (i+j)) (iK 1) (tC (V.int 1)))) SU [some #[sp],some #[eu],some #[kL]] d λy J=>YL K (V.ref q) y J Q:=by
  intro d q n L p;rw[2020];refine(cX #[f6] (Pe.bp.tup n u) ?_ (λA r=> ?_))
  ·rw[show #[ri]=#[h0] by rfl,HT.Ad,bG];simp_all
  rw[show #[ri]=#[h0] by lia,G];have f:=a3 r (o:= .tup (nums #[zv]));refine(aK _ (Pe.bp.tup f L) #[kZ])
  ·refine Bt ?_;rw[bG,bG,aM,bE,bN];simp;omega
  ·intro z;have:=dA pR z;rw[bG,aM]at this;rw[2111]
  ·intro _ z;have:=dA pR z;rw[bG,bN]at this;have hd:l.drop (k+1)=[]:=vG (by simp at this;lia);refine w _ q (n.trans f) ?_;rw[hs];have M:l.take k++[v]++l.drop (k+1)=l.take k++[v]:=by rw[hd,ah]
   rw[M];exact f _ _ p
  ·intro _ _ N s;refine w _ N ((n.trans f).trans (a3 s)) ?_;rw[ao,hs];rw[2049];rw[bb,bb,bb]
 refine(aK _ (cK.of (x _ _ ao)) #[kZ])
 ·refine Bt ?_;rw[bG,bE];simp;lia
 ·intro z;have:=dA pR z;rw[bG,bE]at this;have e:l.take k=[]:=DP (by rw[bE];simpa using this);have q:=c _ D b (cK.of #[tQ]) #[tQ];rw[2095];rw[2105]
 ·intro _ z;cases z
 ·intro _ _ A r;have O:nums #[yf]++[V.int (v:Int)]=nums #[ph]:=by unfold nums;rw[bb];rfl
  rw[O];have q:=c _ A (b.trans (a3 r)) (cK.of ao) ao;rw[2095];rw[2105]
abbrev R1(J:It)(g:TG)(tt:TT)(te:TE)(vs:List Nat)(σ:L2.St)(H1:Hp)(Q:VK):Prop:=∀D,H1 D=none->∃W:Nat->Nat->Hp->Prop,(∃m,W 0 m #[Dt,H1])/\∀i m H,W i m H->#[qc]\/(J.go i H/\∃c:Hp->Prop,(∀H',c H'->∃d,d<m/\W (i+1) d H')/\∀x H',J.QI i H x H'->g x (wipe σ vs) H' λa H2=>wipe a vs=wipe σ vs/\tt a H2 λb e=>
  if b=true then te a e λy f=>∃acc,f D=some #[mG]/\acc.length<aS/\c #[pb]else c e)
@[simp] def aty{a:TI}{g:TG}{vs:List Nat}:tLc a g tt te vs σ H Q=a σ H λJ H1=>R1 J g tt te vs σ H1 Q:=rfl
@[simp] def aoJ{tl:TE}{R:It->Hp->Prop}:WA K tl σ H R=tl σ H λx H1=>∃a,x= .ref a/\(∃xs,a8 K H1 a xs)/\R #[jE] H1:=rfl
def afq{a:ae}{c:V->Bool}{f:V->V}{g:TG}{vs:List Nat}(o:a8 K H1 a xs)(hz:xs.length<=aS) (step:∀x H' (Y N:Hp->Prop) (D:ae),x∈xs->bp H1 H'->(c x=true->∃acc,H' D=some #[mG]/\acc.length<aS/\Y (upd H' D (.lst (acc++[f x]))))->(c x=false->N H')->g x (wipe σ vs) H' λe H2=>wipe e vs=wipe σ vs/\tt e H2 λb m=>if b=true then te e m λy n=>∃acc,n D=some #[mG]/\acc.length<aS/\Y (upd n D #[gm])else N m) (k:∀D,H1 D=none->Q #[l0] (upd H1 D (.lst ((xs.filter c).map f)))):R1 #[jE] g tt te vs σ H1 Q:=by
 intro D j;refine S1 (K:=K) (a:=a) (xs:=xs) (λi H'=>H'=upd H1 D (.lst (#[rJ].map f))) rfl ?_ ?_ ?_
 ·(intro i H' _ d;subst d)
  exact NU o (a3 j)
 ·(intro i x H' h d;subst d)
  have hm:x∈xs:=bO h;have q:=jY h;refine step x _ (λH'=>H'=upd H1 D #[iW]) (λH'=>H'=upd H1 D #[iW]) D hm (a3 j) (λl=> ?_) (λl=> ?_)
  ·refine #[kD]
   ·have p:#[rJ].length<=(xs.take i).length:=jE _ _;rw[aD];rw[bE]at p
    lia
   ·rw[d8,take_snoc h,eV,bb];have:[x].filter c=[x]:=by rw[cC,aq l];rfl
    rw[1924];rfl
  ·rw[take_snoc h,eV];have:[x].filter c=[]:=by rw[cC,am (by rw[l];decide)];rfl
   rw[this,ah]
 ·(intro H' d;subst d)
  rw[cy];exact k D j
def Y7{a:ae}{f:V->V}{vs:List Nat}(d:a8 K H1 a xs)(hz:xs.length<=aS)(hw:∀x,wipe #[dm] vs=wipe σ vs) (b:∀x H' (Q':VK),x∈xs->bp H1 H'->Q' (f x) H'->te #[dm] H' Q') (k:∀D,H1 D=none->Q #[l0] (upd H1 D (.lst (xs.map f)))):R1 #[jE] (sN i) Ph te vs σ H1 Q:=by
 refine afq (c:=λ_=>true) (f:=f) d hz (λx H' Y N D hm hs e _=> ?_) λD g=> ?_
 ·refine #[Am];unfold Ph;rw[1897];rw[1898];exact b x H' _ hm hs (e rfl)
 ·have:xs.filter (λ_=>true)=xs:=jy.mpr λ_ _=>rfl;rw[1924];exact k D g
def NX(es:xC)(k:Nat):(∃e,e∈es/\e.1=k/\iL #[og] #[Y]=some #[Cf,e.2.1])\/(k∉es.map (·.1)/\iL #[og] #[Y]=none):=by
 induction es with
 |nil=>exact .inr (rr,rfl)
 |cons e es d=>
  by_cases h:e.1=k
  ·left;refine(cX e bg h ?_);exact qm (p:=#[lx]) (by rw[h])
  ·have f:¬#[i3]:=λz=>h #[om];have c:iL (fG (e::es)) #[Y]=iL #[og] #[Y]:=qo (p:=#[lx]) f;rcases d with⟨g,a,b,i⟩|⟨a,b⟩
   ·exact .inl (cX g #[zU] b (by rw[c];exact i))
   ·right;refine(λz=> ?_,by rw[c];exact b);rw[cB]at z;rcases b7.mp z with z|z
    ·exact h z.symm
    ·exact a z
def ahi(es:xC)(k:Nat):wr #[og] #[Y]=fG #[el]:=by
 unfold wr fG;rw[List.filter_map];congr 1;apply fA;intro e _;show decide (¬#[i3])=_;by_cases h:e.1=k
 ·rw[h];simp
 ·have a:¬#[i3]:=λz=>h #[om];rw[aT a,aV h];rfl
def ajr(es:xC)(k:Nat)(l:ae)(h:k∉es.map (·.1)):putK #[og] #[Y] #[co]=fG #[xr]:=by
 have c:iL #[og] #[Y]=none:=by
  rcases NX es k with⟨e,d,a,_⟩|⟨_,a⟩
  ·exact absurd (ci.mpr (aK e d a)) h
  ·exact a
 have b:=B7 (Sum.inl (k:Int):Key) #[og];rw[c]at b;unfold putK;rw[am #[nm]];unfold fG;rw[bb];rfl
def GB:∀{H:Hp} {rs:List ae} {ys:List lX},Paired (λr y=>gZ H r y) rs ys->∀{v:V},v∈rs.map V.ref->∃r y,v= .ref r/\y∈ys/\gZ H r y
 |_,_,_,.nil,_,h=>by cases h
 |_,_,_,.cons (a:=r) (b:=y) c d,v,h=>by
  rw[cB]at h;rw[1963]
  ·exact(c4 r y rfl bg c)
  ·let(e,f,g,i,j):=42 (GB d h);exact(c4 e f g (a9 _ i) j)
abbrev firstOf(H:Hp):V->V
 | .ref r=>#[hA]
 |_=> .cG
def KI:∀{H:Hp} {rs:List ae} {ys:List lX},Paired (λr y=>gZ H r y) rs ys->#[C8,rs.map].map (firstOf H)=nums (ys.map (·.change))
 |_,_,_,.nil=>rfl
 |H,_,_,.cons (a:=r) (b:=y) c d=>by
  rw[cB,cB,KI d];have:firstOf H #[kQ]= .int #[lB]:=by show #[hA]=_;rw[show H r=_ from c]
  rw[1924];rfl
def R3{l:List lX}{k:Nat}(h:j≠k):#[pi].filter (λy=>y.prop==j)=l.filter λy=>y.prop==j:=by
 rw[mM];apply fA;intro y _;by_cases e:y.prop=j
 ·have:¬y.prop=k:=λz=>h #[f];simp[e,h]
 ·simp[e]
def afr{l:List lX}{k:Nat}:#[pi].filter (λy=>y.prop==k)=[]:=by rw[mM,qO];intro y _;cases #[iF]<;>decide
def lB.ahj{ρ:bj}{dd:ae}{es:xC}{pend:List lX}{k:Nat}(h:lB ρ H p dd es pend)(b:k∉es.map (·.1)):lB ρ H p dd es #[nS]:=by
 refine(h.own,h.dict,h.nd,λe he=> ?_,λj c=> ?_,h.lt4)
 ·have a:e.1≠k:=λz=>b (ci.mpr (aK e he z));rw[R3 a];exact h.each e he
 ·by_cases z:j=k
  ·rw[z];exact afr
  ·rw[R3 z];exact h.rest j c
def lB.ahk{ρ:bj}{dd:ae}{es:xC}{pend:List lX}{k:Nat}(h:lB ρ H p dd es pend)(rk:dD ρ H):lB ρ (upd H dd (.dK (fG #[el]))) p dd #[el] #[nS]:=by
 refine(h.own,ao,?_,λe he=> ?_,λj c=> ?_,λe he=>h.lt4 e (cT.mp he).1)
 ·exact iJ.sublist #[ss] h.nd
 ·let(he,d):=20 (cT.mp he);have a:e.1≠k:=by simpa using d
  rw[R3 a];let(b,f,g):=40 #[r5];refine(e7 b (by rw[aE (jZ b h.own #[b])];exact f) (L2.Paired.imp' (λr y q=> ?_) g));show upd H dd _ r=_;rw[aE (λz=>by have:=rk.tup q;rw[z,h.own]at this;cases this)];rw[2105]
 ·by_cases z:j=k
  ·rw[z];exact afr
  ·rw[R3 z];refine h.rest j λhm=>c ?_;let(e,he,i):=21 #[yx];exact ci.mpr (aK e (cT.mpr (he,by simp;lia)) i)
structure After(K:aA)(t:cI)(ρ:bj)(H:Hp)(Lk:bj)(H':Hp)(p pr nx:ae)(x':Piece):Prop where
 ext:Ext ρ H Lk H'
 rk:dD Lk H'
 st:∀a r,ρ a=some r->a≠p->¬r.of p->H' a=H a
 body:∃b',H' p=some (f9 t b' pr nx)/\jP K Lk H' p b' x'
abbrev P6(K:aA)(t:cI):Sp:=λvs H Q _=>∃(ρ:bj) (p:ae) (b:PB) (pr nx:ae) (x:Piece) (k v:Nat),vs=#[Cr,p]/\dD ρ H/\ρ p=some .qi/\H p=some #[ca]/\jP K ρ H p b x/\x.look.length=4/\k<4/\x.pend.length<=aS/\∀H' l,After K t ρ H ρ H' p pr nx #[pd]->H l=none->H' l=some #[rH]->Q #[co] H'
def IU: #[2,t.fm,#[bZ],P6 K t]:=by
 exists T.uw,pa,"8"
 (let(ρ,p,b,J,nx,x,k,v,R4):=508 h;let(rfl,rk,c,hp,g,h4,hk,hpz,kk):=160 R4)
 refine aK _ (aj (bQ 3 pa.nd #[kC]) (aj (bX (LM (akm #[BM] #[aZ] #[i])) (aB (Xk (te:=Hk (LU K) (iK 4) (tC #[gU])) (i:=3) (own:=[(("entry"),4)]) rfl pa.nd rfl rfl #[sk] (gX (agy #[i] #[aZ] (rfl,rfl,rfl,rfl))) (zP (N:=#[ji]) (sc:=aQ p7) #[a]) (λ_ _ _ _ _=>o6 4 pa.nd) (λ_ _ _ _ _=>Fv) (λ_ _ _ _ _=>#[b9])))
    bw)
   (aj #[eV]
   (aj #[eV]
   #[cm])))) ?_
 rw[1891];let(es,hd):=1 (g.dd);simp[-ah,-aa,-ai,-aR,au,hp,T.b8,T.dF,g9];intro u A;have hp0:upd H u #[ar] p=some (f9 t b J nx):=a3 A _ _ hp;have L:=(a3 A:bp H #[ds]) _ _ hd.dict;refine(b9 _ _ _ hp0 T.b8 T.dF _ g9 _ rfl (aK _ (JZ.k (k:=Sum.inl (k:Int)) L) ?_));have j:bp H #[ds]:=a3 A;have M:=rk.same j;have hb0:=g.ext rk #[CK,j] λa r q _=>by let(o,z,_):=21 #[kr];rw[z];exact j _ _ z
 let(es0,atW):=1 (hb0.dd);have hde:es0=es0:=rfl;have fin:∀(B:Hp) (l:ae),dD ρ B->(∀a o,H a=some o->a≠b.dd->B a=some o)->(∃O,lB ρ B p b.dd O #[pd].pend)->H l=none->B l=some #[rH]->Ic (LQ K #[AT] (CZ (Bs K) [] E0 (o8 (JV K #[AT] "own_look") #[vG])) "own_look") (Ic (LQ K #[AT] (CZ (Bs K) [] E0 (o8 #[oS] #[vG])) "shown_look") (agf (iK 3))) {nx:=λ_ H'=>Q .cG H',rt:=Q} [some #[pB],some #[eu],some #[kL],some #[pC],none] B:=by
  intro B l P C R hl Y8;have ndd:p≠b.dd:=jZ c hd.own #[b];have S:=C _ _ hp ndd;have nlo:cK K B b.lo #[AO]:=cK.ext g.lo rk λa o q n _=>C a o q (λz=>by rw[z,hd.own]at n;cases n);have nls:cK K B b.ls #[mY]:=cK.ext g.ls rk λa o q n _=>C a o q (λz=>by rw[z,hd.own]at n;cases n);simp[-ah,-aa,-ai,-aR,au,S,T.b8,T.ke,T.ef,xw];refine(x4_ _ _ _ _ (rfl,nlo,h4,hk,λH3 d s3 hlo=> ?_));have E:=s3 _ _ S;simp[-ah,-aa,-ai,-aR,au,E,T.b8,T.ke,T.ef,MH,jb,ao];have aoK:#[w3] d=some #[Dz,#[jx]]:=by rw[aE (dt hlo E #[b])];exact hlo
  have aoL:cK K #[w3] b.ls #[mY]:=by
   have q:=Pe.bp.tup s3 nls;rw[1944]
   ·exact .inl (.inl (by rw[aE #[Bo]];exact q))
   ·exact .inl (.inr (ob,by rw[aE #[Bo]];exact q))
   ·rw[2117]
  refine(x4_ _ _ _ _ (rfl,aoL,gA x,hk,λH4 F s4 hls=> ?_));have U:=s4 _ _ ao;simp[-ah,-aa,-ai,-aR,au,U,T.b8,T.ef,Bi];have rk3:=P.same s3;have pf:∀r,ρ p=some r->r.fits #[hk]:=λr q=>by rw[c]at q;rw[2090];exact tr
  have rk4:dD ρ H4:=(rk3.upd pf).same s4;have pf2:∀r,ρ p=some r->r.fits #[fh]:=λr q=>by rw[c]at q;rw[2090];exact tr
  have G:∀a o,B a=some o->a≠p->upd H4 p #[fh] a=some o:=λa o q n=>by rw[aE n];exact s4 _ _ (by rw[aE n];exact s3 _ _ q)
  have s:∀a o,H a=some o->a≠b.dd->a≠p->upd H4 p #[fh] a=some o:=λa o q n m=>G a o (C a o q n) m;let(O,R):=1 R;refine kk _ l (((λ_ _ q=>q,λa o q n=>(s a o q (λz=>by rw[z,hd.own]at n;cases n) (λz=>by rw[z,c]at n;cases n),n)),λa o n q=>s a o q (λz=>by rw[z,hd.own]at n;cases n) (λz=>by rw[z,c]at n;cases n)),rk4.upd pf2,λa r q n1 n2=> ?_,{b with lo:=d,ls:=F},ao,g.sg,?_,?_,?_,?_,O,?_) hl ?_
  ·rw[2072];rw[z];exact s a o z (λe=>by rw[e,hd.own]at q;cases q;exact n2 rfl) n1
  ·exact cK.of (by have q:=s4 _ _ aoK;rw[aE #[Cj,U]];exact q)
  ·refine cK.of ?_;rw[XE hk h4,aE (dt hls U #[b])];exact hls
  ·exact(s _ _ g.li.1 (λz=>by have:=g.li.2;rw[z,hd.own]at this;cases this) (λz=>by have:=g.li.2;rw[z,c]at this;cases this),g.li.2)
  ·exact(s _ _ g.ld.1 (λz=>by have:=g.ld.2;rw[z,hd.own]at this;cases this) (λz=>by have:=g.ld.2;rw[z,c]at this;cases this),g.ld.2)
  ·refine R.ext' P (λ_ _ q=>q) (λa o q n _=>G a o q (λz=>by rw[z,c]at n;cases n)) λa r q w=> ?_;let(o,z,_):=21 (P a r q);rw[z];exact G a o z (λe=>by rw[e,c]at q;cases q;exact w)
  ·exact G _ _ Y8 (dt Y8 S #[b])
 rcases NX es k with⟨e,he,hek,hv⟩|⟨hk0,hv⟩
 ·rw[hv];rw[aq (show(some (V.ref e.2.1)).isSome=true from rfl)];refine(bZ _ _ _ hp0 T.b8 T.dF _ g9 (cX _ rfl #[CT,L] (a7 _ L #[Y] rfl #[Dg,hv])));let(h1,h2,h3):=40 #[zA];rw[hek]at h1 h3;have ne1:e.2.1≠b.dd:=jZ h1 hd.own #[b];have W:upd #[ds] b.dd #[ci] e.2.1=some #[ip]:=by rw[aE ne1];exact j _ _ h2
  have X:=(lB.ext' hd rk (λ_ _ q=>q) (λa o q _ _=>j a o q) λa r q _=>by let(o,z,_):=21 #[kr];rw[z];exact j _ _ z).ahk (k:=k) M;rw[<-ahi]at X;have I:dD ρ #[rp]:=M.upd λr q=>by rw[hd.own]at q;rw[2090];exact #[O]
  have Y:∀a o,H a=some o->a≠b.dd->upd #[ds] b.dd #[ci] a=some o:=λa o q n=>by rw[aE n];exact j _ _ q
  have Z:Paired (λr y=>gZ #[rp] r y) e.2.2 #[cB]:=L2.Paired.imp' (λr y q=>Y _ _ q (λz=>by have:=rk.tup q;rw[z,hd.own]at this;cases this)) h3;have dd0:∀D,upd #[ds] b.dd #[ci] D=none->H D=none:=λD hD=>by have q:=(dz hD).1;exact j.free q
  generalize upd #[ds] b.dd #[ci]=H1 at W X I Y Z dd0;refine((_,a8.of W),?_);have hlen:e.2.2.length<=aS:=by have:#[cB].length<=x.pend.length:=jE _ _;rw[Paired.length h3];exact dk ‹_› ‹_›
  refine Y7 (f:=firstOf H1) #[BI] (by rw[aD];exact hlen) (λ_=>rfl) (λy H' Q' hm hs q=> ?_) λD hD=> ?_
  ·let(r,pe,rfl,_,hr):=42 (GB Z hm);have hr':cK K H' r [.int #[yb],.int (pe.prop:Int),.int (pe.value:Int)]:=cK.of (hs _ _ hr);refine #[Dg,hr'];have:firstOf H1 #[kQ]= .int #[yb]:=by
    show(match H1 r with|some (.tup (x::_))=>x|_=> .cG)=_;rw[show H1 r=_ from hr]
   rw[this]at q;rw[2105]
  ·rw[KI Z];have sD:bp H1 (upd H1 D (.lst (nums (#[cB].map (·.change))))):=a3 hD
   have q:=fin _ D (I.same sD) (λa o q n=>sD _ _ (Y a o q n)) (_,X.ext' I (λ_ _ q=>q) (λa o q _ _=>sD a o q) λa r q _=>by let(o,z,_):=21 (I a r q);rw[z];exact sD _ _ z) (dd0 D hD) ao;rw[1921];rw[1918]
 ·rw[hv,am #[c]];have hg:ui k x=[]:=by unfold ui;rw[hd.rest k hk0];rfl
  have q:=fin _ u M (λa o q _=>j _ _ q) (es,(hd.ahj hk0).ext' rk (λ_ _ q=>q) (λa o q _ _=>j a o q) λa r q _=>by let(o,z,_):=21 #[kr];rw[z];exact j _ _ z) A (by rw[hg];exact ao);rw[1921];rw[1918]
def P7:∀(n:Nat) (l:List Nat),l.Nodup->(∀a∈l,a<n)->l.length<=n
 |0,[],_,_=>be _
 |0,a::l,_,h=>absurd (h a bg) (Nat.not_lt_zero _)
 |n+1,l,d,h=>by
  have b:=P7 n (l.filter λa=> !decide (a=n)) (iJ.sublist ii d) λa c=>by
   let(f,g):=20 (cT.mp c);have:=h a f;have:a≠n:=by simpa using g
   lia
  by_cases hm:n∈l
  ·let(A,B,e):=2 (GU hm);rw[2046];rw[Pk d]at b;rw[aM]at b ⊢;rw[ak]
   lia
  ·have:l.filter (λa=> !decide (a=n))=l:=jy.mpr λa c=>by
    have:a≠n:=λz=>hm (z▸c);simp[this]
   rw[this]at b
   solve_by_elim
def lB.Af{ρ:bj}{dd:ae}{es:xC}{pend:List lX}(h:lB ρ H p dd es pend):es.length<=4:=by
 have:=P7 4 (es.map (·.1)) h.nd λa b=>by let(e,he,rfl):=21 (ci.mp b);exact h.lt4 e he
 rwa [aD]at this
def CI{l:List lX}:(l++[y]).filter (λz=>z.prop==j)=if y.prop=j then l.filter (λz=>z.prop==j)++[y]else l.filter λz=>z.prop==j:=by
 rw[eV];by_cases h:y.prop=j
 ·rw[aq h];simp[h]
 ·rw[am h];simp[h]
def OT{F:α->β->Prop}:∀{l₁:List α} {l₂:List β} {a:α} {b:β},Paired F l₁ l₂->F a b->Paired F (l₁++[a]) (l₂++[b]):=by intro l₁ l₂ a b h s;exact Paired.snoc h s
abbrev grow(k:Nat)(en:ae)(es:xC):xC:=es.map λe=>if e.1=k then((e.1),e.2.1,e.2.2++[en])else e
def ajs(k:Nat)(en:ae)(es:xC):fG #[qG]=fG es:=by unfold fG grow;rw[fO];refine dO λe _=> ?_;show(((Sum.inl ((#[cR].1:Nat):Int):Key),V.ref #[cR].2.1))=_;split<;>rfl
def Vg(k:Nat)(en:ae)(es:xC):#[qG].map (·.1)=es.map (·.1):=by unfold grow;rw[fO];refine dO λe _=> ?_;show #[cR].1=_;split<;>rfl
def lB.grown{ρ:bj}{dd:ae}{es:xC}{pend:List lX}{m k v:Nat}{e:Nat×ae×List ae}(h:lB ρ H p dd es pend)(rk:dD ρ H)(he:e∈es)(c:e.1=k)(l:gZ H en #[ve]):lB ρ #[gG] p dd #[qG] #[rW]:=by
 let(n,D,E):=40 #[r5];have o:∀r y,gZ H r y->gZ #[gG] r y:=λr y q=>by show upd H e.2.1 _ r=_;rw[aE (λz=>by have:=rk.tup q;rw[z,n]at this;cases this)];rw[2105]
 refine(h.own,?_,by rw[Vg];exact h.nd,λA d=> ?_,λj f=> ?_,λA d=> ?_)
 ·rw[aE (jZ h.own n #[b]),ajs];exact h.dict
 ·rw[2056];let(s,B,u):=40 (h.each a b);by_cases z:a.1=k
  ·have C:a=e:=by
    let(i,x):=1 (fC.mp b);let(j,f):=1 (fC.mp he);have nd:=h.nd;have g:(es.map (·.1))[i]?=some k:=by rw[bz,x];exact dA some z
    have t:(es.map (·.1))[j]?=some k:=by rw[bz,f];exact dA some c
    have li:=jY g;have:i=j:=(BJ li nd).mp (g.trans t.symm);rw[1936];rw[x]at f;exact dm.inj f
   subst C;rw[aq z];refine(e7 s ?_ ?_)
   ·show upd H a.2.1 _ a.2.1=some (.lst (#[BJ].map V.ref));rw[ao,bb];rfl
   ·show Paired _ #[BJ] _;rw[CI,aq (show k=a.1 from z.symm)];exact OT (L2.Paired.imp' o u) (o _ _ l)
  ·rw[am z];refine(e7 s ?_ ?_)
   ·rw[aE (jZ s n (by intro w;injection w with _ w;exact z (w.trans c)))];exact B
   ·rw[CI,am (show¬k=a.1 from λw=>z w.symm)];exact L2.Paired.imp' o u
 ·rw[Vg]at f;rw[CI,am (show¬k=j from λw=>f (by rw[<-w,<-c];exact ci.mpr (aK e he rfl)))];exact h.rest j f
 ·rw[2056];show(if a.1=k then((a.1),a.2.1,a.2.2++[en])else a).1<4;split<;>exact h.lt4 a b
def lB.began{ρ:bj}{dd l:ae}{es:xC}{pend:List lX}{m k v:Nat}(h:lB ρ H p dd es pend)(rk:dD ρ H)(i:k∉es.map (·.1))(x:k<4)(n:gZ H en #[ve])(A:ρ l=none)(c:∃xs,H l=some #[ai]):lB #[nV] #[eb] p dd #[uQ] #[rW]:=by
 let(xs,c):=1 c;have d:∀{a r},ρ a=some r->a≠l:=λq z=>by rw[z,A]at q;rw[2090]
 have u:∀r y,gZ H r y->gZ #[eb] r y:=λr y q=>by show upd (upd H dd _) l _ r=_;rw[aE #[Bn],aE (λz=>by have:=rk.tup q;rw[z,h.own]at this;cases this)];rw[2105]
 refine(by rw[bJ (d h.own)];exact h.own,?_,?_,λe he=> ?_,λj o=> ?_,λe he=> ?_)
 ·rw[aE (d h.own)];rw[2040]
 ·rw[bb,f6];refine(e7 h.nd #[p] (λa B b f z=> ?_));rw[Aa,bh]at f;have f:b=k:=f;exact i (by rw[<-f,<-z];exact B)
 ·rcases a4.mp he with he|he
  ·let(g,C,D):=40 #[r5];refine(e7 (by rw[bJ (d g)];exact g) ?_ ?_)
   ·rw[aE (d g),aE (jZ g h.own #[b])];exact C
   ·rw[CI,am (show¬k=e.1 from λw=>i (ci.mpr (aK e he w.symm)))];exact L2.Paired.imp' u D
  ·rw[bh.mp he];refine(e7 df ao ?_);rw[CI,aq rfl];show Paired _ [en] (_++[_]);rw[h.rest k i];exact .cons (u _ _ n) .nil
 ·rw[bb]at o;have s:j∉es.map (·.1):=λz=>o #[nw]
  have t:¬k=j:=λz=>o (a4.mpr (.inr (by rw[<-z];exact bh.mpr rfl)));rw[CI,am t];exact h.rest j s
 ·rcases a4.mp he with he|he
  ·exact h.lt4 e he
  ·rw[bh.mp he];exact x
abbrev P8(K:aA)(t:cI):Sp:=λvs H Q _=>∃(ρ:bj) (p en:ae) (b:PB) (pr nx:ae) (x:Piece) (m k v:Nat),vs=[.ref p,.ref en]/\dD ρ H/\ρ p=some .qi/\H p=some #[ca]/\jP K ρ H p b x/\gZ H en #[ve]/\k<4/\x.pend.length<aS/\∀a H',After K t ρ H a H' p pr nx #[oA]->Q .cG H'
def IV: #[2,t.fq,#[g1],P8 K t]:=by
 exists T.ux,y6,"10"
 (let(ρ,p,en,b,pr,nx,x,m,z0_):=508 h;let(k,v,R4):=502 z0_;let(rfl,rk,g,hp,d,A,hk,hpz,kk):=160 R4)
 refine aK _ (aj (bQ 2 y6.nd #[rX]) (aj (c9 (hR bi bR bS fE (ag0 #[i] #[bG] #[kC] (rfl,rfl,rfl,rfl)) #[J])) (aB (gr #[aq] (d5 hr (GA T) T.C9 T.za (ag #[i] (ag #[bG] #[Cw,#[rX]]))))))) ?_;rw[1891];let(es,hd):=1 (d.dd);have S:∀(c:bj) (G:Hp),dD c G->(∀a r,ρ a=some r->c a=some r)->(∀a o,H a=some o->ρ a=none->c a=none)->(∀a o,H a=some o->#[mP]->G a=some o)->(∃L,lB c G p b.dd L #[oA].pend)->LQ K #[AT] (CZ (Bs K) [] E0 (o8 #[oS] (o8 (iK 2) (o8 (Hk (LU K) (iK 1) (tC (.int 2))) vd)))) "shown_look" {nx:=λ_ H'=>Q .cG H',rt:=Q} [some #[pB],some (V.ref en),some #[eu]] G:=by
  intro c G M f j B N;have U:=B _ _ hp (λr q=>by rw[g]at q;cases q;exact λz=>z);have W:gZ G en (m,k,v):=B _ _ A (λr q=>by rw[rk.tup A]at q;cases q);have nls:cK K G b.ls #[mY]:=cK.ext d.ls rk λa o q n _=>B a o q (λr z=>by rw[n]at z;cases z);simp[-ah,-aa,-ai,-aR,au,U,T.b8,T.ef,jb];refine(a7 _ (cK.of W) _ rfl (x4_ _ _ _ _ (rfl,nls,gA x,hk,(λH4 C s4 X=> ?_))));have Y:=s4 _ _ U;simp[-ah,-aa,-ai,-aR,au,Y,T.b8,T.ef,Bi];have pf2:∀r,c p=some r->r.fits #[g8]:=λr q=>by rw[f _ _ g]at q;rw[2090];exact tr
  have O:∀a o,G a=some o->a≠p->upd H4 p #[g8] a=some o:=λa o q n=>by rw[aE n];exact s4 _ _ q
  have i:∀a o,H a=some o->#[mP]->a≠p->upd H4 p #[g8] a=some o:=λa o q n m=>O a o (B a o q n) m;have np:∀a,ρ a=none->a≠p:=λa q z=>by rw[z,g]at q;rw[2090]
  let(L,N):=1 N;refine kk c _ (((f,λa o q n=>(i a o q (λr z=>by rw[n]at z;cases z) (np a n),j a o q n)),λa o n q=>i a o q (λr z=>by rw[n]at z;cases z;exact λy=>y) (λz=>by rw[z,g]at n;cases n)),(M.same s4).upd pf2,λa r q n1 n2=> ?_,{b with ls:=C},ao,d.sg,?_,?_,?_,?_,L,?_)
  ·rw[2072];rw[z];exact i a o z (λr' e=>by rw[q]at e;cases e;exact n2) n1
  ·exact cK.ext d.lo rk λa o q n _=>i a o q (λr z=>by rw[n]at z;cases z) (np a n)
  ·refine cK.of ?_;rw[ZR hk,aE (dt X Y #[b])];exact X
  ·exact(i _ _ d.li.1 (λr z=>by rw[d.li.2]at z;cases z) (np _ d.li.2),j _ _ d.li.1 d.li.2)
  ·exact(i _ _ d.ld.1 (λr z=>by rw[d.ld.2]at z;cases z) (np _ d.ld.2),j _ _ d.ld.1 d.ld.2)
  ·have np':∀a,c a=none->a≠p:=λa q z=>by rw[z,f _ _ g]at q;cases q
   refine N.ext' M (λ_ _ q=>q) (λa o q n _=>O a o q (np' a n)) λa r q w=> ?_;let(o,z,_):=21 (M a r q);rw[z];exact O a o z (λe=>by rw[e,f _ _ g]at q;cases q;exact w)
 rw[1892];refine(a7 _ (cK.of A) _ rfl (bZ _ _ _ hp T.b8 T.dF _ g9 (cX _ rfl #[CT,hd.dict] (λl s=> ?_))));have P:bp H #[dt]:=a3 s;have D:=rk.same P;have nl:∀{a r},ρ a=some r->a≠l:=λ{a r} q z=>by let(o,e,_):=21 #[kr];rw[z,s]at e;rw[2048]
 have I:ρ l=none:=rk.free s;have E:=lB.ext' hd rk (λ_ _ q=>q) (λa o q _ _=>P a o q) λa r q _=>by let(o,z,_):=21 #[kr];rw[z];exact P _ _ z
 have J:gZ #[dt] en (m,k,v):=P _ _ A;refine(aK _ E.dict (oZ #[Y] rfl ?_ (λy hy=> ?_) (λhn=> ?_)))
 ·have:=hd.Af;unfold fG;rw[aD,cH];lia
 ·rcases NX es k with⟨e,he,Z,R⟩|⟨u,R⟩
  ·rw[R]at hy;cases hy;let(r1,r2,r3):=40 (E.each e he);refine(gU #[B8,r2] _ rfl (cX _ r2 ?_ ?_))
   ·rw[aD,Paired.length r3];have:(x.pend.filter λy=>y.prop==e.1).length<=x.pend.length:=jE _ _
    lia
   ·have hg:=E.grown D he Z J;have ne1:∀a,ρ a=none->a≠e.2.1:=λa q z=>by rw[z,r1]at q;cases q
    have q:=S ρ _ (D.upd λr q=>by rw[r1]at q;cases q;exact #[O]) (λ_ _ q=>q) (λ_ _ _ q=>q) (λa o q n=>by rw[aE (λz=>by rw[z]at n;exact n _ r1 rfl)];exact P _ _ q) (_,hg);rw[1921];rw[1918]
  ·rw[R]at hy;cases hy
 ·have u:k∉es.map (·.1):=by
   rcases NX es k with⟨e,he,Z,R⟩|⟨u,R⟩
   ·rw[R]at hn;cases hn
   ·exact u
  have ndd:=nl hd.own;have Y9:upd #[dt] b.dd (.dK (putK #[og] #[Y] #[co])) l=some #[ar]:=by rw[aE ndd.symm];rw[2040]
  refine(.inl (rfl,_,a8.of Y9),_,Y9,by decide,?_);have hg:=E.began D u hk J I (_,ao);have ekv:fG #[uQ]=fG #[xr]:=by unfold fG;rw[bb,bb];rfl
  rw[ekv,<-ajr es k l u]at hg;rw[aJ];have q:=S #[nV] _ ?_ (λa r q=>by rw[bJ (nl q)];exact q) (λa o q n=>by rw[bJ (a5 q s)];exact n) (λa o q n=>by rw[aE (a5 q s),aE (λz=>by rw[z]at n;exact n _ hd.own rfl)];exact P _ _ q) (_,hg)
  ·rw[1921];rw[1918]
  ·refine dD.hH (dD.upd (D.upd λr q=>by rw[hd.own]at q;cases q;exact #[O]) λr q=>by rw[I]at q;cases q) ao #[O]
def aaP{F:α->β->Prop}{l f:List α}(h:f.Perm l):∀{m:List β},Paired F l m->∃a,a.Perm m/\Paired F f a:=by
 induction h with
 |nil=>intro m q;exact(aK m (N1.refl _) q)
 |cons x _ g=>
  intro m q;cases q with
  |cons r q=>let(a,b,c):=21 (g q);exact(aK _ (b.cons _) (.cons r c))
 |swap x y l=>
  intro m q;cases q with
  |cons r q=>cases q with
   |cons i q=>exact(aK _ (N1.swap _ _ _) (.cons i (.cons r q)))
 |trans _ _ d e=>intro m q;let(o,b,j):=21 (e q);let(k,c,n):=21 (d j);exact(aK k (c.trans b) n)
def adh{F:α->β->Prop}:∀{l₁:List α} {l₂:List β} {a:List α} {b:List β},Paired F l₁ l₂->Paired F a b->Paired F (l₁++a) (l₂++b):=by
 intro l₁ l₂ a b h s
 induction h with
 |nil=>exact s
 |cons r t c=>exact .cons r c
abbrev ki(es:xC):List ae:=es.flatMap λe=>e.2.2
def R5{H:Hp}{pend:List lX}:∀{es:xC},(∀e∈es,Paired (λr y=>gZ H r y) e.2.2 #[lG])->Paired (λr y=>gZ H r y) #[yh] ((es.map (·.1)).flatMap λk=>pend.filter λy=>y.prop==k)
 |[],_=> .nil
 |e::es,h=>by show Paired _ (e.2.2++ki es) (_++_);exact adh (h e bg) (R5 λb a=>h b #[zU])
def adi{F:α->β->Prop}:∀{l₁:List α} {l₂:List β},Paired F l₁ l₂->∀a∈l₁,∃b,b∈l₂/\F a b:=by
 intro l₁ l₂ h
 induction h with
 |nil=>intro a h;rw[1914]
 |cons r t c=>
  intro a h;rw[1963]
  ·exact(aK _ bg r)
  ·let(b,d,f):=21 (c a h);exact(aK b (a9 _ d) f)
abbrev WQ(H:Hp)(r:ae):Int:=match H r with
 |some (.tup (.int c::_))=>c
 |_=>0
def Za{r:ae}(h:gZ H r y):WQ H r=#[lB]:=by unfold WQ;rw[show H r=_ from h]
def keys_eq:∀{rs:List ae} {ys:List lX},Paired (λr y=>gZ H r y) rs ys->rs.map (WQ H)=ys.map λy=>#[lB]:=by
 intro rs ys h
 induction h with
 |nil=>rfl
 |cons h q a=>rw[cB,cB,Za h,a]
abbrev P9(K:aA)(t:cI):Sp:=λvs H Q _=>∃(ρ:bj) (p:ae) (b:PB) (pr nx:ae) (x:Piece),vs=#[qq]/\dD ρ H/\ρ p=some .qi/\H p=some #[ca]/\jP K ρ H p b x/\(x.pend.map (·.change)).Pairwise (·< ·)/\x.pend.length<=aS/\∀H' l rs,bp H H'->H l=none->H' l=some #[ax]->Paired (λr y=>gZ H' r y) rs x.pend->Q #[co] H'
def zf: #[1,t.fu,#[az],P9 K t]:=by
 exists T.qg,tN,"6"
 (let(ρ,p,b,pr,nx,x,d):=506 h;let(rfl,rk,J,hp,hb,m,hpz,kk):=140 d)
 refine aK _ (aj (bQ 1 tN.nd #[kC]) (aj (abm (iz PassesOwn.never rfl (aeh #[i]) (o6 2 tN.nd) (aB (c9 (hR bi fT fU Dq #[aZ] #[C]))))) (aB (aW (wQ ac7 #[aT] T.sorted #[a] #[J]))))) ?_;rw[1891];let(es,hd):=1 (hb.dd);rw[1892];intro l I;have W:bp H #[dt]:=a3 I;have L:=W _ _ hd.dict;have u:b.dd≠l:=a5 hd.dict I;have M:p≠b.dd:=jZ J hd.own #[b];refine(c4 b.dd _ L trivial (λA=> ?_));have N:upd #[dt] b.dd #[d0] p=some #[ca]:=by rw[aE M];exact W _ _ hp
 refine bZ _ _ _ N T.b8 T.dF _ g9 (CF _ _ _ rfl ao ?_);have B:=agM hd.nd hd.rest;have s:=R5 (es:=es) (pend:=x.pend) (H:=H) λe he=>#[zA].2.2;have X:#[yh].length=x.pend.length:=by rw[Paired.length s,B.length_eq]
 refine yi (n:=#[og].length) (λi C H'=>(∃v,C=[some #[pB],some #[pC],v])/\H'=upd #[pc] b.dd #[d0]) ((_,rfl),rfl) ?_ ?_ ?_ ?_
 ·(intro i C H' Y f;let(_,rfl):=20 f)
  exact(ao,Y)
 ·(intro C H' f;let(_,rfl):=20 f)
  exact #[Ao]
 ·(intro i C H' Y f;(let(d,rfl):=20 f;let(v,rfl):=1 d);intro y H2 O;(let(rfl,d):=20 O;let(k,j):=1 d))
  unfold fG at j;rw[bz]at j;cases he:es[i]? with
  |none=>rw[he]at j;cases j
  |some e=>
   rw[he]at j;cases j;let(r1,Z,r3):=40 (hd.each e (bO he));have P:e.2.1≠l:=a5 Z I;have h1:upd #[pc] b.dd #[d0] l=some #[cg]:=by rw[aE u.symm];rw[2040]
   have h2:upd #[pc] b.dd #[d0] e.2.1=some #[ip]:=by rw[aE (jZ r1 hd.own #[b]),aE P];exact Z
   have e1:ki #[pl]=ki (es.take i)++e.2.2:=by unfold ki;rw[take_snoc he,ij];simp
   have Q:(ki #[pl]).length<=#[yh].length:=by
    have:ki es=ki #[pl]++ki (es.drop (i+1)):=by unfold ki;rw[<-ij,fD]
    rw[this,aM];simp
   rw[1892];refine(gU #[B8,h1] _ h1 (cX _ h2 ?_ ?_))
   ·rw[e1,aM]at Q;simp;lia
   ·rw[e1,bb];funext a;by_cases z:a=l
    ·subst z;rw[ao,aE u.symm,ao]
    ·rw[aE z];by_cases z2:a=b.dd
     ·subst z2;rw[ao,ao]
     ·rw[aE z2,aE z2,aE z,aE z]
 ·(intro C H' f;(let(d,rfl):=20 f;let(v,rfl):=1 d))
  refine(ao,?_);have e2:#[og].length=es.length:=by unfold fG;rw[aD]
  rw[e2,cy];have e3:upd (upd #[b1] b.dd #[d0]) b.dd (.dK #[og])=upd H l (.lst (#[yh].map V.ref)):=by
   funext a;by_cases z:a=b.dd
   ·subst z;rw[ao,aE u];exact hd.dict.symm
   ·rw[aE z,aE z]
  rw[e3];have R:bp H #[b1]:=a3 I;have g:Paired (λr y=>gZ #[b1] r y) #[yh] _:=L2.Paired.imp' (λr y q=>R _ _ q) s;rw[1892];refine(jc l #[yh] (WQ #[b1]) rfl #[hW] (λr hr=> ?_) (λD q w E hq=> ?_))
  ·let(y,_,j):=21 (adi g r hr);exact(x2_ _ _ (by rw[Za j];exact j))
  ·have s2:=a3 hq (o:= .lst #[C8,D.map]);let(S,U,G):=21 (aaP w g);rw[keys_eq G,SH]at E;have:S=x.pend:=Jj (c:=λy=>y.change) (U.trans B) (E.imp λh=>by simp_all) (by rw[SH]at m;exact m);rw[1936];exact kk _ q D (R.trans s2) (R.free hq) ao (L2.Paired.imp' (λr y q=>s2 _ _ q) G)
abbrev ahl(K:aA)(t:cI):Sp:=λvs H Q _=>∃(ρ:bj) (p:ae) (b:PB) (pr nx:ae) (x:Piece),vs=#[qq]/\dD ρ H/\ρ p=some .qi/\H p=some #[ca]/\jP K ρ H p b x/\(x.pend.map (·.change)).Pairwise (·< ·)/\x.ins.length+x.del.length+x.pend.length<=aS/\∀H' l,bp H H'->H l=none->H' l=some (.lst (nums (nN x)))->Q #[co] H'
def IW: #[2,t.ft,#[az],ahl K t]:=by
 exists T.uy,tM,"6"
 (let(ρ,p,b,I,nx,x,n):=506 h;let(rfl,rk,s,G,u,g,J,L):=140 n)
 refine aK _ (aB (aW (cV LX (cV LX #[i] #[i]) (QX (te:=Hk (LU K) (iK 1) (tC #[gU])) (own:=[(("entry"),1)]) rfl tM.nd (gX (eM hr #[aq] T.b8 T.m7 (zf T) T.qg)) (zP (N:=#[g1]) (sc:=aQ p8) #[a]) (λ_ _ _ _ _=>o6 1 tM.nd) (λ_ _ _ _ _=>Fv) (λ_ _ _ _ _=>#[rX]))))) ?_;rw[1891];simp[-ah,-aa,-ai,-aR,au,G,T.b8,T.fS,T.ib,lh,wl,u.li.1,u.ld.1];refine(by rw[bG,bG];lia,λq M=> ?_);have e:=a3 M (o:= .lst #[p4]);have i:=e _ _ G;have v:=rk.same e;have A:=u.ext rk #[CK,e] λa r z _=>by let(o,w,_):=21 (rk a r z);rw[w];exact e _ _ w
 simp[-ah,-aa,-ai,-aR,au,i,zc];refine(x6_ ρ p b I nx x (rfl,v,s,i,A,g,by lia,λk l O B S j c=>(cX _ rfl #[Cu,j] ?_)));have P:O.length=x.pend.length:=Paired.length c;refine Y7 (f:=firstOf k) #[we] #[er] (λ_=>rfl) (λy H' Q' hm hs q=> ?_) λD Q=> ?_
 ·let(r,m,rfl,_,hr):=42 (GB c hm);have C:cK K H' r [.int #[zu],.int (m.prop:Int),.int (m.value:Int)]:=cK.of (hs _ _ hr);refine #[Dg,C];have:firstOf k #[kQ]= .int #[zu]:=by
   show(match k r with|some (.tup (x::_))=>x|_=> .cG)=_;rw[show k r=_ from hr]
  rw[this]at q;rw[2105]
 ·rw[KI c];have E:=a3 Q (o:= .lst (nums (x.pend.map (·.change))))
  have F:=E _ _ (B _ _ (ao (H:=H) (a:=q) (o:= .lst #[p4])));refine(a7 D rfl _ F (cX _ ao ?_ (λz hz=> ?_)))
  ·rw[aM,bG,bG,bG,aD];omega
  ·have R:=a3 hz (o:= .lst (nums x.ins++nums x.del++nums (x.pend.map (·.change))))
   have d:=#[sE].trans R;refine L _ z d (#[sE].free hz) ?_;rw[ao];unfold nN nums;rw[bb,bb]
def afs{l:List Nat}{c:Nat}(h:l.getLast?=some c):uZ #[f6] (-1)=some #[l3]:=by obtain⟨pre,e⟩:=lC.mp h;subst e;unfold nums;rw[bb];exact JW _ _
abbrev Vh(K:aA)(t:cI):Sp:=λvs H Q _=>∃(ρ:bj) (d:ae) (g:Gh) (s:aU),vs=#[sJ]/\e8 K t ρ H d g s/\Q #[j6] H
def qM: #[1,t.eF,#[az],Vh K t]:=by exists T.kh,ES,"4";let(ρ,d,g,st,rfl,hd,a):=544 h;refine aK _ (aB (aW (cV rA #[fP] a6))) ?_;dsimp only[b6,aZ,bC,bD,ak,aH,ay,az,aG,aJ,aO,aP];simp[-ah,-aa,-ai,-aR,au,hd.d.2,T.bo,T.eu,fN];refine #[CL,#[kG]];rw[aD,hd.chg.len];exact a
abbrev aft(K:aA)(t:cI):Sp:=λvs H Q _=>∃(ρ:bj) (d p:ae) (g:Gh) (s:aU),vs=#[xR]/\e8 K t ρ H d g s/\p∈g.ps/\#[gE]/\Q (.bl (Vatrka.own s #[ap])) H
def Nf: #[1,t.hY,#[bM],aft K t]:=by
 exists T.yQ,Dv,"5"
 (let(ρ,d,p,g,st,k):=505 h;let(rfl,hd,s,u,f):=80 k)
 refine aK _ (aj (bX (fj (Pb #[ct] (λ_=>rfl))) #[tV] bw) (aj (bQ 2 Dv.nd (yu #[i] (cV ji (yu #[ct] #[hY]) a6))) (aB (aW (eq_ gf (bH #[bG]) #[i]))))) ?_;rw[1891];let(x,q,r):=40 (hd.nt p s);simp[-ah,-aa,-ai,-aR,au,q,T.b8,T.fS,lh];refine(aK _ (.inl (aK _ #[zV] rfl)) ?_);unfold Vatrka.own at f;cases e:#[ap].ins.getLast? with
 |none=>rw[e]at f;have:#[ap].ins=[]:=G4.mp e;rw[1924];exact f
 |some c=>
  rw[e]at f;have m:#[ap].ins≠[]:=λz=>by rw[z]at e;rw[2048]
  have y:=u c (xJ e);have n:#[xd].isEmpty=false:=by
   cases z:#[ap].ins with
   |nil=>exact absurd z m
   |cons a l=>rfl
  rw[aq (by rw[n];decide)];obtain⟨i,o⟩:∃i,c=i+1:=(c-1,by simp_all);subst o;have b:i<st.changes.length:=by lia
  have j:i<g.cs.length:=by rw[hd.chg.len];exact b
  obtain⟨A,dx,v⟩:=hd.chg.each i g.cs[i] st.changes[i] (aN j) (aN b);simp[-ah,-aa,-ai,-aR,au,q,hd.d.2,T.b8,T.fS,lh,T.bo,T.eu,fN,T.lG,BW];refine(a7 _ #[zV] _ (afs e) (a7 _ rfl _ #[kG] (a7 _ ?_ _ rfl (bZ _ _ _ v T.qU T.qb _ EB ?_))))
  ·rw[show #[h1]-1=(i:Nat) by simp_all];exact oq (by rw[bz,aN j];rfl)
  ·rw[1899];have w:(Wv st (i+1)==some st.author)=decide (V.int #[oD]=V.int #[x8]):=by
    unfold Wv;rw[am #[f],Nat.add_sub_cancel,aN b];by_cases z:st.changes[i].author=st.author
    ·simp[z]
    ·have:¬#[oD]=#[x8]:=by lia
     simp[z,this]
   rw[<-w];exact f
abbrev adj(K:aA)(t:cI):Sp:=λvs H Q _=>∃(ρ:bj) (d p:ae) (g:Gh) (s:aU),vs=#[xR]/\e8 K t ρ H d g s/\p∈g.ps/\#[gE]/\Q (.bl (Ww s #[ap])) H
def tw: #[2,t.dJ,#[bM],adj K t]:=by
 exists T.j8,AO,"5"
 (let(ρ,d,p,g,st,c):=505 h;let(rfl,hd,e,f,a):=80 c)
 refine aK _ (aB (aW (Wz (adP #[i]) (W1 (nq hr #[aq] T.bo T.t6 (Nf T) T.yQ #[J]))))) ?_;rw[1891];simp[-ah,-aa,-ai,-aR,au,hd.d.2,T.bo,T.hL,uE,MJ];unfold Ww at a;cases b:st.tracking with
 |false=>rw[b]at a;simp;exact a
 |true=>rw[b]at a;simp;exact(x5_ ρ d p g st (rfl,hd,e,f,a))
abbrev Up(K:aA)(t:cI):Sp:=λvs H Q _=>∃(ρ:bj) (d l:ae) (g:Gh) (s:aU) (cs:List Nat),vs=[.ref d,.ref l]/\e8 K t ρ H d g s/\ρ l=none/\H l=some #[Cd,cs]/\(∀c∈cs,1<=c/\c<=s.changes.length)/\∀H',Ext ρ H ρ H'->e8 K t ρ H' d {g with cnt:=λc=>g.cnt c-(cs.count c:Nat)} s->Q .cG H'
def uJ: #[1,t.ea,#[cN],Up K t]:=by
 exists T.lL,oT,"6"
 (let(ρ,d,l,g,st,cs,b):=506 h;let(rfl,hd,r,x,A,B):=100 b)
 refine aK _ (aB (iz PassesOwn.never rfl #[yn] (o6 2 oT.nd) (aj (bQ 3 oT.nd (yu #[i] #[oi])) (aB (LR #[dy] a6 aj3))))) ?_;rw[1891];refine uH (xs:=nums cs) (λi q H'=>(∃v s,q=[some #[iV],some #[co],v,s])/\Ext ρ H ρ H'/\e8 K t ρ H' d {g with cnt:=λc=>g.cnt c-#[pX]} st) rfl (a8.of x) (e7 #[AB] Ext.refl ?_) ?_ ?_ ?_
 ·have:(λc=>g.cnt c-((cs.take 0).count c:Nat))=g.cnt:=by funext c;simp
  rw[1924];exact hd
 ·(intro i q H' _ f;let(_,e,_):=40 f)
  exact a8.of (e.not _ _ x r).1
 ·(intro i y q H' p f;(let(b,e,a):=40 f;let(v,s,rfl):=2 b))
  rw[jd]at p;cases k:cs[i]? with
  |none=>rw[k]at p;cases p
  |some c=>
   rw[k]at p;cases p;have F:=A c (bO k);obtain⟨j,C⟩:∃j,c=j+1:=(c-1,by lia);subst C;have m:j<st.changes.length:=by lia
   have o:j<g.cs.length:=by rw[hd.chg.len];exact m
   obtain⟨D,dx,u⟩:=a.chg.each j g.cs[j] st.changes[j] (aN o) (aN m);simp[-ah,-aa,-ai,-aR,au,a.d.2,T.bo,T.eu,fN];refine(a7 _ (a8.of a.cl.2) _ (oq (by rw[bz,aN o];rfl)) (aK _ rfl (bZ _ _ _ u T.qU T.jV _ yt (c4 _ _ rfl rfl (c4 _ _ u afm ?_)))));rw[G3];have w:=a.ajq (i:=j) (dx:=dx) (n:=g.cnt (j+1)-#[nL]-1) (aN o) (aN m) (_,u);refine(e.trans #[Di,D],?_);have E:cp (λc=>g.cnt c-#[pX]) (j+1) (g.cnt (j+1)-#[nL]-1)=λc=>g.cnt c-((cs.take (i+1)).count c:Nat):=by
    funext c;rw[take_snoc k,List.count_append];by_cases z:c=j+1
    ·subst z;rw[df];simp;lia
    ·rw[bJ z];have:List.count c [j+1]=0:=by rw[Qy];simp;omega
     simp_all
   rw[<-E];exact w
 ·(intro q H' f;(let(b,e,a):=40 f;let(v,s,rfl):=2 b))
  rw[bG,cy]at a;exact B _ e a
abbrev Uq(t:cI):Sp:=λvs H Q _=>∃(c dx:ae) (v0 v1 v2 v3:V),vs=[.ref c,v0,v1,v2,v3]/\H c=some #[Ct,t.Change]/\Q .cG (upd H c (.ins t.Change dx #[bP]))
def Ur: #[1,t.mm,#[a4],Uq t]:=by
 exists T.Eh,Ti,"6"
 (let(c,dx,d,e,f,g,a):=506 h;let(rfl,b,k):=40 a)
 refine aK _ (aj #[cV] (aj #[cY] (aj #[g6] (aB #[m3])))) ?_;rw[1891];simp[-ah,-aa,-aR,au,b,T.qU,T.qb,T.vK,T.vL,T.jV,ao,d8,X5,X6,X7,X8];exact k
def e8.ajt{ρ:bj}{d dx:ae}{g:Gh}{s:aU}{ch:zl}{n:Int}(h:e8 K t ρ H d g s)(y:H c=none)(A:H' c=some #[lY])(B:H' g.cl=some (.lst ((g.cs++[c]).map V.ref)))(m:∀a o,H a=some o->a≠g.cl->H' a=some o):Ext ρ H #[pn] H'/\e8 K t #[pn] H' d {g with cs:=g.cs++[c],cnt:=cp g.cnt #[bw] n} {s with changes:=s.changes++[ch]}:=by
 have v:ρ c=none:=h.role.free y;have E:∀{a r},ρ a=some r->a≠c:=λq z=>by rw[z,v]at q;rw[2090]
 have own:∀a r,ρ a=some r->cp ρ c #[cv] a=some r:=λa r q=>by rw[bJ (E q)];rw[2105]
 have st:∀a r,ρ a=some r->r≠ .changes->H' a=H a:=λa r q n=>by let(o,z,_):=21 #[lJ];rw[z];exact m a o z (jZ q h.cl.1 n)
 have ext:Ext ρ H #[pn] H':=((own,λa o q n=>(m a o q (λz=>by rw[z,h.cl.1]at n;cases n),by rw[bJ (a5 q y)];exact n)),λa o q e=>m a o e (jZ q h.cl.1 #[b]));refine(ext,λa r q=> ?_,#[fC],#[fb],(own _ _ h.cl.1,B),h.nd,h.ring,λp F=> ?_,?_,λi C k b j=> ?_)
 ·by_cases z:a=c
  ·subst z;rw[df]at q;rw[2090];exact(aK _ A OS)
  ·rw[bJ z]at q;by_cases z2:r= .changes
   ·subst z2;let(o,w,f):=21 (h.role a _ q);by_cases D:a=g.cl
    ·subst D;exact(aK _ B #[O])
    ·exact(aK o (m a o w D) f)
   ·rw[st a r q z2];exact h.role a r q
 ·let(b,j,u):=40 (h.nt p F);exact(e7 (own _ _ b) #[mB] (u.ext h.role ext λa r q w=>st a r q #[b7]))
 ·rw[aM,aM,h.chg.len];rfl
 ·by_cases z:i<g.cs.length
  ·rw[oO z]at b;rw[oO (by rw[<-h.chg.len];exact z)]at j
   (let(u,x):=20 (h.chg.each i C k b j);let(l,G):=1 x)
   refine(own _ _ u,l,?_);show H' C=some (Dj t l k (cp g.cnt #[bw] n (i+1)));rw[st _ _ u #[b],bJ (by have:=h.chg.len;lia)];exact G
  ·have I:i=g.cs.length:=by
    have:=jY b;rw[aM]at this;rw[2111]
    lia
   subst I;rw[fh #[gw],pF]at b;rw[fh (by rw[h.chg.len];exact be _),h.chg.len,pF]at j;cases b;cases j;refine(by rw[df,h.chg.len],dx,?_);show H' c=some (Dj t dx ch (cp g.cnt #[bw] n (g.cs.length+1)));rw[h.chg.len,df];exact A
abbrev Bu(K:aA)(t:cI):Sp:=λvs H Q _=>∃(ρ:bj) (d:ae) (g:Gh) (s:aU) (kind bc:Nat),vs=#[ju]/\e8 K t ρ H d g s/\s.changes.length<aS/\(bc=0->Q #[gU] H)/\(bc≠0->∀a H' c,Ext ρ H a H'->e8 K t a H' d {g with cs:=g.cs++[c],cnt:=cp g.cnt #[bw] (bc:Int)} {s with changes:=s.changes++[(s.author,s.time,kind)]}->Q #[j6] H')
def rW: #[3,t.eR,#[c4],Bu K t]:=by
 exists T.ly,Ga,"6"
 (let(ρ,d,g,st,kind,j,k):=506 h;let(rfl,hd,hz,k0,k1):=80 k)
 refine aK _ (aj (bX #[xp] #[Cz,a6] bw) (aj (c9 (hR bi bR bS fE #[i] (ag (cb hr T.Hr (Ur T) T.Ks T.Eh (ag #[i] (ag #[i] #[yI]))) aw))) #[Cz,#[fP]])) ?_;rw[1891];rw[1905];by_cases p:j=0
 ·rw[1930];exact k0 p
 ·rw[am #[bJ]];simp[-ah,-aa,-ai,-aR,au,hd.d.2,T.bo,T.eu,fN,T.lG,T.nW,BW,EC];refine(.inl (rfl,_,a8.of hd.cl.2),λx dx nx nd ne=>(x6_ x dx _ _ _ _ #[dT]));have sm:=lO (C:=t.Change) (o:= .ins t.Change dx #[L]) nx nd;have f:#[c0] x=some (.ins t.Change dx #[L]):=ao;generalize #[c0]=H2 at sm f;have b:=sm _ _ hd.cl.2;have l:x≠g.cl:=dt f b #[b];let(e,i):=20 (hd.ajt (H':=upd H2 g.cl (.lst ((g.cs++[x]).map V.ref))) (c:=x) (dx:=dx) (ch:=(st.author,st.time,kind)) (n:=(j:Int)) nx (by rw[aE l];exact f) ao λa o q n=>by rw[aE n];exact sm _ _ q);refine(cX _ b (by rw[aD,hd.chg.len];exact hz) ?_);have r:g.cs.map V.ref++[V.ref x]=(g.cs++[x]).map V.ref:=by rw[bb];rfl
  rw[r];have m:=i.d.2;simp[-ah,-aa,-ai,-aR,-bb,au,m,T.bo,T.eu,fN];refine #[DB,i.cl.2];rw[aD,aM,hd.chg.len];exact k1 p _ _ x e i
abbrev R6(g:Gh)(l:List ae):List Nat:=l.map λp=>#[ap].sign
abbrev Qa(K:aA)(t:cI):Sp:=λvs H Q _=>∃(ρ:bj) (d:ae) (g:Gh) (s:aU) (a b:Nat),vs=[.ref d,.int (a:Int),.int (b:Int)]/\e8 K t ρ H d g s/\(∀p∈g.sh,p∈g.ps)/\a<=b/\b<=g.sh.length/\g.sh.length<=aS/\∀H' l,bp H H'->H l=none->H' l=some (.lst (nums (R6 g #[fI])))->Q #[co] H'
def wI: #[1,t.eE,#[cr],Qa K t]:=by
 exists T.nZ,qE,"6"
 (let(ρ,d,g,st,a,b,c):=506 h;let(rfl,hd,e,k,r,hz,s):=120 c)
 refine aK _ (aB (aW (QX (te:=JV K (iK 3) "sign") (own:=[(("piece"),3)]) rfl qE.nd (gX #[eD]) (zP (N:=#[mu]) (sc:=aQ nO) #[a]) (λ_ _ _ _ _=>o6 3 qE.nd) (λ_ _ _ _ _=>Fv) (λ_ _ _ _ _=>#[hT])))) ?_;rw[1891];rw[1902];refine(aK _ #[es] (λq u=> ?_));rw[NV (i:=a) (j:=b) k (by rw[aD];exact r)];have v:(#[cW].drop a).take (b-a)=#[fI].map V.ref:=by rw[List.drop_take,gW,mh]
 rw[v];have l:=a3 u (o:= .lst (#[fI].map V.ref));refine((_,a8.of ao),?_);refine Y7 (f:=λy=>match y with| .ref p=> .int (#[ap].sign:Int)|_=> .cG) #[hW] ?_ (λ_=>rfl) (λy H' Q' hm hs z=> ?_) λD n=> ?_
 ·rw[aD,bN,bE];lia
 ·let(p,w,rfl):=21 #[yx];have m:=e p (kq (xK w));let(B,x,A):=40 (hd.nt p m);refine bZ _ _ _ (hs _ _ (l _ _ x)) T.b8 T.jm _ nj ?_;rw[A.sg];exact z
 ·refine s _ D (l.trans (a3 n)) (l.free n) ?_;rw[ao,fO];unfold R6 nums;rw[fO];rfl
def Txt.plain(T:Txt K mg t)(H:Hp):cK K H t.gI (nums [0,0,0,0]):=by
 (let(o,b,c,d,e,n,a):=6 (T.pl);let(f,g,h):=40 a)
 refine .inr (vB o _ n f g h (Bt (by show 4<=100;decide)) ?_);exact .cons (b,rfl) (.cons (c,rfl) (.cons (d,rfl) (.cons (e,rfl) .nil)))
def DocOk.aij{ρ:bj}{d:ae}{g:Gh}{s:aU}(h:DocOk K t ρ H d g s):∀p∈g.sh,p∈g.ps:=λp a=>by rw[h.Br]at a;exact #[po].1
def DocOk.vis{ρ:bj}{d:ae}{g:Gh}{s:aU}(h:DocOk K t ρ H d g s):bT s.row=g.sh.map g.pc:=by rw[<-h.row,h.Br,Kb]
def DocOk.cnt{ρ:bj}{d:ae}{g:Gh}{s:aU}(h:DocOk K t ρ H d g s):ba s=g.sh.length:=by unfold ba;rw[h.vis,aD]
abbrev GC(K:aA)(t:cI):Sp:=λvs H Q _=>∃(ρ:bj) (d:ae) (g:Gh) (s:aU) (p:Nat),vs=#[rM]/\DocOk K t ρ H d g s/\p<ba s/\∀a,cK K H a (nums (mE p s.row))->Q #[bh] H
def Fh: #[1,t.eG,#[cU],GC K t]:=by
 exists T.rO,ET,"5"
 (let(ρ,d,g,st,p,f):=505 h;let(rfl,hd,k,b):=60 f)
 refine aK _ (aj (bX (PW.pt (xR #[xq] (vI (f7 gf #[mf] #[ll])))) #[Cz,#[ev]]
    bw)
   #[Cz,#[mf]]) ?_
 rw[1891];rw[1905];unfold mE at b;by_cases h0:p=0
 ·rw[1930];rw[aq h0]at b;rw[2150]
 ·rw[am #[bJ]];rw[am h0]at b;rw[hd.cnt]at k;have c:p-1<g.sh.length:=by omega
  have l:=hd.aij g.sh[p-1] (yq c);let(m,i,j):=40 (hd.nt _ l);rw[hd.vis,bz,aN c]at b;have b:∀a,cK K H a (nums (if #[oe].sign=10 then[0,0,0,0]else dZ #[oe]))->Q #[bh] H:=b;have e:uZ #[cW] ((p:Int)-1)=some (.ref g.sh[p-1]):=by rw[show(p:Int)-1=#[C4,p] by lia];exact oq (by rw[bz,aN c];rfl)
  rw[1902];refine(a7 _ #[es] _ e (aK _ rfl (jc _ _ _ i T.b8 T.jm #[xy])));rw[j.sg];by_cases hs:#[oe].sign=10
  ·rw[aq #[yy]];rw[aq hs]at b;rw[2150]
  ·rw[1953];rw[am hs]at b;refine(a7 _ #[es] _ e (aK _ rfl (bZ _ _ _ i T.b8 T.ef _ jb ?_)));exact b _ j.ls
abbrev GD(K:aA)(t:cI):Sp:=λvs H Q _=>∃(ρ:bj) (d:ae) (g:Gh) (s:aU) (p:Nat),vs=#[rM]/\DocOk K t ρ H d g s/\Good s/\p<ba s/\∀a,cK K H a (nums (pU p s.row))->Q #[bh] H
def ahm{s:aU}(a:Good s):∃l z,bT s.row=l++[z]/\z.sign=10:=by
 let(r,z,e,b,d,c):=62 (a.last);have hz:shown z=true:=by show z.del.isEmpty=true;rw[c];rfl
 exact(fi (bT r) z (by rw[e,mT,gz hz];rfl) b)
def aju{l:List Piece}{x:Piece}(b:l[i]?=some x)(c:x.sign=10)(d:∀j y,j<i->l[j]?=some y->y.sign≠10):l.find? (λy=>y.sign==10)=some x:=by
 induction l generalizing i with
 |nil=>cases b
 |cons a l f=>
  cases i with
  |zero=>cases b;rw[mD,c];rfl
  |succ i=>
   have:=d 0 a #[j] rfl;rw[mD];have e:(a.sign==10)=false:=by simpa using this
   rw[e];exact f b λj y h g=>d (j+1) y #[j] g
def Fi: #[1,t.eI,#[cU],GD K t]:=by
 exists T.rP,wu,"5"
 (let(ρ,d,g,st,p,a):=505 h;let(rfl,hd,D,L,E):=80 a)
 refine aK _ (aj (ry PassesOwn.never (f7 xS (bH #[o6]) #[ll]) (aB (Bl 1 wu.nd a6 wO))) (aB (aW (bH #[o6])))) ?_;rw[1891];rw[1892];have F:=hd.cnt;have at_:∀i,i<g.sh.length->∃q,g.sh[i]?=some q/\q∈g.ps/\H q=some (f9 t (g.bd q) (g.pv q) (g.nx q))/\jP K ρ H q (g.bd q) #[zD]/\uZ #[cW] (i:Int)=some #[wA]/\#[cb][i]?=some #[zD]:=λi k=>by have C:=hd.aij g.sh[i] (yq k);let(s,u,G):=40 (hd.nt _ C);exact(_,aN k,C,u,G,oq (by rw[bz,aN k];rfl),by rw[hd.vis,bz,aN k];rfl)
 refine rz (λr H'=>H'=H/\∃i:Nat,r=[some #[iV],some (.int (i:Int))]/\p<=i/\i<g.sh.length/\∀j y,p<=j->j<i->#[cb][j]?=some y->y.sign≠10) (λr H'=>match r with|[_,some (.int i)]=>g.sh.length-i.toNat|_=>0) (rfl,p,rfl,be _,by simp_all,λj y s u=>by lia) ?_ ?_
 ·(intro r H' v;(let(rfl,a):=20 v;let(i,rfl,k,A,c):=61 a))
  (let(q,a):=1 (at_ i A);let(I,J,m,n,o,b):=100 a)
  rw[1902];refine(a7 _ #[es] _ o (aK _ rfl (jc _ _ _ m T.b8 T.jm #[xy])));rw[n.sg];by_cases hs:#[zD].sign=10
  ·rw[aq #[yy]];refine(a7 _ #[es] _ o (aK _ rfl (bZ _ _ _ m T.b8 T.ef _ jb ?_)));refine E _ ?_;have:pU p st.row=dZ #[zD]:=by
    unfold pU;have:=aju (l:=#[cb].drop p) (i:=i-p) (x:=g.pc q) (by rw[je,show p+(i-p)=i by simp_all];exact b) hs λj y M f=>by rw[je]at f;exact c (p+j) y #[j] #[f] f
    show(match(#[cb].drop p).find? (λy=>y.sign==10)with|some x=>dZ x|none=>_)=_;rw[1924]
   rw[1924];exact n.ls
  ·rw[1953];have B:i+1<g.sh.length:=by
    let(l,z,e,hz):=22 (ahm D);have N:l.length+1=g.sh.length:=by have:=dA pR e;rw[hd.vis,aD,aM]at this;simpa using this.symm
    have:i≠l.length:=λw=>by rw[e,w,fh #[gw],pF]at b;have:z=g.pc q:=dm.inj b;exact hs (by rw[<-this];exact hz)
    lia
   refine⟨(oZ (i+1) #[aT] #[dU] B (λj y s u f=> ?_)),?_⟩
   ·by_cases z:j=i
    ·subst z;rw[b]at f;cases f;exact hs
    ·exact c j y s #[f] f
   ·omega
 ·exact rm (pC aid (DF #[uI]) IR)
def Path.next{α:Type}[DecidableEq α]{nx pv:α->α}:∀{x:α} {l:List α},Path nx pv x l->∀i a b,l[i]?=some a->l[i+1]?=some b->nx a=b
 |x,[],_,i,a,b,h,_=>by cases h
 |x,[c],_,i,a,b,h,d=>by cases i<;>cases d
 |x,c::e::l,(_,_,f),0,a,b,h,d=>by cases h;cases d;exact f.1
 |x,c::e::l,(_,_,f),i+1,a,b,h,d=>Path.next f i a b #[uZ] #[mc]
def Path.first[DecidableEq α]{nx pv:α->α}{x b:α}{l:List α}(h:Path nx pv x (b::l)):nx x=b:=h.1
abbrev Wj(K:aA)(t:cI):Sp:=λvs H Q _=>∃(ρ:bj) (d:ae) (g:Gh) (s:aU),vs=#[sJ]/\e8 K t ρ H d g s/\g.ps.length<=aS/\∀H' l,bp H H'->H l=none->H' l=some #[Da,#[xn]]->Q #[co] H'
def zg: #[1,t.fv,#[az],Wj K t]:=by
 exists T.qh,y8,"4";let(ρ,d,g,st,rfl,hd,hz,C):=564 h;refine aK _ (aj (bQ 1 y8.nd (cf #[ns])) (aj (ry PassesOwn.never (f7 (akO T.X0 #[BM]) #[n6] #[i]) (aB (c9 (hR bi bR bS fE #[aZ] (ag (bH #[n6]) aw))))) #[cc])) ?_;rw[1891];have c:g.last∈g.ps:=a4.mpr #[a0];let(G,x,I):=40 (hd.nt _ c);simp[-ah,-aa,-ai,-aR,au,hd.d.2,T.bo,T.lU,Am,x,T.b8,T.ic,wm];refine(Bt #[c],λl y=> ?_);have n:∃a r,g.ps=a::r:=by
  cases e:g.pre with
  |nil=>exact #[hh]
  |cons a r=>exact #[hh]
 let(D,E,o):=2 n;have f:Path g.nx g.pv g.last (D::E):=by rw[<-o];exact hd.ring
 have p:=Path.first f;have len:g.ps.length=g.pre.length+1:=by show #[f9].length=_;rw[aM];rfl
 refine rz (λq H'=>∃i:Nat,i<g.ps.length/\q=[some #[iV],some #[co]]/\H'=upd H l #[Da,#[gt]]) (λq H'=>match H' l with|some (.lst xs)=>g.ps.length-xs.length|_=>0) (cX 0 (by rw[o];simp) rfl ?_) ?_ ?_
 ·rw[p,o];rfl
 ·(intro q H' s;let(i,u,rfl,rfl):=41 s)
  have sl:bp H (upd H l #[Da,#[gt]]):=a3 y;have m:g.ps[i]?=some g.ps[i]:=aN u;let(J,A,L):=40 (hd.nt _ (yq u));have j:uZ #[gt] (-1)=some (.ref g.ps[i]):=by rw[take_snoc m,bb];exact JW _ _
  simp[-ah,-aa,-ai,-aR,-gW,au,sl _ _ hd.d.2,T.bo,T.lU,Am,uI];refine(a7 _ #[hW] _ j (oZ _ rfl (x2_ _ _ (sl _ _ A)) (x2_ _ _ (sl _ _ x)) ?_));refine(aK (!decide (g.ps[i]=g.last)) ((Bool.not_not _).symm) ?_);by_cases z:g.ps[i]=g.last
  ·rw[am (by rw[aT z];decide)];have b:i=g.pre.length:=by
    have k:g.ps[g.pre.length]?=some g.last:=by show #[f9][_]?=_;rw[fh #[gw],pF];rfl
    rw[<-z,<-m]at k;exact((BJ u hd.nd).mp k.symm)
   refine C _ l sl y ?_;rw[ao,b,<-len,cy]
  ·rw[aq (by rw[aV z];rfl)];have b:i+1<g.ps.length:=by
    have:i≠g.pre.length:=λw=>z (by
     have k:g.ps[g.pre.length]?=some g.last:=by show #[f9][_]?=_;rw[fh #[gw],pF];rfl
     rw[<-w,m]at k;exact dm.inj k)
    lia
   have B:g.ps[i+1]?=some g.ps[i+1]:=aN b;have v:=Path.next hd.ring i _ _ m B;refine(gU #[aV] _ #[hW] (a7 _ j _ rfl (bZ _ _ _ (sl _ _ A) T.b8 T.ic _ wm #[kD])))
   ·rw[aD,bE];lia
   ·refine⟨(aK (i+1) (by rw[<-len];exact b) ?_),?_⟩
    ·rw[d8,v,take_snoc B,bb];rfl
    ·rw[ao,ao];rw[1897];rw[aM,aD,bE];simp;omega
 ·exact rm (pC akP #[uH] #[BT])
abbrev Qb(K:aA)(t:cI):Sp:=λvs H Q _=>∃(d dx:ae),vs=#[sJ]/\H d=some #[wI]/\∀H' ρ g,DocOk K t ρ H' d g Vatrka.start->(∀a o,H a=some o->a≠d->H' a=some o/\ρ a=none)->Q .cG H'
def Qc: #[3,t.jI,#[az],Qb K t]:=by
 exists T.A8,Px,"2";let(d,dx,rfl,hd,kk):=542 h;refine aK _ (aj (gr #[aq] (cb hr T.Gd (Ll T) T.Jn T.A7 (ag #[ll] (ag #[ev] #[nt]))))
   (aj (gr #[aq] (cf #[eZ]))
   (aj #[ia]
   (aj #[r6]
   (aj #[r6]
   (aB #[AU])))))) ?_
 rw[1891];rw[1892];intro li B p dp np ndp ne;have hdl:li≠d:=λz=>by rw[z,hd]at B;cases B
 have hd1:upd H li #[ar] d=some #[wI]:=a3 B _ _ hd;refine(x5_ p dp t.gI li 10 (e7 rfl ao (λld dd C Vi hdd nld k J l U=>(rfl,?_))));have m:=(dz np);have s:=(dz ndp);have D:=dz Vi;have W:=dz D.1;have w:=dz W.1;have X:=dz hdd;have Y:=dz X.1;have g:=dz Y.1;have Z:d≠p:=λz=>by have:=m.1;rw[1970];rw[1908]
 have atX:d≠dp:=λz=>by have:=s.1;rw[1970];rw[1908]
 have E:d≠ld:=λz=>by have:=w.1;rw[1970];rw[1908]
 have x:d≠dd:=λz=>by have:=g.1;rw[1970];rw[1908]
 have k1:∀a o,H a=some o->C a=some o:=λa o q=>by have L:a≠p:=a5 q m.1;have e2:a≠ld:=a5 q w.1;have e3:a≠dd:=a5 q g.1;have e4:a≠dp:=a5 q s.1;have e5:a≠li:=a5 q B;rw[U a L e2 e3,aE L,aE e4,aE e5];rw[2105]
 have y:C li=some #[ar]:=by have L:li≠p:=m.2.symm;have e4:li≠dp:=s.2.symm;have e2:li≠ld:=w.2.symm;have e3:li≠dd:=g.2.symm;rw[U li L e2 e3,aE L,aE e4];rw[2040]
 have hd2:=k1 _ _ hd;simp[-ah,-aa,-ai,-aR,au,hd2,T.bo,T.lU,Tr,ao,T.cP];refine(Bt #[c],λsl hsl=> ?_);have b:=dz hsl;have L:∀{o u:HO},upd (upd C d o) sl u d=some o:=λ{o u}=>by rw[aE b.2.symm];rw[2040]
 simp[-ah,-aa,-ai,-aR,au,L,T.bo,T.cP,Ts];intro cl Vj;have A:=dz Vj;have F:=dz A.1;have f:=dz F.1;have e2:∀{G:Hp} {o u:HO},upd (upd G d o) cl u d=some o:=λ{G o u}=>by rw[aE A.2.symm];rw[2040]
 simp[-ah,-aa,-ai,-aR,au,e2,T.bo,T.eu,T.lG,T.nW,T.hL,Tt,Tu,Tv,Tw,ao,d8];have aoM:H sl=none:=by
  cases e:H sl with
  |none=>rfl
  |some o=>have:=k1 _ _ e;rw[b.1]at this;rw[1908]
 have aoN:H cl=none:=by
  cases e:H cl with
  |none=>rfl
  |some o=>have:=k1 _ _ e;rw[f.1]at this;rw[1908]
 have M:p≠d:=Z.symm;have nsp:sl≠p:=λz=>by have:=b.1;rw[z,k]at this;rw[1908]
 have nsd:sl≠dd:=λz=>by have:=b.1;rw[z,l]at this;rw[1908]
 have ncp:cl≠p:=λz=>by have:=f.1;rw[z,k]at this;rw[1908]
 have ncd:cl≠dd:=λz=>by have:=f.1;rw[z,l]at this;rw[1908]
 have ncs:cl≠sl:=F.2;have aoO:p≠dd:=λz=>by rw[z,l]at k;cases k
 have I:li≠d:=hdl;have N:li≠dd:=g.2.symm;have aoP:li≠p:=m.2.symm;have aoQ:li≠sl:=λz=>by have:=b.1;rw[<-z,y]at this;rw[1908]
 have aoR:li≠cl:=λz=>by have:=f.1;rw[<-z,y]at this;rw[1908]
 have O:ld≠dd:=nld;have aoS:ld≠p:=D.2;have aoT:ld≠sl:=λz=>by have:=b.1;rw[<-z,J]at this;rw[1908]
 have aoU:ld≠cl:=λz=>by have:=f.1;rw[<-z,J]at this;rw[1908]
 have hV:∀a o,C a=some o->a≠d->#[m] a=some o:=λa o q n=>by rw[aE (a5 q f.1),aE n,aE (a5 q b.1),aE n];rw[2105]
 have P:#[m] sl=some (.lst [V.ref p]):=by rw[aE ncs.symm,aE b.2];rw[2040]
 have Q:#[m] cl=some #[ar]:=ao;generalize #[m]=H2 at hV P Q;have R:cl≠d:=A.2;have S:sl≠d:=b.2
 let ρ:bj:=λa=>if a=d then some .doc else if a=p then some .qi else if a=dd then some #[B0]else if a=sl then some .shown else if a=cl then some .changes else none
 have rd:ρ d=some .doc:=aq rfl;have rp:ρ p=some .qi:=by show #[Co,p]=_;rw[am M,aq rfl]
 have rdd:ρ dd=some #[B0]:=by show #[Co,dd]=_;rw[am x.symm,am aoO.symm,aq rfl]
 have rs:ρ sl=some .shown:=by show #[Co,sl]=_;rw[am S,am nsp,am nsd,aq rfl]
 have rc:ρ cl=some .changes:=by show #[Co,cl]=_;rw[am R,am ncp,am ncd,am ncs,aq rfl]
 have rn:∀a,a≠d->a≠p->a≠dd->a≠sl->a≠cl->ρ a=none:=λa n1 n2 n3 n4 n5=>by show #[Co,a]=_;rw[am n1,am n2,am n3,am n4,am n5]
 have j:∀a o,C a=some o->a≠d->upd H2 d #[aU] a=some o:=λa o q n=>by rw[aE n];exact hV a o q n
 have rok:dD ρ (upd H2 d #[aU]):=λa r q=>by
  by_cases z1:a=d
  ·subst z1;rw[rd]at q;rw[2090];exact(aK _ ao #[o9])
  by_cases z2:a=p
  ·subst z2;rw[rp]at q;rw[2090];exact(aK _ (j _ _ k M) tr)
  by_cases z3:a=dd
  ·subst z3;rw[rdd]at q;rw[2090];exact(aK _ (j _ _ l x.symm) #[O])
  by_cases z4:a=sl
  ·subst z4;rw[rs]at q;rw[2090];exact(aK _ (by rw[aE S];exact P) #[O])
  by_cases z5:a=cl
  ·subst z5;rw[rc]at q;rw[2090];exact(aK _ (by rw[aE R];exact Q) #[O])
  rw[rn a z1 z2 z3 z4 z5]at q;rw[2090]
 refine kk _ ρ {dx:=dx,sl:=sl,cl:=cl,last:=p,pre:=[],pc:=λ_=>{sign:=10,look:=[0,0,0,0]},bd:=λ_=>(dp,10,t.gI,t.gI,li,ld,dd),nx:=λ_=>p,pv:=λ_=>p,cs:=[],cnt:=λ_=>0,sh:=[p]} ((rok,(rd,ao),(rs,by rw[aE S];exact P),(rc,by rw[aE R];exact Q),eX.mpr (rr,BF),(e7 rfl rfl trivial),λq hq=> ?_,rfl,λi c ch h1 _=>by cases h1),rfl,rfl,λc=>rfl) λa o q n=> ?_
 ·have:q=p:=by simpa using hq
  rw[1936];refine(e7 rp (j _ _ k M) (rfl,T.plain _,T.plain _,(j _ _ y I,rn li I aoP N aoQ aoR),(j _ _ J E.symm,rn ld E.symm aoS O aoT aoU),[],rdd,j _ _ l x.symm,BF,(λ_ h=>by cases h),λ_ _=>rfl,(λ_ h=>by cases h)))
 ·refine(j a o (k1 a o q) n,rn a n ?_ ?_ ?_ ?_)
  ·exact a5 q m.1
  ·exact a5 q g.1
  ·exact a5 q aoM
  ·exact a5 q aoN
def e8.aik{ρ:bj}{d:ae}{g:Gh}{s:aU}(h:e8 K t ρ H d g s)(f:Nat->Int)(e:∀i,i<s.changes.length->f (i+1)=g.cnt (i+1)):e8 K t ρ H d {g with cnt:=f} s:=(h.role,h.d,h.sl,h.cl,h.nd,h.ring,h.nt,h.chg.len,λi c ch j b=>by
  (let(k,a):=20 (h.chg.each i c ch j b);let(dx,l):=1 a)
  exact(k,dx,by rw[show({g with cnt:=f}:Gh).cnt (i+1)=f (i+1)from rfl,e i (jY b)];exact l))
def afv{row:List Piece}{m:Nat}:row.any (dn m)=decide (row.countP (dn m)≠0):=by
 cases e:row.any (dn m)with
 |true=>
  symm;rw[eh];let(x,a,b):=21 (rq.mp e);have:=List.countP_pos_iff.mpr (x,a,b)
  lia
 |false=>symm;rw[decide_eq_false_iff_not];intro c;refine c (yZ.mpr λx d=> ?_);rw[BB]at e;exact e x d
structure Ng(K:aA)(t:cI)(ρ:bj)(H:Hp)(d:ae)(g:Gh)(s:aU)(ps:List ae)(pc:ae->Piece)(sh:List ae)(bc:Nat):Prop extends e8 K t ρ H d g s where
 Nh:g.ps=ps
 Vk:∀a∈ps,g.pc a=pc a
 esh:g.sh=sh
 cn:∀c,1<=c->c<=s.changes.length->g.cnt c=(ps.countP λa=>dn c #[oa]:Nat)
 R7:bc=ps.countP λa=>dn #[bw] #[oa]
def Ng.row{ρ:bj}{d:ae}{g:Gh}{s:aU}{ps sh:List ae}{pc:ae->Piece}(h:Ng K t ρ H d g s ps pc sh bc):g.ps.map g.pc=ps.map pc:=by rw[h.Nh];exact dO h.Vk
def Ng.done{ρ:bj}{d:ae}{g:Gh}{s:aU}{ps sh:List ae}{pc:ae->Piece}{kind:Nat}(h:Ng K t ρ H d g s ps pc sh bc)(hz:s.changes.length<aS)(p:sh=eW pc ps) (o:∀f H' g',Ext ρ H f H'->DocOk K t f H' d g' #[nX].1->Q (.int (#[nX].2:Int)) H'):Bu K t #[ju] H Q E0:=by
 have j:=h.row;have q:∀c,#[dK].countP (dn c)=ps.countP λa=>dn c #[oa]:=λc=>by rw[Ew];rfl
 have m:g.sh=eW g.pc g.ps:=by rw[h.esh,p,h.Nh];rw[2141];exact fA λa u=>by rw[h.Vk a u]
 have l:#[dK].any #[nb]=decide (bc≠0):=by rw[afv,q,h.R7];rfl
 refine(Bm ρ d g s kind bc rfl h.toe8 hz (λh0=> ?_) (λh0 f H' c e hd=> ?_))
 ·have r:=agH (s:=s) (k:=kind) (row:=ps.map pc) (by rw[l,h0];rfl);rw[r]at o;have b:=h.toe8.aik (λc=>#[pY]) λi n=>by show #[kW]=_;rw[q,h.cn (i+1) #[f] #[kF]]
  exact o ρ H _ Ext.refl #[dR]
 ·have r:=agG (s:=s) (k:=kind) (row:=ps.map pc) (by rw[l];exact aT h0);rw[r]at o;have b:=hd.aik (λc=>#[pY]) λi n=>by
   show #[kW]=cp g.cnt #[bw] (bc:Int) (i+1);rw[q];by_cases z:i=s.changes.length
   ·subst z;rw[df,h.R7]
   ·have n:i<#[w6].length:=n;rw[aM]at n;simp at n;rw[bJ #[j],h.cn (i+1) #[f] #[f]]
  exact o f H' _ e #[dR]
def i3.Qd{x:Piece}(h:i3 n x):x.pend.length<=n+1:=by
 have:=P7 (n+1) (x.pend.map (·.change)) (Me h.Md) λc a=>by
  let(y,b,rfl):=21 #[v3];have:=#[ja].2.1
  lia
 rwa [aD]at this
def OU{l:List Nat}(h:l.Nodup)(c:Nat):l.count c=if c∈l then 1 else 0:=by
 by_cases z:c∈l
 ·rw[aq z,h.count,aq z]
 ·rw[am z,Qy.mpr z]
def adk{x:Piece}(h:i3 n x)(k:Nat):(ui k x).Nodup:=by unfold ui;exact iJ.sublist #[ss] (Me h.Md)
def R8{x:Piece}{k c:Nat}(h:c∈ui k x):dn c x=true:=by unfold ui at h;let(y,a,rfl):=21 (ci.mp h);rw[mV];unfold nN;rw[a4];exact .inr (ci.mpr (aK y (#[po].1) rfl))
def Ng.step{ρ c:bj}{d a:ae}{g:Gh}{s:aU}{ps sh:List ae}{pc:ae->Piece}(h:Ng K t ρ H d g s ps pc sh bc)(f:a∈ps)(e:After K t ρ H c H' a #[qI] #[qJ] x'):∃g',e8 K t c H' d g' s/\g'.ps=ps/\(∀b∈ps,g'.pc b=cp pc a x' b)/\g'.sh=sh/\g'.cnt=g.cnt:=by
 let(l,i,j):=21 (e.body);have hd:=h.toe8.ajp (p:=a) (by rw[h.Nh];exact f) e.ext e.rk e.st i j;refine(_,hd,h.Nh,λb k=> ?_,h.esh,rfl);show cp g.pc a x' b=cp pc a x' b;rw[1991]
 ·subst z;rw[df,df]
 ·rw[bJ z,bJ z];exact h.Vk b k
def R9{ps:List ae}{pc:ae->Piece}{a:ae}(d:ps.Nodup)(e:a∈ps)(c:Nat):(ps.countP λb=>dn c #[qT])+#[Ck,#[oa]]=(ps.countP λb=>dn c (pc b))+#[Ck,x']:=by
 have:=UY (f:=λb=>dn c (pc b)) (f':=λb=>dn c #[qT]) d e λb _ g=>by show dn c #[qT]=_;rw[bJ g]
 rw[df]at this;rw[1928]
abbrev adl(K:aA)(t:cI)(ρ:bj)(H:Hp)(d:ae)(r:aU×Nat)(Q:VK):Prop:=∀a H' g',Ext ρ H a H'->DocOk K t a H' d g' r.1->Q (.int (r.2:Int)) H'
abbrev afw(K:aA)(t:cI):Sp:=λvs H Q _=>∃(ρ:bj) (d:ae) (g:Gh) (s:aU) (p q k v:Nat),vs=[.ref d,.int (p:Int),.int (q:Int),.int (k:Int),.int (v:Int)]/\DocOk K t ρ H d g s/\Good s/\p<=q/\q<=ba s/\k<4/\s.changes.length+2<=aS/\ba s<=aS/\adl K t ρ H d #[z3] Q
def afx{ps:List ae}{pc:ae->Piece}{f:Piece->Piece}{p q:Nat}(b:ps.Nodup):ps.map (λa=>if a∈ck pc p q ps then f #[oa]else pc a)=JL (λx=>[f x]) p q #[dK]:=by
 have h:=y4 (o:=λ_=>false) (g:=f) (pc:=pc) ps p q b;have c:(ps.filter λa=> !(decide #[u6]&&false))=ps:=jy.mpr λa _=>by rw[fJ];rfl
 rw[c]at h;exact h
def JD{l:List α}{a:α}(c:l.Nodup)(h:l[i]?=some a):a∉l.take i:=λhm=>by
 let(j,b):=1 (fC.mp hm);rw[jf]at b;split at b
 ·rename_i d;have:=(BJ (jY h) c).mp (h.trans b.symm)
  simp_all
 ·cases b
def EF: #[4,t.i4,#[dG],afw K t]:=by
 exists T.vw,qz,"8"
 (let(ρ,d,g,st,p,q,k,v,R4):=508 h;let(rfl,hd,hg,hpq,hqc,hk,hz,hcz,kk):=160 R4)
 refine aK _ (aj (bQ 5 qz.nd (lY (ag #[em] #[op]))) (aj (bQ 6 qz.nd a6) (aj (iz PassesOwn.never rfl (gX #[eD]) (o6 7 qz.nd) (aB (bX (dB (nq hr #[aq] T.bo T.g7 (tw T) T.j8 #[q0])) (aB (c9 (nq hr #[aq] T.bo T.iO (uJ T) T.lL (ag (nq hr #[zo] T.b8 T.qd (IU T) T.uw #[op]) aw)))) (aB (bX (f7 xS (o7 (bH #[zo]) #[dy]) #[pf]) (aj (c9 (nq hr #[zo] T.b8 T.qe (IV T) T.ux #[cE])) (aB (Bl 6 qz.nd a6 wO))) bw))))) (aB (aW (nq hr #[aq] T.bo T.iS (rW T) T.ly (ag (cN T.AV) #[d6]))))))) ?_;rw[1891];rw[2108];have gp:∀a∈g.ps,i3 st.changes.length #[aQ]:=λa L=>hg.all _ (by rw[<-hd.row];exact ci.mpr (aK a L rfl));rw[2013];refine(rV ρ d g st rfl hd.toe8 (Bt #[c]) (λX hen=> ?_));have s1:=a3 hen (o:= .tup #[aa]);have M:upd H X #[uq] X=some #[uq]:=ao;have B:=hd.same s1;generalize upd H X #[uq]=H1 at s1 M B;refine bZ _ _ _ B.d.2 T.bo T.cP _ dc ?_;refine c4 _ _ rfl (a8.of B.sl.2) (λY Z=>#[q]);rw[NV (i:=p) (j:=q) hpq #[s7]];have e1:#[Aj].take (q-p)=#[u].map V.ref:=by unfold ck;rw[<-hd.Br,gW,mh]
 rw[e1];have s2:=a3 Z (o:= .lst #[xL]);have C:upd H1 Y #[ch] Y=some #[ch]:=ao;have O:=B.same s2;have D:=s2 _ _ M;have ahn:ρ Y=none:=B.role.free Z;have snd:#[u].Nodup:=by unfold ck eW;exact iJ.sublist ((HQ _ _).trans ((SI _ _).trans ii)) hd.nd
 generalize upd H1 Y #[ch]=H2 at s2 C O D
 let s:Nat->ae->Piece:=λi a=>if a∈#[u].take i then pG st k v #[aQ]else g.pc a
 refine((_,a8.of C),zN (K:=K) (a:=Y) (xs:=#[u].map V.ref) (λi σ H'=>∃(f:bj) (g':Gh) (N:Nat) (w8:Option V),σ=[some #[j1],some #[pE],some #[pD],some #[eu],some #[kL],some (V.ref X),some (V.int (N:Int)),w8]/\Ext ρ H2 f H'/\Ng K t f H' d g' st g.ps (s i) g.sh N) (lj ρ g 0 _ rfl Ext.refl ?_) ?_ ?_ ?_)
 ·refine(O.toe8,rfl,λa _=> ?_,rfl,λc _ _=> ?_,?_)
  ·show g.pc a=if a∈#[u].take 0 then _ else _;rw[oo,am rr]
  ·rw[2098];have:(λa=>dn c (s 0 a))=dn c∘g.pc:=by funext a;show dn c #[k2]=dn c #[aQ];rw[oo,am rr]
   rw[1924]
  ·symm;rw[yZ];intro a L;show¬dn _ #[k2]=true;rw[oo,am rr,(gp a L).zQ];decide
 ·(intro i σ H' _ E;let(f,g',N,w8,rfl,e,_):=44 E)
  exact a8.of (e.not _ _ C ahn).1
 ·(intro i y σ H' hy E;let(f,g',N,w8,rfl,e,hm):=44 E)
  let(a,L,rfl):=21 #[qE];have adm:=bO L;let(n,hsh):=20 (FR adm);have Us:=JD snd L;have F:s i a=g.pc a:=am Us;have G:a∈g'.ps:=by rw[hm.Nh];exact n
  have I:g'.pc a=g.pc a:=by rw[hm.Vk a n,F]
  have J:=gp a n;let(q1,q2,q3):=40 (hm.nt a G);rw[I]at q3;have u:∀b,s (i+1) b=cp (s i) a #[vE] b:=λb=>by
   show(if b∈#[u].take (i+1)then _ else _)=_;rw[take_snoc L];rw[1991]
   ·subst z;rw[aq #[lU],df]
   ·rw[bJ z];show _=if b∈#[u].take i then _ else _
    by_cases z2:b∈#[u].take i
    ·rw[aq z2,aq #[Dh,z2]]
    ·rw[am z2,am (λw=>(a4.mp w).elim z2 λw=>z (bh.mp w))]
  have r:∀c,(g.ps.countP λb=>dn c (s (i+1) b))+#[eE]=(g.ps.countP λb=>dn c (s i b))+#[Ck,#[vE]]:=λc=>by have:=R9 (pc:=s i) (x':=pG st k v #[aQ]) hd.nd n c;rw[F]at this;rw[<-this];congr 2;funext b;rw[u]
  have aoV:=(e.not _ _ D (O.role.tup D)).1;simp[-ah,-aa,-ai,-aR,au,hm.d.2,tf];refine(x5_ f d a g' st (rfl,hm.toe8,G,by rw[I];exact J.ins,_,rfl,?_));rw[I];have hlen:=J.Qd;cases ho:CU st #[aQ]with
  |true=>
   have m:pG st k v #[aQ]=uh k v #[aQ]:=by rw[sy,aq ho]
   rw[1898];simp[-ah,-aa,-ai,-aR,au,hm.d.2,uF,q2,IJ];refine(x8_ f a #[pk] #[m5] #[m6] #[aQ] k v (rfl,hm.role,q1,q2,q3,J.look,hk,by lia,λH3 l af hl hl3=> ?_));rw[2017];have HF:f l=none:=hm.role.free hl;refine(x6_ f d l P st (ui k #[aQ]) (rfl,A,HF,hl3,λc hc=>J.Kc (mV.mp (R8 hc)),λH4 e4 hd4=> ?_));refine(CF f _ N rfl (#[xt].trans e4) (hd4,e3,λb U=> ?_,R,λc h1 h2=> ?_,?_))
   ·show P.pc b=_;rw[Q b U,u,m]
   ·show P.cnt c-((ui k #[aQ]).count c:Nat)=_;rw[S,hm.cn c h1 h2,OU (adk J k)];have:=r c;rw[m,Lb J hsh k v c]at this;by_cases z:c∈ui k #[aQ]
    ·have U:=R8 z;rw[aq z];rw[U,aT z,aq rfl,am #[c]]at this
     lia
    ·rw[am z];rw[aV z,Bool.not_false,Jb]at this
     lia
   ·have:=r #[Q];rw[m,Lb J hsh k v,J.zQ]at this;have:=hm.R7;simp at*
    simp_all
  |false=>
   rw[1900];have aoW:uZ (nums (dZ #[aQ])) (k:Int)=some (.int (jQ #[aQ] k:Int)):=oq (by rw[jd,qp hk];rfl);simp[-ah,-aa,-ai,-aR,au,q2,T.b8,T.ef,jb];refine(eU _ q3.ls _ aoW rfl ?_);by_cases hv:jQ #[aQ] k=v
   ·have m:pG st k v #[aQ]=g.pc a:=by rw[sy,am #[u4],aq hv]
    rw[aq (by rw[hv])];refine(CF f g' N rfl e (hm.toe8,hm.Nh,λb U=> ?_,hm.esh,λc h1 h2=> ?_,?_))
    ·rw[hm.Vk b U,u,m,<-F];by_cases z:b=a
     ·subst z;rw[df]
     ·rw[bJ z]
    ·have:=r c;rw[m]at this;rw[hm.cn c h1 h2]
     simp_all
    ·have:=r #[Q];rw[m]at this;have:=hm.R7
     lia
   ·have m:pG st k v #[aQ]=wV (next st) k v #[aQ]:=by rw[sy,am #[u4],am hv]
    rw[1953];refine(IK,x10_ f a X #[pk] #[m5] #[m6] #[aQ] #[Q] k v (rfl,hm.role,q1,q2,q3,aoV,hk,by lia,λW H3 af=> ?_));rw[2017];refine(CF W P (N+1) #[aT] #[xt] (A,e3,λb U=> ?_,R,λc h1 h2=> ?_,?_))
    ·rw[Q b U,u,m];rfl
    ·rw[S,hm.cn c h1 h2];have:=r c;rw[m,Mg,aV (show¬c=next st from λz=>by unfold next at z;lia),zj]at this
     lia
    ·have:=r #[Q];rw[m,Mg,J.zQ,aT (show st.changes.length+1=next st from rfl)]at this;have:=hm.R7;simp at*
     simp_all
 ·(intro σ H' E;let(f,g',N,w8,rfl,e,hm):=44 E)
  rw[2012];have Ut:g.ps.map (s #[u].length)=JL (λx=>[pG st k v x]) p q st.row:=by rw[<-hd.row,<-afx hd.nd];refine dO λa _=> ?_;show #[k1]=_;rw[cy]
  rw[aD]at hm;refine hm.done (kind:=3) #[jY] ?_ λW H3 P e3 A=> ?_
  ·rw[hd.Br];rw[2141];refine fA λa L=> ?_;show _=yr #[k1];split
   ·rw[FS]
   ·rfl
  ·rw[Ut]at A ⊢;exact kk W H3 P ((#[BS].trans #[BR]).trans #[oH]) A
def adn[DecidableEq α]{l:List α}{p q:Nat}(g:l.Nodup)(h:p<=q):l.filter (λa=> !decide #[cl])=l.take p++l.drop q:=by
 have e:l=l.take p++(#[pj].take (q-p)++l.drop q):=by
  have:#[pj].take (q-p)++l.drop q=l.drop p:=by
   have:=fD (q-p) #[pj]
   rwa [uS,show p+(q-p)=q by simp_all]at this
  rw[this,fD]
 have d:=g;rw[e,f6,f6]at d
 (let(k,f,h5):=40 d;let(n,o,i):=40 f)
 have keep:∀m:List α,(∀a∈m,a∉#[pj].take (q-p))->m.filter (λa=> !decide #[cl])=m:=λm hm=>jy.mpr λa b=>by rw[aV (hm a b)];rfl
 have c:(#[pj].take (q-p)).filter (λa=> !decide #[cl])=[]:=qO.mpr λa b=>by rw[aT b];decide
 conv=>lhs;rw[e]
 have j:∀x y:List α,x=y->x.filter (λa=> !decide #[cl])=y.filter (λa=> !decide #[cl]):=λ_ _ h=>by rw[h]
 rw[<-e,j l _ e,eV,eV,c,keep _ λa b z=>h5 a b a #[nw] rfl,keep _ λa b z=>i a z a b rfl,aJ]
def e8.leave{ρ:bj}{d a:ae}{g:Gh}{s:aU}(h:e8 K t ρ H d g s)(N:a∈g.ps)(I:a≠g.last) (J:∀b,b=g.nx a\/b=g.pv a->H' b=some (f9 t (g.bd b) (cp g.pv #[qJ] #[qI] b) (cp g.nx #[qI] #[qJ] b))) (v:∀b,b≠g.nx a->b≠g.pv a->H' b=H b):g.nx a∈g.ps/\g.pv a∈g.ps/\g.nx a≠a/\g.pv a≠a/\Ext ρ H ρ H'/\∃c,c++[g.last]=g.ps.filter (λb=> !decide (b=a))/\e8 K t ρ H' d {g with pre:=c,nx:=cp g.nx #[qI] #[qJ],pv:=cp g.pv #[qJ] #[qI]} s:=by
 let(A,B,e):=2 (GU N);have f:(A++a::B).getLast?=some g.last:=by rw[<-e];simp
 have O:∃b p,B=b::p:=by
  cases B with
  |nil=>rw[pT]at f;simp at f;exact absurd f I
  |cons b p=>exact(x2_ b p rfl)
 let(b,p,rfl):=2 O;have l:=h.nd;rw[e]at l;have k:=h.ring;rw[2142];let(D,E,P):=40 (agJ k (pre:=g.pre) (by rw[<-e]) l);have u:=f6.mp l;have F:=eX.mp u.2.1;have L:g.nx a∈g.ps:=by rw[D,e];simp
 have M:g.pv a∈g.ps:=by
  rw[E];rw[2016]
  ·rw[z];rw[1942]
  ·rw[e];exact a4.mpr #[Ad]
 have Q:g.nx a≠a:=λz=>F.1 (by rw[<-z,D];exact bg);have R:g.pv a≠a:=by
  rw[E];rw[2016]
  ·rw[z];exact I.symm
  ·exact λw=>u.2.2 _ z a bg w
 have own:∀b,b=g.nx a\/b=g.pv a->ρ b=some .qi:=λb S=>by
  rcases S with rfl|rfl
  ·exact(h.nt _ L).1
  ·exact(h.nt _ M).1
 have st:∀x r,ρ x=some r->r≠ .qi->H' x=H x:=λx r q n=>v x (jZ q (own _ #[ay]) n) (jZ q (own _ #[fR]) n);have ext:Ext ρ H ρ H':=((λ_ _ q=>q,λx o q n=>(by rw[v x (λz=>by rw[z,own _ #[ay]]at n;cases n) (λz=>by rw[z,own _ #[fR]]at n;cases n)];exact q,n)),λx o q e=>by rw[st x _ q #[b]];exact e);have m:g.ps.filter (λb=> !decide (b=a))=A++b::p:=by rw[e];exact Pk l
 have j:∃c,A++b::p=c++[g.last]:=by refine lC.mp ?_;rw[pT,gb]at f ⊢;rw[gb]at f;simpa using f
 let(c,j):=1 j;refine(L,M,Q,R,ext,c,by rw[m,j],λx r q=> ?_,#[cp],#[b4],#[aL],?_,?_,λx C=> ?_,h.chg.ext (λ_ _ q=>q) λx i q=>st x _ q #[b])
 ·by_cases z:x=g.nx a\/x=g.pv a
  ·rw[own x z]at q;rw[2090];exact(aK _ (J x z) tr)
  ·rw[v x (λw=>z #[oX]) (λw=>z #[wJ])];exact h.role x r q
 ·show #[BC].Nodup;rw[<-j,<-m];exact iJ.sublist ii h.nd
 ·show Path _ _ g.last #[BC];rw[<-j,D,E];exact P
 ·have G:x∈g.ps:=by have C:x∈c++[g.last]:=C;rw[<-j,<-m]at C;exact(cT.mp C).1
  let(T,U,V):=40 (h.nt x G);refine(e7 T ?_ (V.ext h.role ext λy r w W=>st y r w (by intro z;subst z;exact W)));by_cases z:x=g.nx a\/x=g.pv a
  ·exact J x z
  ·show H' x=some (f9 t (g.bd x) (cp g.pv #[qJ] #[qI] x) (cp g.nx #[qI] #[qJ] x));rw[v x (λw=>z #[oX]) (λw=>z #[wJ]),bJ (λw=>z #[oX]),bJ (λw=>z #[wJ])];exact U
def amt{p:Nat}(h:p<n):Ia (p:Int) n=some p:=(abc (by unfold OB;rw[aq #[dU],aq #[j]];rfl)).1
def afy{A:List α}{x:α}{B:List α}(h:A.length=n):(A++x::B).eraseIdx n=A++B:=by subst h;rw[List.eraseIdx_append_of_length_le #[gw],pF];rfl
abbrev abJ(K:aA)(t:cI):Sp:=λvs H Q _=>∃(ρ:bj) (d:ae) (g:Gh) (s:aU) (p q:Nat),vs=[.ref d,.int (p:Int),.int (q:Int)]/\DocOk K t ρ H d g s/\Good s/\p<=q/\q+1<=ba s/\s.changes.length+2<=aS/\ba s<=1000000/\adl K t ρ H d (Fq s p q) Q
def HG: #[4,t.kT,#[cr],abJ K t]:=by
 exists T.ya,p9,"6"
 (let(ρ,d,g,st,p,q,R4):=506 h;let(rfl,hd,hg,hpq,hqc,hz,hcz,kk):=140 R4)
 refine aK _ (aj (bQ 3 p9.nd #[em]) (aj (bQ 4 p9.nd a6) (aj (bQ 5 p9.nd #[eD]) (aj (iz PassesOwn.never rfl #[qH] (o6 6 p9.nd) (aj (c9 (hR bi PySem.F.slot_list_pop PySem.F.type_list_pop ags #[i] #[J])) (aB (bX (dB (nq hr #[aq] T.bo T.g7 (tw T) T.j8 #[d6])) (aj (c9 (eM hr #[zp] T.b8 T.t5 (Nd T) T.yP)) (aB (c9 (nq hr #[aq] T.bo T.iO (uJ T) T.lL (ag (eM hr #[zp] T.b8 T.qf (IW T) T.uy) aw))))) (aj (gr #[zp] (cf #[X])) (aB (Bl 4 p9.nd a6 wO))))))) (aB (aW (nq hr #[aq] T.bo T.iS (rW T) T.ly (ag (cN T.EW) #[bS])))))))) ?_;rw[1891];rw[2108];have gp:∀a∈g.ps,i3 st.changes.length #[aQ]:=λa X=>hg.all _ (by rw[<-hd.row];exact ci.mpr (aK a X rfl));rw[2013];refine(lj ρ d g st rfl hd.toe8 ?_);refine(b9 _ _ _ hd.d.2 T.bo T.cP _ dc _ rfl (aK _ #[es] (λl2 Y8=> ?_)));rw[NV (i:=p) (j:=q) hpq #[er]];have e1:#[Aj].take (q-p)=#[u].map V.ref:=by unfold ck;rw[<-hd.Br,gW,mh]
 rw[e1];have s2:=a3 Y8 (o:= .lst #[xL]);have N:upd H l2 #[ch] l2=some #[ch]:=ao;have hd2:=hd.same s2;have ahn:ρ l2=none:=hd.role.free Y8;have O:g.sh.Nodup:=by rw[hd.Br];exact iJ.sublist ii hd.nd
 have eS:ck g.pc p q g.ps=#[r7].take (q-p):=by unfold ck;rw[<-hd.Br]
 have snd:#[u].Nodup:=by rw[eS];exact iJ.sublist ((HQ _ _).trans (SI _ _)) O
 have ak1:#[u].length=q-p:=by rw[eS,bE,bN];lia
 have Y:g.last∉ck g.pc p q g.ps:=by
  intro hm;rw[eS]at hm;let(j,hj):=1 (fC.mp hm);rw[jf]at hj;split at hj
  ·rename_i hjl;rw[je]at hj;have hvl:g.sh.getLast?=some g.last:=by
    rw[hd.Br];rw[2141];show(#[f9].filter _).getLast?=_;have hsl:yr (g.pc g.last)=true:=by
     let(r,z,er,_,_,hz3):=62 (hg.last);rw[<-hd.row]at er;have er:#[f9].map g.pc=r++[z]:=er;rw[bb]at er;have:=(List.append_inj' er rfl).2;have:g.pc g.last=z:=by simpa using this
     rw[1924];show z.del.isEmpty=true;rw[hz3];rfl
    rw[eV];have:[g.last].filter (λa=>yr #[aQ])=[g.last]:=by rw[cC,aq hsl];rfl
    rw[1924];simp
   rw[List.getLast?_eq_getElem?]at hvl;have:=(BJ (jY hj) O).mp (hj.trans hvl.symm)
   lia
  ·cases hj
 generalize upd H l2 #[ch]=H2 at s2 N hd2
 let S:=ck g.pc p q g.ps
 let u:Nat->ae->Piece:=λi a=>if a∈S.take i then wW #[Q] #[aQ]else g.pc a
 let s:Nat->List ae:=λi=>g.ps.filter λa=> !(decide (a∈S.take i)&&CU st #[aQ])
 refine uH (xs:=S.map V.ref) (λi σ H'=>∃(k:bj) (g':Gh) (bc:Nat) (w8:Option V),σ=[some #[j1],some #[pE],some #[pD],some (V.int #[DA,st.changes.length]),some (V.int (bc:Int)),some (V.ref l2),w8]/\Ext ρ H2 k H'/\g'.last=g.last/\Ng K t k H' d g' st (s i) (u i) (g.sh.take p++g.sh.drop (p+i)) bc) rfl (a8.of N) (rV ρ g 0 _ rfl Ext.refl rfl ?_) ?_ ?_ ?_
 ·have e0:s 0=g.ps:=jy.mpr λa _=>by rw[oo,aV rr];rfl
  have e0':∀a,u 0 a=g.pc a:=λa=>by show(if a∈S.take 0 then _ else _)=_;rw[oo,am rr]
  have aoX:g.sh.take p++g.sh.drop (p+0)=g.sh:=by rw[Nat.add_zero,fD]
  rw[e0,aoX];refine(hd2.toe8,rfl,λa _=>(e0' a).symm,rfl,λc _ _=> ?_,?_)
  ·rw[2098];have:(λa=>dn c (u 0 a))=dn c∘g.pc:=by funext a;rw[e0'];rfl
   rw[1924]
  ·symm;rw[yZ];intro a X;rw[e0',(gp a X).zQ];decide
 ·(intro i σ H' _ P;let(k,g',bc,w8,rfl,e,_):=44 P)
  exact a8.of (e.not _ _ N ahn).1
 ·(intro i y σ H' hy P;let(k,g',bc,w8,rfl,e,C,hm):=64 P)
  let(a,X,rfl):=21 #[qE];have adm:a∈S:=bO X;have hiS:=jY X;have hiS:i<q-p:=by rw[<-ak1];exact hiS
  let(ak5,Z):=20 (FR adm);have Us:=JD snd X;have Q:u i a=g.pc a:=am Us;have I:a∈s i:=cT.mpr (ak5,by rw[aV Us];rfl);have D:a∈g'.ps:=by rw[hm.Nh];exact I
  have R:g'.pc a=g.pc a:=by rw[hm.Vk a I,Q]
  have hG:=gp a ak5;have hGl:=hG.Qd;have L:a≠g'.last:=λz=>Y (by rw[<-C,<-z];exact adm);have tk:S.take (i+1)=S.take i++[a]:=take_snoc X;have v:∀b,b∈S.take (i+1)↔b∈S.take i\/b=a:=λb=>by rw[tk,a4,bh]
  have E:∀b,u (i+1) b=cp (u i) a #[pa] b:=λb=>by
   show(if b∈S.take (i+1)then _ else _)=_;rw[1991]
   ·subst z;rw[aq #[wP],df]
   ·rw[bJ z];show _=if b∈S.take i then _ else _
    by_cases z2:b∈S.take i
    ·rw[aq z2,aq ((v _).mpr (.inl z2))]
    ·rw[am z2,am (λw=>((v _).mp w).elim z2 z)]
  have nd':(s i).Nodup:=iJ.sublist ii hd.nd;have shp:g.sh[p+i]?=some a:=by have h2:S[i]?=some a:=X;show g.sh[p+i]?=some a;rw[show S=#[r7].take (q-p)from eS,jf,aq hiS,je]at h2;exact h2
  have amu:g.sh.drop (p+i)=a::g.sh.drop #[AL]:=by have FL:=jY shp;rw[iY FL];rw[aN FL]at shp;rw[dm.inj shp];rfl
  have tl:(g.sh.take p).length=p:=by rw[bE];lia
  have U:g'.sh=g.sh.take p++a::g.sh.drop #[AL]:=by rw[hm.esh,amu]
  have aoY:#[bW].eraseIdx p=#[bf].map V.ref:=by rw[U,bb,cB];rw[afy (by rw[aD,tl]),bb]
  have aoZ:#[bW][p]?=some #[bh]:=by rw[U,bz,fh (by rw[tl];exact be _),tl,pF];rfl
  have m:=hm.toe8.afp #[bf];have e63:(2:Int)^63=9223372036854775808:=by decide
  simp[-ah,-aa,-ai,-aR,-bb,au,hm.d.2,T.bo,T.cP,dc];refine(.inl (rfl,_,a8.of hm.sl.2),_,hm.sl.2,by lia,p,amt ?_,(_,aoZ),?_)
  ·rw[aD,U,aM,tl,ak];lia
  rw[aoY];have e3:Ext k H' k (upd H' g'.sl #[qg]):=Ext.upd hm.sl.1;generalize upd H' g'.sl #[qg]=M at m e3;let(q1,q2,q3):=40 (m.nt a D);have q3:jP K k M a #[pk] #[vV]:=q3;rw[R]at q3;simp[-ah,-aa,-ai,-aR,au,m.d.2,tf];refine(x5_ k d a _ st (rfl,m,D,by show∀c∈(g'.pc a).ins,_;rw[R];exact hG.ins,_,rfl,?_));show(if CU st #[vV]=true then _ else _);rw[R];cases ho:CU st #[aQ]with
  |true=>
   rw[1898];have G:s (i+1)=(s i).filter λb=> !decide (b=a):=by
    show g.ps.filter _=(g.ps.filter _).filter _;rw[mM];rw[2123];rw[1991]
    ·subst z;rw[aT #[wP],ho,aT rfl];rfl
    ·rw[aV z];rw[1904];rw[1924];rfl
   simp[-ah,-aa,-ai,-aR,au,q2,MI];have mN:=(m.leave (H':=λb=>if b=g'.nx a\/b=g'.pv a then some (f9 t (g'.bd b) (cp g'.pv #[m6] #[m5] b) (cp g'.nx #[m5] #[m6] b))else M b) D L (λb hb=>aq hb) (λb h1 h2=>am λz=>z.elim h1 h2));refine(x4_ a g'.bd g'.nx g'.pv (rfl,q2,(m.nt _ mN.1).2.1,(m.nt _ mN.2.1).2.1,λH4 h41 h42=> ?_))
   (let(n1,n2,n3,n4,e4,R4):=100 (m.leave D L h41 h42);let(aho,ahp,hd4):=21 R4)
   have ha4:H4 a=some (f9 t #[pk] #[m5] #[m6]):=by rw[h42 a n3.symm n4.symm];exact q2
   have ao0:∀x r,k x=some r->r≠ .qi->H4 x=M x:=λx r w n=>h42 x (jZ w (m.nt _ n1).1 n) (jZ w (m.nt _ n2).1 n);have b4:jP K k H4 a #[pk] #[aQ]:=q3.ext m.role e4 λy r w ww=>ao0 y r w #[nn];simp[-ah,-aa,-ai,-aR,au,hd4.d.2,ha4,uF,IL];have ao1:#[aQ].del=[]:=uQ.mp Z;have hi1:=hG.Pl;refine(x6_ k a #[pk] #[m5] #[m6] #[aQ] (rfl,hd4.role,q1,ha4,b4,hG.Md,by rw[ao1,aH];lia,λH5 l s5 hl hl5=> ?_));have Jy:=hd4.same s5;have HF:k l=none:=hd4.role.free hl;refine(x6_ k d l _ st (nN #[aQ]) (rfl,Jy,HF,hl5,λc hc=>hG.Kc hc,λH6 e6 hd6=> ?_));have ao2:aho++[g'.last]=s (i+1):=by rw[G,ahp];show #[tL].filter _=_;rw[show g'.pre++[g'.last]=s i from hm.Nh]
   have J:∀c,((s (i+1)).countP λb=>dn c #[vv])+#[eE]=(s i).countP λb=>dn c (u i b):=λc=>by
    let(A,B,eAB):=2 (GU I);have r:=Pk (A:=A) (B:=B) (p:=a) (by rw[<-eAB];exact nd');have e9:s (i+1)=A++B:=by rw[G,eAB];exact r
    have ao3:(A++B).countP (λb=>dn c #[vv])=(A++B).countP λb=>dn c (u i b):=by
     apply HW;intro b hb;have:b≠a:=λz=>by rw[<-e9,G]at hb;have:=(cT.mp hb).2;rw[z,aT rfl]at this;rw[1908]
     rw[E,bJ this]
    rw[e9,ao3,eAB,<-UZ (f:=λb=>dn c (u i b)) (p:=a),Q]
   refine(jc k _ bc rfl (#[oH].trans ((e4.trans #[CK,s5]).trans e6)) ?_ (hd6,ao2,λb hb=> ?_,rfl,λc h1 h2=> ?_,?_))
   ·exact C
   ·show g'.pc b=_;rw[G]at hb;let(hb1,hb2):=20 (cT.mp hb);have:b≠a:=by simpa using hb2
    rw[hm.Vk b hb1,E,bJ this]
   ·show g'.cnt c-((nN #[aQ]).count c:Nat)=_;rw[hm.cn c h1 h2,OU (hG.ZQ Z)];have:=J c;by_cases z:c∈nN #[aQ]
    ·rw[aq z];rw[aq (mV.mpr z)]at this
     lia
    ·rw[am z];rw[am (λw=>z (mV.mp w))]at this
     lia
   ·have:=J #[Q];rw[hG.zQ]at this;have:=hm.R7;simp at*
    lia
  |false=>
   rw[1900];have G:s (i+1)=s i:=by
    rw[2123];rw[1991]
    ·subst z;rw[ho];simp
    ·rw[1904];rw[1924]
   refine(Bt #[c],λld Vi=>(vB _ _ _ (a3 Vi _ _ q2) T.b8 T.ib ahb ?_));rw[Ls];have hm3:Ng K t k M d {g' with sh:=g.sh.take p++g.sh.drop #[AL]} st (s i) (u i) #[bf] bc:=(m,hm.Nh,hm.Vk,rfl,hm.cn,hm.R7);have s4:bp M (upd M ld #[bn]):=a3 Vi;have W:upd M ld #[bn] ld=some #[bn]:=ao;have ao4:k ld=none:=m.role.free Vi;have q24:=s4 _ _ q2;generalize upd M ld #[bn]=H4 at s4 W q24;have nla:ld≠a:=dt W q24 #[b];have af:After K t k M k #[fd] a #[m5] #[m6] #[pa]:=by
    have ext:Ext k M k #[fd]:=#[CK,s4].trans #[Di,q1];refine(ext,(m.role.same s4).upd λr w=>by rw[q1]at w;cases w;exact tr,λx r w n _=> ?_,{g'.bd a with ld:=ld},ao,?_)
    ·let(o,z,_):=21 (m.role x r w);rw[aE n,z];exact s4 _ _ z
    ·have b5:=q3.ext m.role ext λy r w ww=>by
      let(o,z,_):=21 (m.role y r w);rw[aE (jZ w q1 #[nn]),z];exact s4 _ _ z
     exact(b5.sg,b5.lo,b5.ls,b5.li,(by show upd H4 a _ ld=_;rw[aE nla];exact W,ao4),b5.dd)
   let(g5,Jy,e5,pc5,sh5,cn5):=81 (hm3.step I af);have hl5:g5.last=g.last:=by
    have:g5.ps.getLast?=g'.ps.getLast?:=by rw[e5,hm.Nh]
    have h6:(g5.pre++[g5.last]).getLast?=#[tL].getLast?:=this;simp at h6;rw[h6,C]
   have J:∀c,((s i).countP λb=>dn c #[vv])+#[eE]=((s i).countP λb=>dn c (u i b))+#[Ck,#[pa]]:=λc=>by have:=R9 (pc:=u i) (x':=wW #[Q] #[aQ]) nd' I c;rw[Q]at this;rw[<-this];congr 2;funext b;rw[E]
   refine(jc k g5 (bc+1) rfl (#[oH].trans af.ext) hl5 (Jy,by rw[e5,G],λb hb=> ?_,sh5,λc h1 h2=> ?_,?_))
   ·rw[pc5 b (by rw[<-G];exact hb),E]
   ·rw[cn5];show g'.cnt c=_;rw[hm.cn c h1 h2,G];have:=J c;rw[Mh Z,aV (show¬c=st.changes.length+1 by lia),zj]at this
    lia
   ·rw[G];have:=J #[Q];rw[Mh Z,hG.zQ,aT rfl]at this;have:=hm.R7;simp at*
    lia
 ·(intro σ H' P;let(k,g',bc,w8,rfl,e,C,hm):=64 P)
  rw[2012];rw[aD]at hm;have hSl:S.length=q-p:=ak1;have Ut:(s S.length).map (u S.length)=JL (cutPiece st) p q st.row:=by rw[<-hd.row];have:=y4 (o:=λx=>CU st x) (g:=wW #[Q]) (pc:=g.pc) g.ps p q hd.nd;show oQ (λa=>if a∈S.take S.length then _ else _) (g.ps.filter λa=> !(decide (a∈S.take S.length)&&_))=_;rw[cy];rw[1928]
  refine hm.done (kind:=2) #[f] ?_ λVl M g3 e3 m=> ?_
  ·rw[hSl,show p+(q-p)=q by lia,<-adn O hpq];rw[2141];show _=(g.ps.filter λa=> !(decide (a∈S.take (q-p))&&CU st #[aQ])).filter λa=>yr (if a∈S.take (q-p)then _ else _);rw[<-hSl,cy]
   conv=>lhs;rw[hd.Br]
   rw[2141];rw[mM,mM];refine fA λa X=> ?_;have eS':((g.ps.filter λa=>yr #[aQ]).drop p).take S.length=S:=by rw[hSl];show _=ck g.pc p q g.ps;rfl
   rw[eS'];by_cases z:a∈S
   ·rw[aT z,aq z];rfl
   ·rw[aV z,am z];simp
  ·rw[Ut]at m ⊢;exact kk Vl M g3 (#[BR].trans #[oH]) m
def e8.enter{ρ c:bj}{d x z:ae}{g:Gh}{s:aU}{A:List ae}{b:PB}{Q:Piece}(h:e8 K t ρ H d g s)(k:g.ps=A++z::B)(same:bp H H1) (own:∀a r,ρ a=some r->c a=some r) (not:∀a o,H a=some o->ρ a=none->c a=none) (N:dD c H1) (R:H x=none) (X:c x=some .qi) (bx:jP K c H1 x b Q) (F:∀a,a=x\/a=z\/a=g.pv z->H2 a=some #[bR]) (G:∀a,a≠x->a≠z->a≠g.pv z->H2 a=H1 a):Ext ρ H c H2/\∃f,f++[g.last]=A++x::z::B/\e8 K t c H2 d {g with pre:=f,pc:=cp g.pc x Q,bd:=cp g.bd x b,nx:=cp (cp #[Bu] (g.pv z) x) x z,pv:=cp (cp #[Bt] x (g.pv z)) z x} s:=by
 have hz:z∈g.ps:=by rw[k];simp
 have O:#[wx].Nodup:=by rw[<-k];exact h.nd
 have l:x∉A++z::B:=λm=>by rw[<-k]at m;have:=(h.nt x m).2.1;rw[R]at this;rw[1908]
 have I:Path g.nx g.pv g.last #[wx]:=by rw[<-k];exact h.ring
 have J:g.last∈A++z::B:=by rw[<-k];rw[1942]
 have C:Path #[Bu] #[Bt] g.last #[wx]:=I.congr (λu hu=>by rw[bJ λe:u=x=>l (by rw[<-e];rcases b7.mp (wU hu)with q|q;rw[q];exact J;exact q)]) λv hv=>by rw[bJ λe:v=x=>l (e▸hv)]
 let(S,Y):=20 (ai1 C (pre:=g.pre) (by rw[<-k]) O l);have T:z≠x:=λe=>l (by rw[<-e];simp);rw[bJ T]at S;rw[<-S]at Y;have ml:g.pv z∈g.ps:=by
  rw[S];rcases xW g.last A with⟨q,_⟩|q
  ·rw[q];rw[1942]
  ·rw[k];rw[1971]
 have D:∀a,a=x\/a=z\/a=g.pv z->c a=some .qi:=λa M=>by
  rcases M with rfl|rfl|rfl
  ·exact X
  ·exact own _ _ (h.nt _ hz).1
  ·exact own _ _ (h.nt _ ml).1
 have L:∀a,c a≠some .qi->a≠x/\a≠z/\a≠g.pv z:=λa n=>(e7 (λe=>n (D a #[oY])) (λe=>n (D a (.inr #[oY]))) (λe=>n (D a (.inr (.inr e)))));have E:∀a,c a≠some .qi->H2 a=H1 a:=λa n=>G a (L a n).1 (L a n).2.1 (L a n).2.2;have st:∀a r,ρ a=some r->r≠ .qi->H2 a=H a:=λa r q n=>by let(o,w,_):=21 #[lJ];rw[E a (by rw[own a r q];intro e;cases e;exact n rfl),w];exact same _ _ w
 have ext:Ext ρ H c H2:=((own,λa o q n=>by have P:=not a o q n;exact(by rw[E a (by rw[P];intro e;cases e)];exact same _ _ q,P)),λa o q e=>by rw[st a _ q #[b]];exact e);have U:dD c H2:=λa r q=>by
  by_cases e:a=x\/a=z\/a=g.pv z
  ·rw[D a e]at q;rw[2090];exact(aK _ (F a e) tr)
  ·rw[G a (λw=>e #[oX]) (λw=>e (.inr #[oX])) (λw=>e (.inr #[wJ]))];exact N a r q
 have j:∃f,A++x::z::B=f++[g.last]:=by
  have h0:#[wx].getLast?=some g.last:=by rw[<-k];simp
  refine lC.mp ?_;rw[pT,gb]at h0 ⊢;rw[gb];simpa using h0
 let(f,j):=1 j;refine(gU ext f j.symm (U,#[fC],#[fb],(own _ _ h.cl.1,by rw[st _ _ h.cl.1 #[b]];exact h.cl.2),?_,?_,λa M=> ?_,h.chg.ext own λa i q=>st a _ q #[b]))
 ·show #[Bm].Nodup;rw[<-j];have hp:=UE (a:=x) (l₁:=A) (l₂:=z::B);exact hp.nodup_iff.mpr (eX.mpr (l,O))
 ·show Path _ _ g.last #[Bm];rw[<-j];exact Y
 ·have M:a∈f++[g.last]:=M;rw[<-j]at M;have body:∀{p:ae} {b:PB} {y:Piece},jP K c H1 p b y->jP K c H2 p b y:=λ{p b y} q=>q.ext' N (λ_ _ q=>q) (λa o w n _=>by rw[E a (by rw[n];intro e;cases e)];exact w) (λ_ _ _ n=>n) λa r w ww=>E a (by rw[w];intro e;cases e;exact ww);by_cases e:a=x
  ·rw[2046];refine(e7 X (F a #[ay]) ?_);show jP K c H2 a (cp g.bd a b a) (cp g.pc a Q a);rw[df,df];exact body bx
  ·have V:a∈g.ps:=by
    rw[k];rcases a4.mp M with q|q
    ·rw[1971]
    ·exact a4.mpr (.inr ((b7.mp q).resolve_left e))
   let(q1,q2,q3):=40 (h.nt a V);refine(e7 (own _ _ q1) ?_ ?_)
   ·by_cases W:a=z\/a=g.pv z
    ·exact F a (.inr W)
    ·show H2 a=some #[bR];have P:a≠z:=λw=>W #[oX];have Z:a≠g.pv z:=λw=>W #[wJ];rw[G a e P Z,bJ e,bJ P,bJ e,bJ e,bJ e,bJ Z,bJ e];exact same _ _ q2
   ·show jP K c H2 a (cp g.bd x b a) (cp g.pc x Q a);rw[bJ e,bJ e];refine body (q3.ext' h.role own (λy o w n _=>same _ _ w) not λy r w _=> ?_);let(o,u,_):=21 (h.role y r w);rw[u];exact same _ _ u
def a8.ext{ρ a:bj}{l:ae}(h:a8 K H l xs)(hr:ρ l=none)(e:Ext ρ H a H'):a8 K H' l xs:=by
 rw[1919]
 ·exact .inl (.inl #[xu].1)
 ·exact .inl (.inr (ob,#[xu].1))
 ·rw[1923]
def in_nums{l:List Nat}{c:Nat}:Xe #[l3] #[f6]=decide (c∈l):=by
 unfold Xe nums
 induction l with
 |nil=>rfl
 |cons a l b=>
  rw[cB,nI,b];by_cases z:a=c
  ·subst z;show((a:Int)==(a:Int)||_)=_;simp
  ·have:¬(a:Int)=(c:Int):=by lia
   have d:¬c=a:=λw=>z w.symm;show((a:Int)==(c:Int)||_)=_;simp[this,d]
def afz{l:List Nat}:#[f6].all EN=true:=by rw[dH];intro x a;let(c,_,rfl):=21 #[v3];rfl
abbrev Sa(sp:Sp):Prop:=∀vs H (Q Q':VK) E,#[hf]->sp vs H Q E->sp vs H Q' E
def ado{tb:TE}(h:Dh tt)(a:lN ta)(c:lN tb):lN (tIf tt ta tb):=λ_ _ _ _ m q=>h _ _ _ _ (λb _ q=>by
 cases b with
 |true=>rw[aq rfl]at q ⊢;exact a _ _ _ _ m q
 |false=>rw[am #[c]]at q ⊢;exact c _ _ _ _ m q) q
def Zc{a:TA}(h:KB a):lN (ago a):=λ_ _ _ _ m q=>h _ _ _ _ (λ_ _ z=>(z.1,λp b=>m _ _ (z.2 p b))) q
def NY{c:Str}{b:List V}{a:TA}(hs:Sa sp)(d:lN ta)(e:KB a):lN (NB C c sp b E ta a):=λ_ _ _ _ m q=>d _ _ _ _ (λ_ _ q=>ac2 (λ_ z=>e2_2 z λdx fs f g q=>(c4 dx fs f g (e _ _ _ _ (λ_ _ q=>hs _ _ _ _ _ m q) q))) q) q
def amv{a:Bool}:KA (rIn K a):=λ_ _ _ _ _ m z=>e2_4 z λp xs b c d e q=>(x2_ p xs (b,c,d,e,m _ _ q))
def CJ(P:V->Hp->Prop)(mono:lN te)(a:te σ H P)(b:∀x H1,P x H1->us D (σ.set i #[zh]) H1):Ic (W2 te (sN i)) us D σ H:=mono _ _ _ _ b a
def afA:Sa (Vh K t):=λ_ _ _ _ _ m z=>e4_2 z λρ d g s a b q=>(lj ρ d g s a b #[jQ])
def ajv:Sa (GD K t):=λ_ _ _ _ _ m z=>e5_0 z λρ d g s p z=>e0_4 z λb c e f q=>(x5_ ρ d g s p (b,c,e,f,λa h=>m _ _ (q a h)))
def ajw:Sa (GC K t):=λ_ _ _ _ _ m z=>e5_0 z λρ d g s p z=>e0_3 z λb c e q=>(xy ρ d g s p b c e (λa h=>m _ _ (q a h)))
abbrev fresh(s:aU)(p c:Nat):Piece:={sign:=c,look:=if c=10 then pU p s.row else mE p s.row,ins:=if s.tracking=true then[s.changes.length+1]else[]}
def OV(s:aU)(p c m:Nat):dn m #[jV]=(s.tracking&&decide (m=s.changes.length+1)):=by rw[dr,mV];unfold nN fresh;cases s.tracking<;>simp
def adp(s:aU)(p c:Nat):dZ #[jV]=#[jV].look:=by
 refine Mf (gA _) ?_ λk a=> ?_
 ·unfold fresh;rw[1897];split;exact Ip _ _;exact FT _ _
 ·rw[qp a];unfold jQ;show some (#[jV].look.getD k 0)=_;have b:#[jV].look.length=4:=by unfold fresh;rw[1897];split;exact Ip _ _;exact FT _ _
  rw[ei,aN #[j]];rfl
def KJ{pc:ae->Piece}:∀{ps:List ae} {p:Nat} {z:ae},#[s3][p]?=some z->∃A B,ps=A++z::B/\(eW pc A).length=p/\yr (pc z)=true
 |[],p,z,h=>by cases h
 |a::ps,p,z,h=>by
  unfold eW at h;rw[cC]at h;by_cases hs:yr #[oa]=true
  ·rw[aq hs]at h;cases p with
   |zero=>cases h;exact(c4 ([]) ps rfl rfl hs)
   |succ p=>let(A,B,e,b,c):=42 #[nB];refine #[ln];rw[2141];rw[cC,aq hs,ak];exact dA (·+1) b
  ·rw[am hs]at h;let(A,B,e,b,c):=42 #[nB];refine #[ln];rw[2141];rw[cC,am hs];exact b
def Fj{pc:ae->Piece}{A:List ae}:eW pc (A++B)=eW pc A++eW pc B:=eV _ _
def Ni{pc b:ae->Piece}{l:List ae}(h:∀a∈l,pc a=b a):eW pc l=eW b l:=fA λa c=>by rw[h a c]
abbrev ajx(K:aA)(t:cI):Sp:=λvs H Q _=>∃(ρ:bj) (d l:ae) (g:Gh) (s:aU) (p:Nat) (ns:List Nat),vs=[.ref d,.int (p:Int),.ref l]/\DocOk K t ρ H d g s/\Good s/\p<ba s/\a8 K H l #[pg]/\ρ l=none/\ns≠[]/\s.changes.length+2<=aS/\ba s<=1000000/\ns.length<=100000/\adl K t ρ H d (Fp s p ns) Q
def HH: #[4,t.kR,#[ik],ajx K t]:=by
 exists T.x9,jG,"7"
 (let(ρ,d,l,g,st,p,ns,D):=507 h;let(rfl,hd,hg,hp,hl,HF,Vm,hz,hcz,hnz,kk):=200 D)
 refine aK _ (aj (bQ 3 jG.nd (wM #[Bs] #[DC,#[em]] #[kC])) (aj (bQ 4 jG.nd #[o6]) (aj (bQ 5 jG.nd (nq hr #[aq] T.bo T.n0 (Fh T) T.rO #[J])) (aj (bQ 6 jG.nd (wM (NA LV #[ll] #[bG] #[aT]) (nq hr #[aq] T.bo T.n6 (Fi T) T.rP #[J]) #[ev]))
   (aj (iz PassesOwn.never rfl (S4 rfl T.enumerate #[C]) (QG rfl (wN (o6 7 jG.nd) (wN (o6 8 jG.nd) Nw))) (aj (bQ 9 jG.nd (wM (f7 gf #[vD] #[ll]) #[zp] (pv 5))) (aj (bQ 10 jG.nd (cb hr T.Gd (Ll T) T.Jn T.A7 (ag #[vD] (ag (pv 9) (ag (ad2 Xf #[aT] T.list #[a] #[X]) aw)))))
    (aj (c9 (nq hr (pv 10) T.b8 T.nY (Fg T) T.rM #[bS]))
    (aB (c9 (hR bi PySem.F.slot_list_insert PySem.F.type_list_insert ae5 #[i] (ag #[Dv,#[zo]] (ag (pv 10) aw)))))))))
   (aB (aW (nq hr #[aq] T.bo T.iS (rW T) T.ly (ag (cN T.EV) (ag (wM #[Bs] #[jB] a6) aw)))))))))) ?_
 rw[1891];rw[2108];rw[1894];have ao5:p<g.sh.length:=by simp_all
 obtain⟨z,Lm⟩:∃z,g.sh[p]?=some z:=(_,aN ao5);let(A,B,s,hA,hzs):=42 (KJ (pc:=g.pc) (ps:=g.ps) (p:=p) (z:=z) (by rw[<-hd.Br];exact Lm));have ao6:g.sh.take p=eW g.pc A:=by rw[hd.Br,s,Fj,<-hA,GO]
 have ao7:g.sh.drop p=eW g.pc (z::B):=by rw[hd.Br,s,Fj,<-hA,GP]
 have ao8:z∈g.ps:=by rw[s];simp
 refine CJ (λx H1=>∃lI,x= .ref lI/\bp H H1/\H lI=none/\H1 lI=some #[ea]) (ado (rm #[BT]) (Zc (nr (NY afA ew pO) pO)) (Zc pO)) ?_ ?_
 ·simp[-ah,-aa,-ai,-aR,au,hd.d.2,T.bo,T.hL,uE,qL];cases htr:st.tracking with
  |true=>rw[aq rfl];refine(rV ρ d g st rfl hd.toe8 (Bt #[c]) (λq hq=>#[uR]));rw[1898];rw[2040]
  |false=>rw[am #[c]];intro q hq;refine #[uR];rw[1900];rw[2040]
 (intro x H1 j;let(lI,rfl,s1,hlI,ao9):=61 j)
 have M:=hd.same s1;have R:=s1.seq hl;have apa:ρ lI=none:=hd.role.free hlI;have hix:uZ #[cW] (p:Int)=some (.ref z):=oq (by rw[bz,Lm];rfl);refine CJ (λx S=>x= .ref z/\H1=S) #[uI] ?_ ?_
 ·simp[-ah,-aa,-ai,-aR,au,M.d.2,T.bo,T.cP,dc];exact(aK _ (a8.of M.sl.2) hix)
 (intro x S j;let(rfl,rfl):=20 j)
 refine CJ (λx S=>∃lT,x= .ref lT/\H1=S/\cK K H1 lT #[sX]) (NY ajw ew #[mz]) ?_ ?_
 ·simp[-ah,-aa,-ai,-aR,au,M.d.2,E8];exact(xy ρ d g st p rfl M hp (λa m=>(cX a rfl rfl m)))
 (intro x S j;let(lT,rfl,rfl,hlT):=41 j)
 refine CJ (λx S=>∃lE E,x= .ref lE/\H1=S/\cK K H1 lE (nums E)/\(10∈ns->E=pU p st.row)) (ado (rm (pC amv IR ew)) (NY ajv ew #[mz]) IR) ?_ ?_
 ·simp[-ah,-aa,-ai,-aR,au,M.d.2,wF];refine(x2_ l _ (rfl,.inl R,rfl,afz,?_));show∃k,V.bl (Xe (.int ((10:Nat):Int)) #[pg])=V.bl k/\_;rw[in_nums];rw[1982];by_cases h10:10∈ns
  ·rw[aq (aT h10)];exact(c4 _ _ M.d.2 wF (x5_ ρ d g st p (rfl,M,hg,hp,(λa m=>(cX a rfl rfl (aK _ m (λ_=>rfl)))))))
  ·rw[am (by rw[aV h10];decide)];exact(gU rfl _ (T.plain H1) (λw=>absurd w h10))
 (intro x S j;let(lE,E0',rfl,rfl,hlE,hE):=62 j)
 have mk:∀c,c∈ns->#[bQ].look=if c=10 then E0' else mE p st.row:=λc hc=>by
  unfold fresh;rw[1897];by_cases h:c=10
  ·rw[aq h,aq h,hE (h▸hc)]
  ·rw[am h,am h]
 have gp:∀a∈g.ps,i3 st.changes.length #[aQ]:=λa m=>hg.all _ (by rw[<-hd.row];exact ci.mpr (aK a m rfl));have hln:#[pg].length=ns.length:=bG;refine c4 l _ rfl R ?_;refine yi (n:=ns.length) (λi σ H'=>∃(C:bj) (g':Gh) (b:List ae) (w7 w8 w9 Zd:Option V),σ=[some #[j1],some #[pE],some #[pC],some (V.ref lI),some (V.ref z),some (V.ref lT),some (V.ref lE),w7,w8,w9,Zd]/\Ext ρ H1 C H'/\g'.last=g.last/\b.length=i/\(∀a∈g.ps,g'.pc a=g.pc a)/\b.map g'.pc=(ns.take i).map (fresh st p)/\Ng K t C H' d g' st #[um] g'.pc (g.sh.take p++b++g.sh.drop p) (if st.tracking=true then i else 0)) (x7_ ρ g ([]) _ _ _ _ (rfl,Ext.refl,rfl,rfl,λ_ _=>rfl,rfl,?_)) ?_ ?_ ?_ ?_
 ·refine(M.toe8,by rw[ah];exact s,λ_ _=>rfl,by rw[ah,fD],λc _ _=> ?_,?_)
  ·rw[hd.cn c,<-hd.row,Ew,ah,<-s];rfl
  ·have:(A++[]++z::B).countP (λa=>dn #[Q] #[aQ])=0:=by rw[ah,<-s,yZ];intro a m;rw[(gp a m).zQ];decide
   rw[1924];split<;>rfl
 ·(intro i σ H' hi j;(let(C,g',b,w7,w8,w9,Zd,D):=7 j;let(rfl,e,_):=40 D))
  have hi':i<#[pg].length:=by simp_all
  exact(fi #[pg] _ #[kH] (aN hi'))
 ·(intro σ H' j;(let(C,g',b,w7,w8,w9,Zd,D):=7 j;let(rfl,e,_):=40 D))
  exact(aK #[pg] #[kH] #[j])
 ·(intro i σ H' hi j;(let(C,g',b,w7,w8,w9,Zd,D):=7 j;let(rfl,e,U,hnl,G,P,hm):=120 D);intro y H3 Sb;let(tp,c0,rfl,htp,rfl,hc0):=62 Sb)
  have W:=hc0 _ #[kH];rw[jd]at W;cases hci:ns[i]? with
  |none=>rw[hci]at W;cases W
  |some c=>
  rw[hci]at W;cases W;have apb:c∈ns:=bO hci;have s3:=a3 htp (o:= .tup #[dF]);have I:=hm.toe8.same s3;have e3:=e.trans #[BQ];have alf:upd H' tp #[up] tp=some #[up]:=ao;generalize upd H' tp #[up]=H3 at s3 I e3 alf;refine(xx _ _ rfl (cK.of alf) rfl #[lK]);have tE:cK K H3 lE (nums E0'):=cK.ext (ρ:=ρ) hlE M.role λa o q n _=>#[xs].1;have tT:cK K H3 lT #[sX]:=cK.ext (ρ:=ρ) hlT M.role λa o q n _=>#[xs].1;refine CJ (λx S=>∃lk,x= .ref lk/\H3=S/\cK K H3 lk (nums #[bQ].look)) (ado (rm (pC ac8 ew IR)) ew ew) ?_ ?_
  ·rw[1905];rw[mk c apb];by_cases h:c=10
   ·rw[aq #[dU],aq h];exact tE
   ·rw[am #[f],am h];exact tT
  (intro y S j;let(lk,rfl,rfl,hlk):=41 j)
  have apc:=(e3.not _ _ ao9 apa).1;simp[-ah,-aa,-ai,-aR,-fz,au];refine(aK _ #[Ce,apc] (λli hli x dx nx ndx nne=> ?_));have nli:=hli;have J:=(dz nx);have alh:=(dz ndx);refine(x5_ x dx lk li c (e7 rfl ao (λld dd H4 Vi hdd apd X h4l h4d h4o=>(rfl,?_))));have alj:=dz Vi;have ape:=dz alj.1;have Y:=dz ape.1;have apf:=dz hdd;have apg:=dz apf.1;have O:=dz apg.1;have s4:bp H3 H4:=λa o q=>by have n1:a≠x:=a5 q J.1;have n2:a≠ld:=a5 q Y.1;have n3:a≠dd:=a5 q O.1;have n4:a≠dx:=a5 q alh.1;have n5:a≠li:=a5 q hli;rw[h4o a n1 n2 n3,aE n1,aE n4,aE n5];rw[2105]
  have aph:H4 li=some #[ea]:=by rw[h4o li J.2.symm Y.2.symm O.2.symm,aE J.2.symm,aE alh.2.symm];rw[2040]
  have api:x≠dd:=λw=>by rw[w,h4d]at X;cases X
  have rx':C x=none:=I.role.free J.1;have atY:C dd=none:=I.role.free O.1
  let N:bj:=cp (cp C x (some .qi)) dd (some (.dict x))
  have rx1:N x=some .qi:=by show cp _ dd _ x=_;rw[bJ api,df]
  have rd1:N dd=some (.dict x):=df;have ro1:∀a,a≠x->a≠dd->N a=C a:=λa n1 n2=>by show cp _ dd _ a=_;rw[bJ n2,bJ n1]
  have apj:∀a r,C a=some r->N a=some r:=λa r q=>by let(o,w,_):=21 #[z2];rw[ro1 a (a5 w J.1) (a5 w O.1)];rw[2105]
  have apk:∀a o,H3 a=some o->C a=none->N a=none:=λa o q n=>by rw[ro1 a (a5 q J.1) (a5 q O.1)];exact n
  have rk1:dD N H4:=λa r q=>by
   by_cases w1:a=x
   ·subst w1;rw[rx1]at q;rw[2090];exact(aK _ X tr)
   by_cases w2:a=dd
   ·subst w2;rw[rd1]at q;rw[2090];exact(aK _ h4d #[O])
   rw[ro1 a w1 w2]at q;let(o,u,f):=21 #[z2];exact(aK o (s4 _ _ u) f)
  have free:∀a,H3 a=none->a≠x->a≠dd->N a=none:=λa n n1 n2=>by rw[ro1 a n1 n2];exact I.role.free n
  have bx:jP K N H4 x #[o3] #[bQ]:=by refine(rfl,Pe.bp.tup s4 hlk,?_,(aph,free li hli J.2.symm O.2.symm),(h4l,free ld Y.1 alj.2 apd),[],rd1,h4d,BF,(λ_ h=>by cases h),λ_ _=>rfl,(λ_ h=>by cases h));rw[adp];exact Pe.bp.tup s4 hlk
  have L:g'.ps=(A++b)++z::B:=hm.Nh;have amw:z∈g'.ps:=by rw[L];simp
  let(z1,z2,z3):=40 (I.nt z amw);have Z:z≠x:=a5 z2 J.1;have apl:g'.pv z∈g'.ps:=by
   have hr:=I.ring;rw[L]at hr;have:=(Path.app.mp hr).2.2.1;rw[1924];rcases xW g'.last (A++b)with⟨q,_⟩|q
   ·rw[q];rw[1942]
   ·rw[L];rw[1971]
  let(v1,v2,v3):=40 (I.nt _ apl);have nvx:g'.pv z≠x:=a5 v2 J.1;have ez:cp g'.pv x x z=g'.pv z:=bJ Z;refine(c4 _ _ X E7 (x5_ x z (cp g'.bd x #[o3]) (cp g'.nx x x) (cp g'.pv x x) (rfl,by rw[df,df,df];exact X,by rw[bJ Z,bJ Z,bJ Z];exact s4 _ _ z2,by rw[ez,bJ nvx,bJ nvx,bJ nvx];exact s4 _ _ v2,Z.symm,by rw[ez];exact nvx.symm,(λH5 h51 h52=> ?_))));rw[ez]at h51 h52
  (let(e5,D):=20 (I.enter L s4 apj apk rk1 J.1 rx1 bx h51 h52);let(aho,ahp,Jy):=21 D)
  have alk:=Jy.sl.2;have hlen:#[bW].length=g.sh.length+i:=by rw[aD,hm.esh,aM,aM,bE,bN,hnl];lia
  refine(jc _ _ _ Jy.d.2 T.bo T.cP (cX _ dc #[B8,alk] #[q]));have hgm:g'.sh.map V.ref=#[xl].map V.ref++#[r7].map V.ref:=by rw[hm.esh,bb]
  have hll:(#[xl].map V.ref).length=p+i:=by rw[aD,aM,bE,hnl];lia
  have apm:#[bW].take (p+i)++V.ref x::#[bW].drop (p+i)=#[j9].map V.ref:=by rw[hgm,<-hll,GO,GP];simp
  have hd6:=Jy.afp #[j9];refine(x3_ _ _ (p+i) (by rfl,rfl,alk,?_,?_,N,?_,?_))
  ·show p+i<=#[bW].length;rw[hlen];lia
  ·show #[bW].length<aS;rw[hlen];lia
  ·exact(e3.trans e5).trans #[Di,Jy.sl.1]
  show∃x_5:Gh,x_5.last=g.last/\∃x_6:List ae,x_6.length=i+1/\(∀a,a∈g.pre\/a=g.last->x_5.pc a=g.pc a)/\x_6.map x_5.pc=List.take (i+1) #[rY]/\Ng K t N (upd H5 g'.sl (.lst (#[bW].take (p+i)++V.ref x::#[bW].drop (p+i)))) d x_5 st _ _ _ _;rw[apm];have pcx:∀a,a≠x->cp g'.pc x #[bQ] a=g'.pc a:=λa n=>bJ n;have ahq:∀a,a∈g'.ps->a≠x:=λa m=>a5 (I.nt a m).2.1 J.1;have aln:∀c',#[lq].countP (λa=>dn c' #[kB])=(#[um].countP λa=>dn c' #[vV])+(if dn c' #[bQ]=true then 1 else 0):=λc'=>by
   have e9:A++(b++[x])++z::B=(A++b)++x::z::B:=by simp
   rw[e9,<-UZ (p:=x),df];congr 1;apply HW;intro a m;rw[pcx a (ahq a (by rw[L];exact m))]
  refine(aK _ ?_ (oZ (b++[x]) (by rw[aM,hnl];rfl) (λa m=> ?_) ?_ (hd6,?_,λ_ _=>rfl,?_,λc' h1 h2=> ?_,?_)))
  ·exact U
  ·have m:a∈g.ps:=by rcases m with q|q;rw[1971];exact a4.mpr (.inr (bh.mpr q))
   show cp g'.pc x #[bQ] a=_;have ha':a∈g'.ps:=by
    rw[L];rw[s]at m;rcases a4.mp m with q|q
    ·exact a4.mpr (.inl (a4.mpr #[l4]))
    ·exact a4.mpr (.inr q)
   rw[pcx a (ahq a ha')];exact G a m
  ·show(b++[x]).map #[uV]=_;rw[bb,<-gW,take_snoc hci,bb,<-P];have e1:b.map #[uV]=b.map g'.pc:=dO λa m=>pcx a (ahq a (by rw[L];simp[m]));rw[e1];show _++[cp g'.pc x #[bQ] x]=_;rw[df];rfl
  ·show aho++[g'.last]=_;rw[ahp];simp
  ·rfl
  ·show g'.cnt c'=_;rw[hm.cn c' h1 h2];have:=aln c';rw[OV,aV (show¬c'=st.changes.length+1 by lia),fJ]at this;show _=((#[lq].countP λa=>dn c' #[kB]:Nat):Int);rw[1924];rfl
  ·show _=#[lq].countP λa=>dn #[Q] #[kB];rw[aln,<-hm.R7,OV,aT rfl,Jb];cases st.tracking<;>simp
 ·(intro σ H' j;(let(C,g',b,w7,w8,w9,Zd,D):=7 j;let(rfl,e,U,hnl,G,P,hm):=120 D))
  simp[-ah,-aa,-ai,-aR,au,hm.d.2,rT,T.bo,T.hL,uE];rw[cy]at P;have Ut:#[um].map g'.pc=JM (DR st p ns) p st.row:=by
   rw[AE hg]
   conv=>rhs;rw[show JM (ns.map λc=>({sign:=c,look:=if c=10 then pU p st.row else mE p st.row,ins:=if st.tracking=true then[next st]else[]}:Piece)) p st.row=JM #[rY] p st.row from rfl,<-hd.row]
   rw[s,bb,bb,cB,bb,cB];have hv:p=(bT (A.map g.pc)).length:=by rw[<-acm,hA]
   conv=>rhs;rw[hv]
   rw[wR _ _ _ _ hzs,P,fz];have eA:A.map g'.pc=A.map g.pc:=dO λa m=>G a #[lN];have eB:B.map g'.pc=B.map g.pc:=dO λa m=>G a (by rw[s];exact a4.mpr (.inr (a9 _ m)));rw[eA,eB,G z ao8,<-hv]
  have fin:∀bc:Nat,bc=(if st.tracking=true then ns.length else 0)->Bu K t [V.ref d,V.int 1,V.int (bc:Int)] H' Q E0:=λbc hbc=>by
   rw[<-hbc]at hm;refine hm.done (kind:=1) #[f] ?_ λVl H3 g3 e4 hd3=> ?_
   ·rw[Fj,Fj,ao6,ao7];have eA:eW g'.pc A=eW g.pc A:=Ni λa m=>G a #[lN];have eB:eW g'.pc (z::B)=eW g.pc (z::B):=Ni λa m=>G a (by rw[s];exact a4.mpr (.inr m));have eN:eW g'.pc b=b:=by
     refine jy.mpr λa m=> ?_;have:g'.pc a∈b.map g'.pc:=ci.mpr (aK a m rfl);rw[P]at this;let(c,_,ec):=21 (ci.mp this);rw[<-ec];rfl
    rw[eA,eB,eN]
   ·rw[Ut]at hd3 ⊢;exact kk Vl H3 g3 (#[BS].trans (e.trans e4)) hd3
  cases htr:st.tracking with
  |true=>rw[aq rfl];refine #[CL,#[kH]];rw[bG];exact fin ns.length (by rw[htr,aq rfl])
  |false=>rw[am #[c]];exact fin 0 (by rw[htr,am #[c]])
abbrev adq(f:Nat->Bool):Sp:=λvs H Q _=>∃n:Nat,vs=#[qs]/\Q (.bl (f n)) H
def DH: #[1,t.hU,#[S],adq jq]:=by
 exists T.tY,Mu,"1";rw[1925];refine aK _ (aB (aW (zO kN kN #[BB] #[aq] (cN T.Ho)))) ?_;rw[1891];rw[1938];have e:jq n=(decide ((65:Int)<=n)&&decide ((n:Int)<=90)):=by unfold jq;rw[dr];simp;omega
 rw[2142];rw[1911]
def DI: #[1,t.hW,#[S],adq mi]:=by
 exists T.tZ,Mv,"1";rw[1925];refine aK _ (aB (aW (zO kN kN #[BA] #[aq] (cN T.Hq)))) ?_;rw[1891];rw[1938];have e:mi n=(decide ((97:Int)<=n)&&decide ((n:Int)<=122)):=by unfold mi;rw[dr];simp;omega
 rw[2142];rw[1911]
def alo:YP (n:Int)=d7 n:=by unfold YP d7;rw[dr];simp;omega
def Sd: #[2,t.kQ,#[S],adq tR]:=by
 exists T.Cw,Ri,"1";rw[1925];refine aK _ (aB (aW (Wz #[ne] (Wz #[ng] (W1 #[nf]))))) ?_;rw[1891];rw[1938];rw[2015];rw[alo];unfold tR at k;cases a:d7 n with
 |true=>rw[a]at k;rw[1898];exact k
 |false=>
  rw[a]at k;rw[1900];rw[2113];cases b:jq n with
  |true=>rw[b]at k;rw[1898];exact k
  |false=>rw[b]at k;rw[1900];exact(aK n rfl k)
abbrev ahr:Sp:=λvs H Q _=>∃n:Nat,vs=#[qs]/\Q (.int (fb n:Int)) H
def Wk: #[2,t.nR,#[S],ahr]:=by
 exists T.Gg,VA,"1";rw[1925];refine aK _ (aj (bX (dB #[ng]) (aB (aW (cV ji (cV rA #[aq] #[BA]) #[BB]))) bw) (aj (bX (dB #[nf]) (aB (aW (cV rA (cV ji #[aq] #[BA]) #[BB]))) bw) #[Cz,#[aq]])) ?_;rw[1891];rw[1938];rw[2113];unfold fb at k;cases b:jq n with
 |true=>rw[b,aq rfl]at k;rw[1898];rw[show((n:Int)+97-65)=((n+32:Nat):Int) by lia];exact k
 |false=>
  rw[b,am #[c]]at k;rw[1900];rw[2113];cases a:mi n with
  |true=>
   rw[a,aq rfl]at k;rw[1898];have c:97<=n:=by unfold mi at a;simp at a;simp_all
   rw[show((n:Int)-97+65)=((n-32:Nat):Int) by lia];exact k
  |false=>rw[a,am #[c]]at k;rw[1900];exact k
abbrev amx:Sp:=λvs H Q _=>∃n:Nat,vs=[.int ((n:Int)-1)]/\n<=1000000/\Q (.int #[wT]) H
def abL(h:n<=1000000):akM 1 (n:Int):=(by solve_by_elim,by
 have:Builtin.Int.intBits 1=1:=by decide
 rw[1924];have:(2:Int)^27=134217728:=by decide
 rw[1924];lia)
def HI: #[1,t.kX,#[vm],amx]:=by
 exists T.yd,Rl,"1";let(n,rfl,a,k):=541 h;refine aK _ (aB (aW (cV ji (cV Ud a6 (cV rA #[aq] a6)) a6))) ?_;rw[1891];rw[1938];refine #[y6];have b:0<2^n:=Lp n;have e:((2:Int)^n-1)=#[wT]:=by rw[P2];omega
 rw[e];exact k
abbrev ahs:Sp:=λvs H Q _=>∃n:Nat,vs=#[qs]/\n<=1000000/\Q (.int ((2^n:Nat):Int)) H
def EG: #[1,t.i6,#[ox],ahs]:=by exists T.vx,N4,"1";let(n,rfl,a,k):=541 h;refine aK _ (aB (aW (cV Ud a6 #[aq]))) ?_;dsimp only[b6,aZ,bC,bD,ak,aH,ay,az,aG,aJ,aO,aP];simp[-ah,au,-ai];refine #[y6];rw[P2];exact k
abbrev alp:Sp:=λvs H Q _=>∃b p:Nat,vs=[.int (b:Int),.int (p:Int)]/\Q (.bl (b.testBit p)) H
def Bv: #[1,t.kY,#[eL],alp]:=by
 exists T.uD,Rm,"2";let(b,p,rfl,k):=522 h;refine aK _ (aB (aW (eq_ gf (cV AA #[lj] a6) a6))) ?_;rw[1891];simp[-ah,au,-ai,uI];have a:Builtin.bitAnd ((b:Int)/2^p) 1=(((b/2^p)&&&1:Nat):Int):=by rw[Uc];exact Em _ 1
 have e:decide #[k8]=b.testBit p:=by rw[<-akv];refine decide_eq_decide.mpr ?_;rw[a];lia
 have k2:Q (.bl (decide #[k8])) H:=by rw[e];exact k
 exact k2
abbrev ads:Sp:=λvs H Q _=>∃a b:Nat,vs=[.int (a:Int),.int (b:Int)]/\Q (.int (wo a b:Int)) H
def yj: #[1,t.sS,#[fD],ads]:=by exists T.u5,acx,"2";let(a,b,rfl,k):=522 h;refine aK _ (aB (aW (cV ajY #[aq] (cV AA #[aq] #[aZ])))) ?_;dsimp only[b6,aZ,bC,bD,ak,aH,ay,az,aG,aJ,aO,aP];simp[-ah,au,-ai];rw[Em,aoC];exact k
abbrev ajy:Sp:=λvs H Q _=>∃b n:Nat,vs=[.int (b:Int),.int (n:Int)]/\Q (.int ((b/2^n:Nat):Int)) H
def En: #[1,t.nT,#[bj],ajy]:=by exists T.xt,VC,"2";let(b,n,rfl,k):=522 h;refine aK _ #[Cz,#[lj]] ?_;dsimp only[b6,aZ,bC,bD,ak,aH,ay,az,aG,aJ,aO,aP];simp[-ah,au,-ai];rw[Uc];exact k
abbrev amy:Sp:=λvs H Q _=>∃b:Nat,vs=[.int (b:Int),.int 1]/\b<2^1000000/\Q (.int #[wS]) H
def OW: #[1,t.qI,#[bj],amy]:=by
 exists T.E4,ZZ,"1";let(b,rfl,a,k):=541 h;refine aK _ (aB (aW (cV Ud #[aq] #[aZ]))) ?_;rw[1891];rw[1938];refine((by decide,?_),?_)
 ·have:=ac5 a;have e:(2:Int)^27=134217728:=by decide
  rw[e];lia
 ·rw[show((b:Int)*2)=#[wS] by lia];exact k
abbrev aht:Sp:=λvs H Q _=>∃b s:Nat,vs=[.int (b:Int),.int (s:Int)]/\(b/2^s=0->Q (.int (-1)) H)/\(∀j,WF (b/2^s) j->Q (.int #[C5,s]) H)
def Wl: #[2,t.nU,#[jN],aht]:=by
 exists T.Gm,Eg,"2";let(b,a,rfl,k0,k1):=542 h;refine aK _ (aj (bQ 2 Eg.nd #[lj]) (aj (bX #[xp] #[Do,T.DA] bw) (aj (bQ 3 Eg.nd (d5 hr (yj T) T.xr T.u5 (ag #[bG] #[Cw,#[oi]]))) (aB (aW (cV ji (cV rA #[aZ] (ae4 #[dy])) a6)))))) ?_;rw[1891];simp[-ah,au,-ai,uI];rw[Uc];by_cases h:b/2^a=0
 ·rw[aq (by rw[h];rfl)];exact k0 h
 ·rw[1934];let(j,c):=1 (Xy h);generalize d:b/2^a=q at h c;rw[d]at k1;refine(fi q (q-1) (by rw[show(q:Int)-1=#[C4,q] by lia]) ?_);rw[aiX c];refine(gU rfl _ rfl ?_);rw[aaI];rw[show((a:Int)+#[y2]-1)=#[C5,a] by lia];exact k1 j c
nonrec abbrev posOf (cO:bB) (c:Nat):Nat:=bits (λp=>decide (cO[p]?=some c)) cO.length
structure zh(o5:List #[iS])(cO:bB):Prop where
 val:∀c:Nat,(iL o5 #[gi]).getD #[gU]= .int (posOf cO c:Int)
 key:∀kv∈o5,∃c:Nat,kv.1=Sum.inl (c:Int)
 len:o5.length<=cO.length
 all:∀c:Nat,c∈cO->∃v,((#[sq]),v)∈o5
structure Ze(t:cI)(H:Hp)(x:ae)(ps:List ae)(cO:bB):Prop where
 ob:∃dx lp dd o5,H x=some #[kU]/\H lp=some #[T]/\Rd H dd #[tj]/\zh o5 cO
def adt(cO:bB)(c a:Nat):posOf #[Bv] a=if a=c then posOf cO a|||2^cO.length else posOf cO a:=by
 apply xH;intro p;rw[p6];have e:#[Bv][p]?=if p<cO.length then cO[p]? else if p=cO.length then some c else none:=by
  rw[1988]
  ·rw[aq h,oO h]
  ·rw[am h];by_cases b:p=cO.length
   ·rw[aq b,b,fh #[gw],pF];rfl
   ·rw[am b,eT (by rw[aM];simp;lia)]
 rw[e,aM]
 have tb:(if a=c then posOf cO a|||2^cO.length else posOf cO a).testBit p=((decide (p<cO.length)&&decide (cO[p]?=some a))||(decide (a=c)&&decide (p=cO.length))):=by
  split
  ·rename_i h;rw[rY,p6,yY,aT h,Dl];congr 1;exact decide_eq_decide.mpr eq_comm
  ·rename_i h;rw[p6,aV h,ma,zj]
 rw[tb];rw[1988]
 ·rw[aq h,aT h,aT (show p<cO.length+[c].length by simp;solve_by_elim),aV (show¬p=cO.length by lia)];simp
 ·rw[am h,aV h];by_cases b:p=cO.length
  ·rw[aq b,aT b,aT (show p<cO.length+[c].length by simp;simp_all)];have:decide (some c=some a)=decide (a=c):=decide_eq_decide.mpr (λz=>(dm.inj z).symm,λz=>by rw[z]);rw[1924];simp
  ·rw[am b,aV b];simp
def ajz{k:Key}{a:Key×V}(h:a∈putK o5 k v):a.1=k\/a∈o5:=by
 unfold putK at h;split at h
 ·let(x,b,rfl):=21 (ci.mp h);by_cases z:x.1=k
  ·rw[aq z];exact .inl z
  ·rw[am z];exact .inr b
 ·rcases a4.mp h with h|h
  ·rw[1923]
  ·rw[bh.mp h];exact .inl rfl
def zh.put(h:zh o5 cO)(c:Nat):zh #[rV] #[Bv]:=by
 refine(λa=> ?_,λb f=> ?_,?_,λa g=> ?_)
 ·rw[Xm,adt];by_cases z:a=c
  ·subst z;rw[aq rfl,aq rfl];rfl
  ·rw[am (λw=>z #[on]),am z];exact h.val a
 ·rcases ajz f with e|e
  ·exact(c,e)
  ·exact h.key b e
 ·have:=C1 o5 #[gi] #[c3];have:=h.len;rw[aM];simp;lia
 ·have:∃v,iL #[rV] #[wo]=some v:=by
   rw[Xm];by_cases z:a=c
   ·subst z;exact(_,aq rfl)
   ·rw[am (λw=>z #[on])];have hm:a∈cO:=by
     rcases a4.mp g with q|q
     ·rw[2105]
     ·exact absurd (bh.mp q) z
    let(v,d):=1 (h.all a hm);cases e:iL o5 #[wo]with
    |some v=>exact(v,rfl)
    |none=>exact absurd (ci.mpr (aK _ d rfl)) (agF e)
  let(v,d):=1 this;unfold iL at d;let(b,j,l):=21 (dX.mp d);have k:=yw j;have i:=List.find?_some j;have i:b.1=Sum.inl (a:Int):=eo i;exact(b.2,by rw[<-i];exact k)
abbrev Se(t:cI):Sp:=λvs H Q _=>∃(x:ae) (c:Nat) (ps:List ae) (cO:bB),vs=[.ref x,.int (c:Int)]/\Ze t H x ps cO/\Q (.int (posOf cO c:Int)) H
def lu: #[1,t.ee,#[kj],Se t]:=by exists T.gq,Cp,"4";let(x,c,ps,d,rfl,e,k):=544 h;refine aK _ (aB (aW (Xr #[BM] #[i] #[aZ] a6 (rfl,rfl,rfl,rfl)))) ?_;dsimp only[b6,aZ,bC,bD,ak,aH,ay,az,aG,aJ,aO,aP];let(dx,i,dd,a,f,j,b,g):=64 (e.ob);simp[-ah,-aa,-ai,-aR,au,f,T.cE,T.dh,ig];refine(gU (.inl (_,b)) _ (.inl (c4 a #[gi] b rfl rfl)) ?_);rw[g.val c];exact k
abbrev Qe(t:cI):Sp:=λvs H Q _=>∃(x:ae) (ps:List ae) (cO:bB),vs=#[vk]/\Ze t H x ps cO/\ps.length<=1000000/\Q (.int ((2^ps.length-1:Nat):Int)) H
def tV: #[2,t.dU,#[az],Qe t]:=by exists T.k8,BP,"3";let(x,ps,a,rfl,b,hz,k):=563 h;refine aK _ (aB (aW (d5 hr (HI T) T.CA T.yd (ag (cV ji #[fP] a6) aw)))) ?_;dsimp only[b6,aZ,bC,bD,ak,aH,ay,az,aG,aJ,aO,aP];let(dx,f,dd,c,d,e,g,i):=64 (b.ob);simp[-ah,-aa,-ai,-aR,au,d,T.cE,T.eg,mK];refine(eU _ (.inl #[wf]) ps.length ?_ hz k);rw[aD]
abbrev kj(cO:bB):Nat:=bits (λp=>(cO[p]?).any tR) cO.length
abbrev Oq(t:cI):Sp:=λvs H Q _=>∃(x:ae) (ps:List ae) (cO:bB),vs=#[vk]/\Ze t H x ps cO/\(∃dx lp dd o5,H x=some #[kU]/\H lp=some #[T]/\H dd=some #[tj]/\zh o5 cO)/\Q (.int (kj cO:Int)) H
def tD: #[3,t.dM,#[az],Oq t]:=by
 exists T.j9,jH,"3"
 (let(x,ps,f,rfl,_,d,k):=563 h;let(dx,C,dd,e,K,L,A,D):=64 d)
 refine aK _ (aj (bQ 1 jH.nd a6) (aj (abm (iz PassesOwn.never rfl (aiT #[i]) (o6 2 jH.nd) (aB (bX (dB (d5 hr (Sd T) T.Jp T.Cw #[C])) (aB (Bl 1 jH.nd #[Cn,#[C]] Ky)) bw)))) #[cc])) ?_;rw[1891];rw[1892];refine(c4 dd _ A trivial (λs=> ?_));have E:x≠dd:=dt K A #[b];have F:C≠dd:=dt L A #[b];have r:upd H dd #[kS] x=some (.ins t.dP dx (dS #[dz] (.ref dd))):=by rw[aE E];exact K
 have N:Ze t #[w5] x ps f:=(dx,jc C dd e r (by rw[aE F];exact L) (.inr (s,ao)) D);refine bZ _ _ _ r T.cE T.dh _ ig (fi _ _ rfl (.inl (aK _ ao ?_)));refine yi (n:=e.length) (λi u H'=>H'=upd H dd #[kS]/\∃(b:Nat) (v:Option V),u=[some #[lp],some (V.int (b:Int)),v]/\∀p:Nat,b.testBit p=true↔∃c:Nat,f[p]?=some c/\tR c=true/\#[sq]∈(e.take i).map (·.1)) (rfl,fi 0 _ rfl (λp=> ?_)) ?_ ?_ ?_ ?_
 ·rw[jw,oo];simp
 ·(intro i u H' M g;let(rfl,_):=20 g)
  exact(ao,M)
 ·(intro u H' g;let(rfl,_):=20 g)
  exact #[Ao]
 ·(intro i u H' M g;(let(rfl,d):=20 g;let(b,v,rfl,B):=22 d);intro y R G;(let(rfl,d):=20 G;let(O,S,w,rfl):=22 d))
  let(c,I):=1 (D.key _ (bO w));have I:O=Sum.inl (c:Int):=I;subst I;have step:∀p:Nat,(∃j:Nat,f[p]?=some j/\tR j=true/\#[j2]∈(e.take (i+1)).map (·.1))↔(∃j:Nat,f[p]?=some j/\tR j=true/\#[j2]∈(e.take i).map (·.1))\/(f[p]?=some c/\tR c=true):=λp=>by
   rw[take_snoc w,bb];constructor
   ·(intro d;let(j,m,o,l):=41 d)
    rcases a4.mp l with l|l
    ·exact .inl (j,m,o,l)
    ·have l:#[j2]=Sum.inl (c:Int):=bh.mp l;have:j=c:=by injection l with l;lia
     rw[1936];exact .inr (m,o)
   ·rintro(⟨j,m,o,l⟩|⟨m,o⟩)
    ·exact(cX j m o #[Dh,l])
    ·exact(cX c m o #[lU])
  simp[-ah,-aa,-ai,-aR,au,kV];refine #[Cv,c];cases hw:tR c with
  |true=>
   rw[1898];refine(c4 _ _ r iD (lj x c ps f rfl N ?_));refine(cX _ rfl rfl (aK (b|||posOf f c) ?_ (λp=> ?_)))
   ·exact RM _ _
   ·rw[<-gW,rY,oE,B,p6,step p,hw];refine or_congr Iff.rfl ?_;rw[bK,eh,eh];exact(λz=>(z.2,rfl),λz=>(jY z.1,z.1))
  |false=>rw[am #[c]];refine(gU rfl b rfl (λp=> ?_));rw[<-gW,B,step p,hw];simp
 ·(intro u H' g;(let(rfl,d):=20 g;let(b,v,rfl,B):=22 d))
  refine(ao,?_);have P:upd #[w5] dd (.dK e)=H:=by
   funext a;by_cases z:a=dd
   ·subst z;rw[ao];exact A.symm
   ·rw[aE z,aE z]
  rw[P];have:b=kj f:=FX λp=>by
   rw[dr,B,cy,bK,eh];constructor
   ·(intro d;let(c,m,o,_):=41 d)
    exact(jY m,by rw[m];exact o)
   ·(intro d;let(J,q):=20 d)
    rw[aN J]at q;let(v,Q):=1 (D.all f[p] (yq J));exact(cX _ (aN J) q (ci.mpr (aK _ Q rfl)))
  rw[1924];exact k
abbrev Bw(t:cI)(H:Hp)(x:ae)(ps:List ae)(cO:bB):Prop:=∃dx lp dd o5,H x=some #[kU]/\H lp=some #[T]/\H dd=some #[tj]/\zh o5 cO
def Bw.at{x:ae}{ps:List ae}(h:Bw t H x ps cO):Ze t H x ps cO:=by let(dx,b,dd,a,c,d,e,f):=64 h;exact(dx,jc b dd a c d #[oY] f)
abbrev Nj(t:cI):Sp:=λvs H Q _=>∃(x:ae) (ps:List ae) (cO:bB),vs=#[vk]/\Bw t H x ps cO/\cO.length<=1000000/\Q (.int (wo (kj cO) #[vP]:Int)) H
def Sf(h:cO.length<=1000000):kj cO<2^1000000:=dj (ai3 _ _) (Nat.pow_le_pow_right #[c] h)
def Au: #[4,t.dC,#[az],Nj t]:=by exists T.n9,so,"3";let(x,ps,a,rfl,b,hz,k):=563 h;refine aK _ (aj (bQ 1 so.nd #[ky]) (aB (aW (d5 hr (yj T) T.xr T.u5 (ag #[aZ] #[Cw,#[hB]]))))) ?_;dsimp only[b6,aZ,bC,bD,ak,aH,ay,az,aG,aJ,aO,aP];have c:=b;let(dx,f,dd,d,e,g,i,j):=64 c;simp[-ah,-aa,-ai,-aR,au,e,tm];refine(jc x ps a rfl b.at b (cX (kj a) rfl (Sf hz) (fi (kj a) _ rfl k)))
abbrev Zf(t:cI):Sp:=λvs H Q _=>∃(x:ae) (ps:List ae) (cO:bB),vs=#[vk]/\Bw t H x ps cO/\cO.length<=1000000/\Q (.int (wo #[vP] (kj cO):Int)) H
def Fk: #[4,t.eJ,#[az],Zf t]:=by exists T.rR,wx,"3";let(x,ps,a,rfl,b,hz,k):=563 h;refine aK _ (aj (bQ 1 wx.nd #[ky]) (aB (aW (d5 hr (yj T) T.xr T.u5 (ag #[hB] #[J]))))) ?_;dsimp only[b6,aZ,bC,bD,ak,aH,ay,az,aG,aJ,aO,aP];have c:=b;let(dx,f,dd,d,e,g,i,j):=64 c;simp[-ah,-aa,-ai,-aR,au,e,tm];refine(jc x ps a rfl b.at b (cX (kj a) rfl (Sf hz) (fi _ (kj a) rfl k)))
abbrev Zg(pc:ae->SF)(ps:List ae)(k v:Nat):Nat:=bits (λp=>(ps[p]?).any λa=>decide #[kv]) ps.length
abbrev ajA(K:aA)(t:cI):Sp:=λvs H Q _=>∃(x:ae) (ps:List ae) (cO:bB) (pc:ae->SF) (k v:Nat),vs=#[Cr,x]/\Bw t H x ps cO/\k<4/\ps.length<=1000000/\#[c5]/\∀H',bp H H'->Q (.int (Zg pc ps k v:Int)) H'
def Vn{f:Nat->Bool}:bits f (n+1)=bits f n|||(if f n=true then 2^n else 0):=rfl
def yk: #[2,t.cW,#[bZ],ajA K t]:=by
 exists T.lH,fk,"6"
 (let(x,ps,I,pc,k,v,d):=506 h;let(rfl,J,L,hz,q,M):=100 d)
 refine aK _ (aj (bQ 3 fk.nd a6) (aj (iz PassesOwn.never rfl #[oQ] (QG rfl (wN (o6 4 fk.nd) (wN (o6 5 fk.nd) Nw))) (aB (bX (f7 gf (o7 (bH (pv 5)) #[aZ]) #[bG]) (aB (Bl 3 fk.nd (d5 hr (EG T) T.z6 T.vx #[bS]) Ky)) bw))) #[cm])) ?_;rw[1891];let(dx,N,dd,O,P,m,U,W):=64 J;refine bZ _ _ _ P T.cE T.eg _ mK (c4 N _ rfl (a8.of m) ?_);refine yi (n:=ps.length) (λi g H'=>bp H H'/\∃(r s:Option V),g=[some #[lp],some #[eu],some #[kL],some (V.int (bits (λp=>(ps[p]?).any λa=>decide #[kv]) i:Int)),r,s]) (bp.refl H,x2_ _ _ rfl) ?_ ?_ ?_ ?_
 ·(intro i g H' E c;let(e,_):=20 c)
  exact(fi _ _ #[nv] (aN (by rw[aD];exact E)))
 ·(intro g H' c;let(e,_):=20 c)
  exact(aK _ #[nv] #[rA])
 ·(intro i g H' E c;(let(e,d):=20 c;let(r,s,rfl):=2 d);intro y Q u;let(w,c0,rfl,A,rfl,B):=62 u)
  have C:=B _ #[nv];let(a,F,rfl):=21 (iU C);have j:=e.trans (a3 A (o:= .tup #[f1]));let(b,X,nx,R,S):=23 (q a (bO F));have f:upd H' w #[uo] w=some #[uo]:=ao;generalize upd H' w #[uo]=Q at j f;refine(xx _ _ rfl (cK.of f) rfl #[lK]);have l:uZ #[vJ] (k:Int)=some (.int (jQ #[oa] k:Int)):=oq (by rw[jd,qp L];rfl);simp[-ah,-aa,-ai,-aR,au,j _ _ R,T.b8,T.ef,jb];refine(eU _ (Pe.bp.tup j S) _ l rfl ?_);have G:((ps[i]?).any λa=>decide #[kv])=decide #[kv]:=by rw[F];rfl
  by_cases D:jQ #[oa] k=v
  ·rw[aq (by rw[D])];refine(cX i rfl #[f] (cX _ rfl j ?_));rw[Vn,G,aT D,aq rfl];exact RM _ _
  ·rw[1953];refine(j,?_);rw[Vn,G,aV D,am #[c],Nat.or_zero]
 ·(intro g H' c;(let(e,d):=20 c;let(r,s,rfl):=2 d))
  exact M H' e
def alq(f:Fit):lz f=Ki f:=by cases f<;>rfl
abbrev OX(x:Nat×Nat)(c:Nat):Bool:=decide (x.1<=c)&&decide (c<=x.2)
def aaQ(a:Bool)(l:List #[aw])(x:Nat×Nat)(c:Nat):listed a (l++[x]) c=(listed a l c||(OX x c||(a&&OX x (fb c)))):=by
 have h:∀c,pV (l++[x]) c=(pV l c||OX x c):=λc=>by unfold pV OX;rw[List.any_append];simp
 unfold listed;rw[h,h];cases pV l c<;>cases pV l (fb c)<;>cases OX x c<;>cases OX x (fb c)<;>cases a<;>rfl
abbrev OY(b:Bool)(a j c:Nat):Bool:=(decide (a<=c)&&decide (c<a+j))||(b&&(decide (a<=fb c)&&decide (fb c<a+j)))
def Zh(b:Bool)(a j c:Nat):OY b a (j+1) c=(OY b a j c||(decide (c=a+j)||(b&&decide (fb c=a+j)))):=by
 have h:∀d:Nat,(decide (a<=d)&&decide (d<a+(j+1)))=((decide (a<=d)&&decide (d<a+j))||decide (d=a+j)):=λd=>by rw[dr];simp;lia
 unfold OY;rw[h,h];generalize(decide (a<=c)&&decide (c<a+j))=u;generalize(decide (a<=fb c)&&decide (fb c<a+j))=v;cases u<;>cases v<;>cases decide (c=a+j)<;>cases decide (fb c=a+j)<;>cases b<;>rfl
def ahu(a:Bool)(x:Nat×Nat)(c:Nat):OY a x.1 (x.2+1-x.1) c=(OX x c||(a&&OX x (fb c))):=by
 have h:∀d:Nat,(decide (x.1<=d)&&decide (d<x.1+(x.2+1-x.1)))=OX x d:=λd=>by unfold OX;rw[dr];simp;omega
 unfold OY;rw[h,h]
nonrec abbrev km (cO:bB) (f:Nat->Bool):Nat:=bits (λp=>(cO[p]?).any f) cO.length
def Vo(cO:bB)(f g:Nat->Bool):km cO f|||km cO g=km cO λc=>f c||g c:=FX λp=>by rw[rY,p6,p6,<-Bool.and_or_distrib_left];congr 1;cases cO[p]?<;>rfl
def KL(cO:bB)(c:Nat):posOf cO c=km cO λd=>decide (d=c):=FX λp=>by
 rw[p6];congr 1;cases cO[p]? with
 |none=>simp
 |some d=>simp
def xD{f g:Nat->Bool}(h:∀c,f c=g c):km cO f=km cO g:=by have:f=g:=funext h;rw[this]
def ahv{c d:Nat}:decide (d=fb c)=decide (fb d=c):=decide_eq_decide.mpr (λh=>by rw[h,OH],λh=>by rw[<-h,OH])
abbrev alr(t:cI):Sp:=λvs H Q _=>∃(x u:ae) (a:Bool) (ps:List ae) (cO:bB) (f:Fit) (N:ae->Prop),vs=[.ref x,.ref u,.bl a]/\Bw t H x ps cO/\ps.length=cO.length/\cO.length<=1000000/\lA t N H u f/\NK f/\Q (.int (km cO (qY a f):Int)) H
def afC(h:NK f):∀x∈(lz f).2,x.1<=126/\x.2<=126:=by
 cases f with
 |sign c=>intro x a;have:=bh.mp a;rw[1936];exact(h,h)
 |any=>intro x a;cases a
 |set d l=>exact λx a=>(h x a).2
def yV: #[3,t.c8,#[hD],alr t]:=by
 exists T.l8,eP,"7"
 (let(x,u,b,ps,d,f,N,e):=507 h;let(rfl,q,s,hz,Q,L,k):=120 e)
 refine aK _ (aj (bQ 3 eP.nd a6) (aj (iz PassesOwn.never rfl (gX #[ct]) (o6 4 eP.nd) (aB (iz PassesOwn.never rfl (adT rfl T.range (ag #[b9] (ag (cV rA #[b9] a6) aw))) (o6 5 eP.nd) (aj (Bl 3 eP.nd #[Cn,#[cE]] Ky) (aB (bX (dB #[bG]) (aB (Bl 3 eP.nd (nq hr #[aq] T.cE T.fg (lu T) T.gq (ag (d5 hr (Wk T) T.MC T.Gg #[cE]) aw)) Ky)) bw)))))) (aj (bX (fj (dB #[ct])) #[cm] bw) (aB (aW (d5 hr (yj T) T.xr T.u5 (ag (eM hr #[aq] T.cE T.iC (tV T) T.k8) (ag (cV ah0 #[dy] #[Cn,#[BF]]) aw)))))))) ?_;rw[1891];let(X,l,M,_,v,w,z):=63 Q;have sm:=afC L;have E:=q;let(dx,Y,dd,R,D,Z,h3,h4):=64 E;have m:(2:Int)^62=4611686018427387904:=by decide
 refine bZ _ _ _ v T.FB T.rJ _ pN #[Cm,w];refine zN (K:=K) (a:=l) (xs:=M.map V.ref) (λi o H'=>H'=H/\∃F n,o=[some #[lp],some (V.ref u),some (V.bl b),some (V.int (km d (listed b #[gq]):Int)),F,n]) (rfl,x2_ none none ?_) ?_ ?_ ?_
 ·have:km d (listed b (#[vO].2.take 0))=0:=(FX λp=>by
   rw[jw,oo];have:∀c,listed b [] c=false:=λc=>by unfold listed pV;cases b<;>rfl
   cases d[p]?<;>simp[this]).symm
  rw[1924];rfl
 ·(intro i o H' _ g;let(rfl,_):=20 g)
  exact a8.of w
 ·(intro i y o H' S g;(let(rfl,e):=20 g;let(F,n,rfl):=2 e))
  let(r,hr,rfl):=21 (iU S);let(st,A,G):=21 (iZ z hr);have O:=sm st (bO A);have tk:=take_snoc A;have P:cK K H' r [.int #[x9],.int (st.2:Int)]:=cK.of G;have B:(((st.2:Int)+1)-#[x9]).toNat=st.2+1-st.1:=by simp_all
  refine(a7 _ P _ rfl (a7 _ P _ rfl (c4 _ _ rfl (o3 (by rw[m];solve_by_elim) #[qW] #[qW] #[qW]) ?_)));rw[B];refine adV (Pv:=λj o I=>I=H'/\∃n,o=[some #[lp],some (V.ref u),some (V.bl b),some (V.int (km d (λc=>listed b #[gq] c||OY b st.1 j c):Int)),some (V.ref r),n]) (rfl,n,?_) ?_ ?_
  ·have:km d (λc=>listed b #[gq] c||OY b st.1 0 c)=km d (listed b ((lz f).2.take i)):=xD λc=>by
    have:OY b st.1 0 c=false:=by unfold OY;simp<;>lia
    rw[this,zj]
   rw[1924];rfl
  ·(intro j o I hj g;(let(rfl,e):=20 g;let(n,rfl):=1 e))
   have U:V.int (#[x9]+(j:Int))=V.int #[C5,st.1]:=by rw[Int.natCast_add]
   rw[U];simp[-ah,-aa,-ai,-aR,au,D,iD];refine(lj x (st.1+j) ps d rfl q.at #[q]);rw[RM,KL,Vo];cases b with
   |false=>rw[am #[c]];rw[1899];congr 1;refine xD λc=> ?_;rw[Zh,O5];simp
   |true=>rw[aq rfl];refine(c4 _ _ D iD (aK (st.1+j) rfl (lj x (fb (st.1+j)) ps d rfl q.at #[ep])));rw[RM,KL,Vo];congr 1;refine xD λc=> ?_;rw[Zh,ahv,O5,O5];simp
  ·(intro o I g;(let(rfl,e):=20 g;let(n,rfl):=1 e))
   refine(rfl,x2_ #[Dc,#[wm]] n ?_);have:km d (λc=>listed b #[gq] c||OY b st.1 (st.2+1-st.1) c)=km d (listed b ((lz f).2.take (i+1))):=xD λc=>by rw[ahu,tk,aaQ]
   rw[1924]
 ·(intro o H' g;(let(rfl,e):=20 g;let(F,n,rfl):=2 e))
  have W:#[C8,M.map].length=#[vO].2.length:=by rw[aD];rw[2151]
  rw[W,cy];simp[-ah,-aa,-ai,-aR,au,v,T.FB,T.vM,Rw];have key:∀c,qY b f c=if #[vO].1=true then !(listed b #[vO].2 c||decide (c=10))else listed b (lz f).2 c:=λc=>by rw[alq];exact ZU L c
  cases C:#[vO].1 with
  |false=>
   simp;have:km d (qY b f)=km d (listed b #[vO].2):=xD λc=>by rw[key,C];rfl
   rw[this]at k;exact k
  |true=>
   simp[-ah,-aa,-ai,-aR,au,D,iD,tU];refine(jc x ps d rfl q.at #[f] (c4 _ _ D iD (lj x 10 ps d rfl q.at (aK _ rfl (fi #[yX] #[jo] (by rw[<-RM]) ?_)))))
   have:wo #[yX] #[jo]=km d (qY b f):=FX λp=>by
    rw[J7,acg,rY,KL,p6,p6,s];by_cases J:p<d.length
    ·rw[aT J,aN J];show(true&& !(true&&listed b #[vO].2 d[p]||true&&decide (d[p]=10)))=(true&&qY b f d[p]);rw[key,C];rfl
    ·rw[aV J];rfl
   rw[1924];exact k
def ajB:WM (λxs H Q=>∃p,xs=[V.ref p]/\∃x,(a8 K H p x\/cK K H p x)/\Q (V.int x.length) H):=λ_ _ _ _ m z=>e1_1 z λp a z=>e1_1 z λys b q=>(a7 p a ys b #[jQ])
abbrev Zi(t:cI):Sp:=λvs H Q _=>∃(c dx:ae) (v0 v1:V),vs=[.ref c,v0,v1]/\H c=some #[Ct,t.Step]/\Q .cG (upd H c (.ins t.Step dx #[kq]))
def Bx: #[1,t.px,#[d4],Zi t]:=by exists T.vV,XY,"4";let(c,dx,b,d,rfl,a,k):=544 h;refine aK _ #[jZ] ?_;dsimp only[b6,aZ,bC,bD,ak,aH,ay,az,aG,aJ,aO,aP];simp[-ah,-aa,-aR,au,a,T.qc,T.mZ,T.rL,ao,d8,acG,acH];exact k
abbrev Wm(t:cI):Sp:=λvs H Q _=>∃(c dx:ae) (v0 v1 v2:V),vs=[.ref c,v0,v1,v2]/\H c=some #[Ct,t.Match]/\Q .cG (upd H c (.ins t.Match dx #[hI]))
def Wn: #[1,t.nV,#[cO],Wm t]:=by
 exists T.Gn,VD,"5"
 (let(c,dx,d,e,f,a):=505 h;let(rfl,b,k):=40 a)
 refine aK _ (aj #[cV] (aj #[cY] (aB #[g6]))) ?_;rw[1891];simp[-ah,-aa,-aR,au,b,T.iA,T.jn,T.kJ,T.ri,ao,d8,aab,aac,aad];exact k
abbrev DJ(t:cI)(H:Hp)(a:ae)(st:Nat)(mv:List #[aw]):Prop:=∃(dx l:ae) (rs:List ae),H a=some #[iq]/\H l=some #[ax]/\ll H rs mv
abbrev sj(t:cI)(N:ae->Prop)(H:Hp)(a:ae)(st:Nat)(mv:List #[aw]):Prop:=∃(dx l:ae) (rs:List ae),N l/\H a=some #[iq]/\H l=some #[ax]/\ll H rs mv
def sj.at{N:ae->Prop}{a:ae}{st:Nat}(h:sj t N H a st mv):DJ t H a st mv:=by let(dx,l,b,_,c,d,e):=63 h;exact(CF dx l b c d e)
def sj.mono{N:ae->Prop}{a:ae}{st:Nat}(h:sj t N H a st mv)(m:∀l,N l->N' l):sj t N' H a st mv:=by let(dx,l,b,h0,c,d,e):=63 h;exact(jc dx l b (m l h0) c d e)
def ll.same(s:bp H H'){l:List #[aw]}(h:ll H rs l):ll H' rs l:=h.keep λb xs q=>s _ _ q
def DJ.same{a:ae}{st:Nat}(h:DJ t H a st mv)(s:bp H H'):DJ t H' a st mv:=by let(dx,l,b,c,d,e):=43 h;exact(CF dx l b (s _ _ c) #[AG] (e.same s))
def sj.same{N:ae->Prop}{a:ae}{st:Nat}(h:sj t N H a st mv)(s:bp H H'):sj t N H' a st mv:=by let(dx,l,b,h0,c,d,e):=63 h;exact(jc dx l b h0 (s _ _ c) #[AG] (e.same s))
def sj.off{a ls:ae}{st:Nat}(h:sj t (λl=>l≠ls) H a st mv)(c:H ls=some #[ai]):sj t (λl=>l≠ls) (upd H ls o) a st mv:=by let(dx,l,e,h0,d,f,g):=63 h;exact(jc dx l e h0 (by rw[aE (dt d c #[b])];exact d) (by rw[aE h0];exact f) (g.keep λb xs q=>by rw[aE #[Bn]];exact q))
abbrev Wo(t:cI):Sp:=λvs H Q _=>∃(a:ae) (st:Nat) (mv:List (Nat×Nat)),vs=#[jv]/\DJ t H a st mv/\∀G:Nat,(∀s,G.testBit s=true↔st.testBit s=true\/∃k S,((k),S)∈mv/\S.testBit s=true)->Q #[Aa] H
def Nk: #[1,t.h9,#[az],Wo t]:=by
 exists T.yT,sQ,"3";let(a,st,n,rfl,x,z):=543 h;refine aK _ (aj (bQ 1 sQ.nd #[i]) (aj (iz PassesOwn.never rfl #[vS] (o6 2 sQ.nd) (aB (Bl 1 sQ.nd #[hL] Ky))) #[cc])) ?_;rw[1891];let(dx,l,o,p,u,w):=43 x;simp[-ah,-aa,-ai,-aR,au,p,T.qc,T.mZ,vA];refine bZ _ _ _ p T.qc T.rL _ CD #[Cm,u];refine zN (K:=K) (a:=l) (xs:=o.map V.ref) (λi e H'=>H'=H/\∃(G:Nat) (v:Option V),e=[some #[sp],some #[pF],v]/\∀s,G.testBit s=true↔st.testBit s=true\/∃k S,((k),S)∈n.take i/\S.testBit s=true) (rfl,fi st none rfl (λs=>by simp)) ?_ ?_ ?_
 ·(intro i e H' _ b;let(rfl,_):=20 b)
  exact a8.of u
 ·(intro i y e H' A b;(let(rfl,c):=20 b;let(G,v,rfl,f):=22 c))
  let(r,hr,rfl):=21 (iU A);let(m,hm,j):=21 (iZ w hr);have B:cK K H' r #[fx]:=cK.of j;rw[1892];refine(a7 _ B _ rfl (a7 _ rfl (G|||m.2) (RM _ _) (λs=> ?_)));rw[rY,oE,f,take_snoc hm];constructor
  ·rintro((q|⟨k,S,d,g⟩)|q)
   ·rw[2118]
   ·exact .inr (fi k S #[Dh,d] g)
   ·exact .inr (fi m.1 m.2 #[lU] q)
  ·rintro(q|⟨k,S,d,g⟩)
   ·exact .inl #[l4]
   ·rcases a4.mp d with d|d
    ·exact .inl (.inr (k,S,d,g))
    ·have:=bh.mp d;rw[1936];exact .inr g
 ·(intro e H' b;(let(rfl,c):=20 b;let(G,v,rfl,f):=22 c))
  have C:#[C8,o.map].length=n.length:=by rw[aD];exact Paired.length w
  rw[C,cy]at f;exact z G f
abbrev runN(b:Nat):Nat->Nat
 |0=>b
 |j+1=>b&&&#[zl]
def afD(b:Nat):∀(j s:Nat),(runN b j).testBit s=true↔∀i,i<=j->b.testBit (s+i)=true
 |0,s=>by show b.testBit s=true↔_;exact(λh i c=>by(obtain rfl:i=0:=by lia);exact h,λh=>h 0 #[gw])
 |j+1,s=>by
  show(b&&&#[zl]).testBit s=true↔_;rw[oF,bK,Fy,afD b j];constructor
  ·(intro a;let(d,e):=20 a;intro i c)
   cases i with
   |zero=>exact d
   |succ i=>have:=e i #[j];rwa [show 1+s+i=s+(i+1) by lia]at this
  ·intro h;exact(h 0 #[f],λi c=>by have:=h (i+1) #[j];rwa [show s+(i+1)=1+s+i by lia]at this)
abbrev adu(K:aA):Sp:=λvs H Q _=>∃b:Nat,vs=[.int (b:Int)]/\∀H' l,bp H H'->H l=none->H' l=some #[Da,#[f7]]->Q #[co] H'
def adv: #[2,t.sU,#[rP],adu K]:=by
 exists T.MG,Rn,"1";let(b,rfl,f):=521 h;refine aK _ (aj (bQ 1 Rn.nd (cf #[y])) (aj (ry PassesOwn.never (f7 zo #[xb] #[Bw]) (aB (c9 (hR bi bR bS fE #[aZ] (ag (cV AA #[aq] (d5 hr (En T) T.Bb T.xt (ag #[n6] #[yE]))) aw))))) #[cc])) ?_;rw[1891];rw[1892];refine(Bt #[c],λl e=> ?_);refine rz (λc H'=>∃i:Nat,i<99/\c=[some (.int (b:Int)),some #[co]]/\H'=upd H l #[Da,#[fg]]) (λc H'=>match H' l with|some (.lst xs)=>99-xs.length|_=>0) (cX 0 #[c] rfl rfl) ?_ ?_
 ·(intro c H' d;let(i,g,rfl,rfl):=41 d)
  have len:#[fg].length=i+1:=by rw[bG,aD,tF]
  have a:uZ #[fg] (-1)=some (.int (runN b i:Int)):=by rw[sL,bb];rw[2049];rw[bb];exact JW _ _
  rw[1892];refine #[rC];rw[len];by_cases h:i+1<99
  ·rw[1930];refine(gU #[aV] _ #[hW] (aK _ a (fi (runN b i) 1 rfl (aK _ rfl (oZ _ ao ?_ ?_ ?_)))))
   ·rw[len,cH];lia
   ·refine(aK (i+1) h ?_);rw[d8,Em,sL (n:=i+1),bb];rw[2049];rw[bb];rfl
   ·rw[ao,ao];rw[1897];rw[aM,len];simp;lia
  ·rw[1934];have:i+1=99:=by lia
   refine f _ l (a3 e) e ?_;rw[ao,this]
 ·exact rm (pC NT (Fd ajB #[mz]) IR)
abbrev afE(K:aA)(t:cI):Sp:=λvs H Q _=>∃(a c:ae) (st b rest:Nat) (mv:List (Nat×Nat)),vs=[.ref a,.ref c,.int (rest:Int)]/\DJ t H a st mv/\H c=some #[Da,#[f7]]/\(∀k S,((k),S)∈mv->1<=k/\k<=99)/\∀G:Nat,(∀s,G.testBit s=true↔#[iI]\/∃k S,((k),S)∈mv/\S.testBit s=true/\#[lc]/\rest.testBit (k+s)=true)->Q #[Aa] H
def Fl: #[2,t.eK,#[jj],afE K t]:=by
 exists T.rS,nv,"6"
 (let(a,E,st,b,rest,z,c):=506 h;let(rfl,F,o,p,I):=80 c)
 refine aK _ (aj (bQ 3 nv.nd (cV AA #[i] #[bG])) (aj (iz PassesOwn.never rfl #[vS] (o6 4 nv.nd) (aB (Bl 3 nv.nd (cV AA (cV AA #[b9] (yu #[aZ] (cV ji #[b9] a6))) (d5 hr (En T) T.Bb T.xt (ag #[bG] #[sj]))) Ky))) #[cm])) ?_;rw[1891];let(dx,l,A,B,C,D):=43 F;simp[-ah,-aa,-ai,-aR,au,B,T.qc,T.mZ,vA];refine bZ _ _ _ B T.qc T.rL _ CD #[Cm,C];refine zN (K:=K) (a:=l) (xs:=A.map V.ref) (λi g H'=>H'=H/\∃(G:Nat) (v:Option V),g=[some #[sp],some (V.ref E),some (V.int (rest:Int)),some #[pF],v]/\∀s,G.testBit s=true↔#[iI]\/∃k S,((k),S)∈z.take i/\S.testBit s=true/\#[lc]/\rest.testBit (k+s)=true) (rfl,fi (st&&&rest) none ?_ (λs=>by rw[oF,bK];simp)) ?_ ?_ ?_
 ·rw[<-Em]
 ·(intro i g H' _ d;let(rfl,_):=20 d)
  exact a8.of C
 ·(intro i y g H' J d;(let(rfl,c):=20 d;let(G,v,rfl,n):=22 c))
  let(r,hr,rfl):=21 (iU J);let(m,hm,u):=21 (iZ D hr);have w:cK K H' r #[fx]:=cK.of u;have N:=p m.1 m.2 #[yC];have x:uZ #[f7] (#[AQ]-1)=some (.int (runN b (m.1-1):Int)):=by rw[show #[AQ]-1=#[C4,m.1] by lia];exact oq (by rw[jd,bz,EK #[bJ]];rfl)
  rw[1892];refine(a7 _ w _ rfl (a7 _ w _ rfl (a7 _ rfl _ #[wd] (a7 _ x _ rfl (a7 _ rfl _ w (aK _ rfl (fi rest m.1 rfl (cX _ rfl rfl (aK (G|||(m.2&&&runN b (m.1-1)&&&(rest/2^m.1))) ?_ (λs=> ?_))))))))))
  ·rw[Em,Em,RM]
  ·rw[rY,oE,n,oF,oF,bK,bK,afD,Fy,take_snoc hm];have hr:(∀i,i<=m.1-1->b.testBit (s+i)=true)↔∀j,j<m.1->b.testBit (s+j)=true:=(λq j O=>q j #[f],λq i P=>q i #[f]);rw[hr];constructor
   ·rintro((q|⟨k,S,e,f⟩)|⟨⟨e,f⟩,L⟩)
    ·rw[2118]
    ·exact .inr (fi k S (a4.mpr #[oY]) f)
    ·exact .inr (xx m.1 m.2 #[lU] e f L)
   ·rintro(q|⟨k,S,e,f⟩)
    ·exact .inl #[l4]
    ·rcases a4.mp e with e|e
     ·exact .inl (.inr (k,S,e,f))
     ·have:=bh.mp e;rw[1936];exact .inr ((f.1,f.2.1),f.2.2)
 ·(intro g H' d;(let(rfl,c):=20 d;let(G,v,rfl,n):=22 c))
  have M:#[C8,A.map].length=z.length:=by rw[aD];exact Paired.length D
  rw[M,cy]at n;exact I G n
abbrev aaR(t:cI):Sp:=λvs H Q _=>∃(a:ae) (st s k:Nat) (mv:List (Nat×Nat)) (ch:Nat->Option Nat),vs=[.ref a,.int (s:Int)]/\DJ t H a st mv/\lZ st mv ch/\ch s=some k/\Q (.int ((s+k:Nat):Int)) H
def Qg: #[2,t.jK,#[a6],aaR t]:=by
 exists T.Bc,Gb,"6"
 (let(a,st,e,k,s,ch,b):=506 h;let(rfl,B,hs,n,o):=80 b)
 refine aK _ (aj (bX #[g7] (aB (iz PassesOwn.never rfl #[vS] (o6 2 Gb.nd) (aB (bX (dB (d5 hr (Bv T) T.ye T.uD (ag #[hL] #[J]))) (aB (aW #[Dv,#[hL]])) bw)))) bw) #[cc]) ?_;rw[1891];let(dx,l,u,w,x,z):=43 B;simp[-ah,-aa,-ai,-aR,au,w,T.qc,T.mZ,vA];refine(fi st e rfl #[q]);rw[hs.yz,n];rw[2034]
 ·subst h0;rw[aq #[c]];exact o
 ·rw[am (by simp[h0])];refine bZ _ _ _ w T.qc T.rL _ CD #[Cm,x];refine zN (K:=K) (a:=l) (xs:=u.map V.ref) (λi f H'=>H'=H/\∃v:Option V,f=[some #[sp],some (V.int (e:Int)),v]/\∀S,((k),S)∉s.take i) (gU rfl none rfl (λS=>by simp)) ?_ ?_ ?_
  ·(intro i f H' _ c;let(rfl,_):=20 c)
   exact a8.of x
  ·(intro i y f H' C c;(let(rfl,b):=20 c;let(v,rfl,g):=21 b))
   let(r,hr,rfl):=21 (iU C);let(m,hm,p):=21 (iZ z hr);have A:cK K H' r #[fx]:=cK.of p;let(_,_,_,D):=60 (hs.mv1 m.1 m.2 #[yC]);rw[1892];refine(a7 _ A _ rfl (fi m.2 e rfl #[q]));rw[D,n];by_cases d:k=m.1
   ·rw[aq (by rw[d];simp)];refine(a7 _ A _ rfl #[q]);rw[d]at o;rw[show((e:Int)+#[AQ])=((e+m.1:Nat):Int) by rfl];exact o
   ·rw[am (by simp[d])];refine(rfl,λS j=> ?_);rw[take_snoc hm]at j;rcases a4.mp j with q|q
    ·exact g S q
    ·have:=bh.mp q;exact d (by rw[<-this])
  ·(intro f H' c;(let(rfl,b):=20 c;let(v,rfl,g):=21 b))
   let(S,j):=1 (hs.mv2 e k n #[f]);have E:#[C8,u.map].length=s.length:=by rw[aD];rw[2151]
   rw[E,cy]at g;exact absurd j (g S)
def adw{c:TT}(Pv:L2.St->Hp->Prop)(d:L2.St->Hp->Nat)(e:L2.St->Hp->Prop)(h0:Pv σ H) (hs:∀σ H,Pv σ H->c σ H λb H1=>if b=true then tb {D with nx:=λa H'=>Pv a H'/\d a H'<d σ H,ct:=λa H'=>Pv a H'/\d a H'<d σ H,bk:=us D} σ H1 else e σ H1) (mono:Dh c) (after:∀σ H,e σ H->us D σ H):Ic (W3 c tb) us D σ H:=by
 refine rz (D:={D with nx:=us D}) Pv d h0 (λσ H p=>mono _ _ _ _ (λb H1 q=> ?_) (hs σ H p)) mono;cases b with
 |true=>rw[aq rfl]at q ⊢;rw[2105]
 |false=>rw[am #[c]]at q ⊢;exact after _ _ q
abbrev JE(ts:TS):Prop:=∀(D:Ends) σ H (N N':L2.St->Hp->Prop),(∀σ H,N σ H->N' σ H)->ts {D with nx:=N} σ H->ts {D with nx:=N'} σ H
def als{a b:TS}(h:Dh tt)(g:JE a)(i:JE b):JE (agg tt a b):=λD d H N e m q=>h _ _ _ _ (λc f q=>by
 cases c with
 |true=>rw[aq rfl]at q ⊢;exact g D d f N e m q
 |false=>rw[am #[c]]at q ⊢;exact i D d f N e m q) q
def ajC:JE abU:=λD a H N b m q=>m _ _ q
def ajD(h:lN te):JE (JR te):=λD a H N b m q=>h _ _ _ _ (λ_ _ q=>m _ _ q) q
def alu{T:String}{r:V->List V->Hp->VK->Prop}{a:TE}(hr:∀x vs H (Q Q':VK),#[hf]->r x vs H Q->r x vs H Q')(h:lN a):lN (ab6 K T r a):=λ_ _ _ _ m q=>h _ _ _ _ (λ_ _ z=>(z.1,hr _ _ _ _ _ m z.2)) q
def alv:∀x vs H (Q Q':VK),#[hf]->B6 x vs H Q->B6 x vs H Q':=λ_ _ _ _ _ m z=>e2_3 z λl xs a b c q=>(xx l xs a b c #[jQ])
def ahw{ts:TS}(a:L2.St->Hp->Prop)(mono:JE ts)(h:ts {D with nx:=a} σ H)(after:∀σ H,a σ H->us D σ H):Ic ts us D σ H:=mono D σ H _ _ after h
def ajE{a:TA}(h:KB a):lN (P3 a):=λ_ _ _ _ m q=>h _ _ _ _ (λ_ _ z=>e2_0 z λi j z=>e0_5 z λb c d e f q=>(x2_ i j (b,c,d,e,f,λp g=>m _ _ (q p g)))) q
abbrev Sg(fit a lo b:Nat)(sp:Bool)(s:Nat):Option Nat:=#[Dk,b].find? λk=>R (λp=>fit.testBit p) (λp=>a.testBit p) k s
abbrev Sh(t:cI):Sp:=λvs H Q _=>∃(p dx:ae) (u:V) (lo c fit b:Nat) (sp:Bool),vs=[.ref p,.int (fit:Int),.int (b:Int)]/\H p=some (.ins t.Item dx (fe #[rd] u #[pT] #[l3] #[wM]))/\lo<=99/\c<=99/\∀H' a st mv,bp H H'->sj t (λl=>H l=none) H' a st mv->lZ st mv (Sg fit b lo c sp)->Q #[bh] H'
def Nl{l:List Nat}{a:Nat}:nums l++[V.int (a:Int)]=nums (l++[a]):=by unfold nums;rw[bb];rfl
def ahx{l:List Nat}:#[f6].reverse=nums l.reverse:=by unfold nums;rw[gD]
def Si: #[3,t.kZ,#[fL],Sh t]:=by
 exists T.CB,iF,"8"
 (let(p,dx,u,lo,O,fit,c,sp,g):=508 h;let(rfl,hp,hlo,hhi,kk):=80 g)
 refine aK _ (aj (bQ 3 iF.nd (cf #[C])) (aj (ry PassesOwn.never (PW.pt (QF (f7 kN #[ob] #[i]) (Nv (f7 xS #[w1] a6)))) (aB (c9 (hR bi bR bS fE #[dy] (ag (cV AA #[aZ] (d5 hr (En T) T.Bb T.xt (ag #[w1] #[yE]))) aw))))) (aj (bQ 4 iF.nd (YN #[aT] T.list #[aT] T.range (ag #[i] #[Cw,#[ob]])))
   (aj (bX #[Bs] (aB (c9 (Xg bi G5 G6 QV #[pf]))) bw)
   (aj (bQ 5 iF.nd a6)
   (aj (bQ 6 iF.nd #[kC])
   (aj (bQ 7 iF.nd a6)
   (aj (iz PassesOwn.never rfl (gX #[pf]) (o6 8 iF.nd) (aj (bQ 9 iF.nd (d5 hr (yj T) T.xr T.u5 (ag (yu #[dy] #[vD]) #[q0]))) (aj (Bl 7 iF.nd (pv 9) Ky) (aB (bX (f7 gf #[vD] a6) (aB (bQ 5 iF.nd (pv 9))) (aB (bX (f7 xS (pv 9) a6) (aB (c9 (hR bi bR bS fE #[zp] (ag (lY (ag #[vD] (ag (pv 9) aw))) aw)))) bw)))))))
   (aB (aW (cb hr T.Ct (Bx T) T.Gf T.vV #[nr]))))))))))) ?_
 rw[1891];rw[2133];refine CJ (λx A=>∃l,x= .ref l/\H l=none/\A=upd H l (.lst (nums [c]))) (Zc #[mz]) (Bt (by show 1<=100;decide),λl hl=>(cX l rfl hl rfl)) ?_
 (intro x A d;let(l,rfl,hl,rfl):=41 d)
 refine adw (λo H'=>∃i:Nat,i<=O/\o=#[bI]/\H'=upd H l #[uu]) (λo H'=>match H' l with|some (.lst xs)=>200-xs.length|_=>0) (λo H'=>∃i:Nat,i<=O/\(i=O\/jj fit c i=0)/\o=#[bI]/\H'=upd H l #[uu]) (cX 0 (dR _) rfl rfl) ?_ (YO (rm (pC NT #[BP] #[BT])) (rm (pC aid #[uH] IR))) ?_
 ·(intro o H' d;let(i,U,rfl,rfl):=41 d)
  have len:#[bd].length=i+1:=by rw[bG,aD,tF]
  have C:uZ #[bd] (-1)=some (.int (jj fit c i:Int)):=by rw[sL,bb,Aa,<-Nl];exact JW _ _
  have J:upd H l #[uu] p=some (.ins t.Item dx (fe #[rd] u #[pT] (.int (O:Int)) #[wM])):=a3 hl _ _ hp;rw[1892];refine #[rC];rw[len];refine(b9 _ _ _ J T.oW T.sV _ N7 _ rfl ?_);by_cases h1:i+1<=O
  ·rw[1930];refine(eU _ #[hW] _ C rfl ?_);by_cases S:jj fit c i=0
   ·rw[aq (by rw[S];rfl)];exact(cX i U (.inr S) rfl)
   ·rw[am #[jd]];refine(gU #[aV] _ #[hW] (aK _ C (fi (jj fit c i) 1 rfl (aK _ rfl (oZ _ ao ?_ (aK (i+1) h1 ?_) ?_)))))
    ·rw[len,B];lia
    ·rw[d8,Em,sL (n:=i+1),bb,Aa,<-Nl];rfl
    ·rw[ao,ao];rw[1897];rw[aM,len];simp;lia
  ·rw[1934];exact(cX i U (.inl #[f]) rfl)
 (intro o H' d;let(m,hm,W,rfl,rfl):=61 d)
 have len:#[aJ].length=m+1:=by rw[bG,aD,tF]
 have s1:bp H (upd H l #[oW]):=a3 hl;have P:upd H l #[oW] l=some #[oW]:=ao;generalize upd H l #[oW]=A at s1 P;have J:=s1 _ _ hp;refine CJ (λx H2=>∃j,x= .ref j/\A j=none/\H2=upd A j #[us]) (ajE (nr #[BT] (nr #[BP] pO))) ?_ ?_
 ·refine bZ _ _ _ J T.oW T.xn _ Tx (c4 _ _ rfl #[Ce,P] (x2_ _ _ (rfl,by solve_by_elim,by lia,by solve_by_elim,?_,(λj K=>(cX j rfl K ?_)))))
  ·rw[len];lia
  ·rw[len,<-ai4];rw[2049];rw[fO,show(#[DA,m]-(lo:Int)).toNat=m+1-lo by lia];congr 3
 (intro x H2 d;let(j,rfl,K,rfl):=41 d)
 have s2:bp A (upd A j #[us]):=a3 K;refine ahw (λo H3=>o=[some #[pB],some #[wn],some #[yN],some #[pC],some (V.ref j),none,none,none,none,none]/\H3=upd A j #[e1]) (als (rm #[BT]) (ajD (alu alv ew)) ajC) ?_ ?_
 ·simp[-ah,-aa,-ai,-aR,au,s2 _ _ J,T.oW,T.vN,Rx];unfold counts;cases sp with
  |true=>simp
  |false=>simp;exact(.inl (rfl,_,a8.of ao),by rw[d8,ahx])
 (intro o H3 d;let(rfl,rfl):=20 d)
 have s3:bp A (upd A j #[e1]):=a3 K;have D:upd A j #[e1] j=some #[e1]:=ao;generalize upd A j #[e1]=H3 at s3 D;have hl3:=s3 _ _ P;have X:=s1.trans s3;rw[1892];intro N L
 let Y:Nat->Nat->Bool:=λk s=>R (λp=>fit.testBit p) (λp=>c.testBit p) k s
 refine uH (a:=j) (xs:=nums #[aA]) (λi o H'=>∃(st tk:Nat) (I:List ae) (E:List (Nat×Nat)) (v8 v9:Option V),o=[some #[pB],some #[wn],some #[yN],some #[pC],some (V.ref j),some (V.int (st:Int)),some (V.ref N),some (V.int (tk:Int)),v8,v9]/\bp H3 H'/\H' N=some (.lst #[C8,I.map])/\ll H' I E/\E.length<=i/\lZ st E (λs=>#[Ak].find? λk=>Y k s)/\∀s,tk.testBit s=(#[Ak].find? λk=>Y k s).isSome) rfl (a8.of (a3 L _ _ D)) (x6_ 0 0 ([]) ([]) none none (rfl,a3 L,ao,Paired.nil,be _,lZ.zero,λs=>jw s)) ?_ ?_ ?_
 ·(intro i o H' _ d;(let(st,tk,I,E,v8,v9,g):=6 d;let(rfl,hs,_):=40 g))
  exact a8.of #[yk]
 ·(intro i y o H' hy d;(let(st,tk,I,E,v8,v9,g):=6 d;let(rfl,v,f,w,Z,M,htk):=120 g))
  rw[jd]at hy;let(k,G,rfl):=21 (dX.mp hy);have hkm:=Rc (bO G);have atz:i<101:=by
   have h1:=jY G;have S:#[aA].length<=m+1:=by
    have:=List.Nodup.length_le_of_subset (Mj lo m sp) (λk G=>uO.mpr (by have:=Rc G;lia):counts lo m sp⊆cw (m+1))
    rwa [tF]at this
   lia
  have Us:k∉#[aA].take i:=by have:=Mj lo m sp;rw[<-fD i #[aA]]at this;have S:=(f6.mp this).2.2;intro hin;refine S k hin k ?_ rfl;rw[iY (jY G)];rw[aN (jY G)]at G;injection G with G;rw[G];exact bg ..
  let(q1,q2,q3,q4):=60 (M.snoc htk Us #[f] (Pq fit c k));rw[<-take_snoc G]at q1 q2 q3 q4;have hix:uZ #[aJ] (k:Int)=some (.int (jj fit c k:Int)):=oq (by rw[jd,bz,EK #[f]];rfl);rw[1892];refine(a7 _ (a8.of (v _ _ hl3)) _ hix (fi #[i9] tk rfl ?_));refine #[ep];have Q:Builtin.bitOr (tk:Int) #[vq]=((tk|||wo (jj fit c k) tk:Nat):Int):=RM _ _;rw[2034]
  ·rw[aq h0];exact(eU _ rfl _ Q v (aK I f (oZ E w #[f] (q2 h0) q1)))
  ·rw[am h0];rw[1899];by_cases hz:wo #[i9] tk=0
   ·rw[aq (by rw[hz];rfl)];exact(eU _ rfl _ Q v (aK I f (oZ E w #[f] (q4 h0 hz) q1)))
   ·rw[1953];refine(e7 #[B8,f] (by rw[B];decide) (λr hr'=> ?_));have hrl:N≠r:=a5 f hr';have hb:∀b u,H' b=some u->b≠N->upd (upd H' r (.tup [V.int (k:Int),V.int #[vq]])) N (.lst (I.map V.ref++[V.ref r])) b=some u:=λb u e ne=>by rw[aE ne,aE (a5 e hr')];exact e
    refine(cX _ (by rw[aE hrl];exact f) ?_ (eU _ rfl _ Q ?_ (aK (I++[r]) (by rw[ao,bb];rfl) (oZ (E++[((k),wo #[i9] tk)]) ?_ ?_ (q3 h0 hz) q1))))
    ·rw[aD,Paired.length w,B];lia
    ·exact λb u e=>hb b u (v _ _ e) (a5 e L)
    ·refine ll.snoc (w.keep λb xs q=>hb b _ q (λz=> ?_)) ?_
     ·rw[z,f]at q;rw[2090]
     ·show upd _ N _ r=_;rw[aE (λz=>hrl z.symm),ao]
    ·rw[aM];show E.length+1<=i+1;lia
 ·(intro o H' d;(let(st,tk,I,E,v8,v9,g):=6 d;let(rfl,v,f,w,Z,M,htk):=120 g))
  rw[1892];intro x dx hx hdx Vm;refine #[g3];rw[d8];have ha:bp H' (upd #[CV,H'] x (.ins t.Step dx (rl (.int (st:Int)) (.ref N)))):=(a3 hdx).trans #[ie];refine kk _ x st E ((X.trans v).trans ha) (jc dx N I (X.free L) ao (ha _ _ f) (w.same ha)) ?_;have hf:∀s,#[aA].find? (λk=>Y k s)=#[Dk,O].find? (λk=>Y k s):=λs=>ZW hm λk h1 S=>by
   rcases W with rfl|h0
   ·lia
   ·exact akz (λs=>by rw[<-Pq,h0,jw]) k s h1
  rw[bG,cy]at M;have e:(Sg fit c lo O sp)=λs=>#[aA].find? (λk=>Y k s):=funext λs=>(hf s).symm;rw[e];exact M
@[simp] def apU{Q:L2.St->Hp->Prop}:ajS vs σ H Q=(vs=[]/\Q σ H):=rfl
@[simp] def apn{Q:L2.St->Hp->Prop}{g:TG}{u:UI}:ahY g u (v::vs) σ H Q↔g v σ H λa H'=>u vs a H' Q:=(λ(_,_,e,q)=>by cases e;exact q,λq=>(fi v vs rfl q))
def ahy{z:V}:tK #[AA] none (some (-1))=xs:=by
 unfold tK;have e:HT.gO #[AA].length #[AA].length (some (-1))=xs.length:=by
  unfold HT.gO;rw[aM];simp
  lia
 rw[e];simp[HT.gO]
def zh.nil:zh [] []:=(λc=>rfl,(λa h=>by cases h),be _,(λc h=>by cases h))
abbrev adx(t:cI):Sp:=λvs H Q _=>∃(c dx ls:ae) (ps:List ae) (z:V) (cO:bB),vs=#[Dq,ls]/\H c=some #[Ct,t.dP]/\H ls=some #[oV]/\ps.length=cO.length/\cO.length<=1000000/\(∀(i:Nat) (p:ae),ps[i]?=some p->∃(b:PB) (pr nx:ae),H p=some #[ca]/\cO[i]?=some b.sg)/\∀H',dI c H H'->Bw t H' c ps cO->Q .cG H'
def KM: #[2,t.gh,#[n4],adx t]:=by
 exists T.wj,qG,"6"
 (let(c,dx,ls,ps,z,v,d):=506 h;let(rfl,P,R,C,hz,S,kk):=120 d)
 refine aK _ (aj (gr #[aq] (tJ Ae #[aZ] Fu (pZ #[hY]))) (aj #[AV] (aB (iz PassesOwn.never rfl #[oQ] (QG rfl (wN (o6 2 qG.nd) (wN (o6 3 qG.nd) Nw))) (aj (bQ 4 qG.nd (Xr #[BM] #[i] #[hT] a6 (rfl,rfl,rfl,rfl))) (aB (aiR #[BM] #[i] #[hT] (cV ah0 #[pf] (d5 hr (EG T) T.z6 T.vx #[C])) rfl))))))) ?_;rw[1891];rw[1894];simp[-ah,-aa,-ai,-aR,au,P,T.cE,T.dh,T.eg,DD];refine(aK _ (a8.of R) (λk D=> ?_));rw[ahy];have w:c≠k:=a5 P D;refine(vB _ _ _ #[sg] T.cE T.eg #[c] (λdd E=> ?_));rw[DD]at E ⊢;let(F,G):=20 (dz E);let(l,U):=20 (dz F);refine(vB _ _ _ (by rw[aE (λz=>G z.symm),ao]) T.cE T.dh #[qV] ?_);rw[MO];generalize g:upd (upd (upd (upd H k #[T]) c _) dd #[tk]) c _=H1;have h1:H1 c=some #[jH]:=by rw[<-g,ao];rfl
 have h2:H1 k=some #[T]:=by rw[<-g,aE (λz=>w z.symm),aE (λz=>U z.symm),aE (λz=>w z.symm),ao]
 have h3:H1 dd=some #[tk]:=by rw[<-g,aE G,ao]
 have hk:dI c H H1:=λb o e n=>by rw[<-g,aE n,aE (a5 e l),aE n,aE (a5 e D)];exact e
 clear g;refine bZ _ _ _ h1 T.cE T.eg _ mK (c4 k _ rfl (a8.of h2) ?_);refine yi (n:=ps.length) (λi I H'=>∃(a:List (Key×V)) (J L M:Option V),I=[some #[hu],some (.ref ls),J,L,M]/\H' c=some #[jH]/\H' k=some #[T]/\H' dd=some (.dK a)/\zh a #[xU]/\dI c H H') (x4_ ([]) none none none (rfl,h1,h2,h3,zh.nil,hk)) ?_ ?_ ?_ ?_
 ·(intro i I H' hi f;(let(a,J,L,M,d):=4 f;let(rfl,m,j,y,q,B):=100 d))
  exact(fi _ _ #[we] (by rw[bz,aN hi];rfl))
 ·(intro I H' f;(let(a,J,L,M,d):=4 f;let(rfl,m,j,y,q,B):=100 d))
  exact(aK _ #[we] #[rA])
 ·(intro i I H' hi f;(let(a,J,L,M,d):=4 f;let(rfl,m,j,y,q,B):=100 d);intro x H2 W;let(T',x',rfl,hT,rfl,Q):=62 W)
  have Q:=Q _ #[we];rw[bz]at Q;let(p,X,rfl):=21 (dX.mp Q);let(b,pr,nx,N,Y):=23 (S i p X);have Z:p≠c:=dt N P #[ag];have r:H' p=some #[ca]:=B _ _ N Z;have s:=a3 (o:= .tup #[jL]) hT;have hpT:cK K (upd H' T' (.tup #[jL])) T' #[jL]:=cK.of ao;refine(xx _ _ rfl hpT rfl ?_);simp[-ah,-aa,-ai,-aR,au,s _ _ m,s _ _ r,T.cE,T.dh,ig,T.b8,T.jm,nj];have A:=s _ _ y;have FL:#[xU].length=i:=by rw[bE];lia
  have O:(iL a #[kM]).getD #[gU]= .int (posOf #[xU] b.sg:Int):=q.val b.sg;have u:=q.put b.sg;rw[FL,<-take_snoc Y]at u;refine(gU #[CT,A] _ (.inl (c4 a #[kM] (.inl A) rfl rfl)) (cX i rfl #[f] (a7 _ O _ rfl (bZ _ _ _ (s _ _ m) T.cE T.dh _ ig (b9 _ _ _ (s _ _ r) T.b8 T.jm _ nj _ rfl (oZ _ (.inl (xx a #[kM] A rfl ?_ rfl)) ?_ ?_ #[kD]))))))
  ·have:=q.len;lia
  ·rw[aE (dt m y #[b])];exact s _ _ m
  ·rw[aE (dt j y #[b])];exact s _ _ j
  ·rw[RM];exact u
  ·intro x o e n;rw[aE (a5 e l)];exact s _ _ (B x o e n)
 ·(intro I H' f;(let(a,J,L,M,d):=4 f;let(rfl,m,j,y,q,B):=100 d))
  rw[C,cy]at q;exact kk H' B (rV dx k dd a m j y q)
structure Seen(pc:ae->Piece)(ps:List ae)(cO:bB)(X:mj):Prop where
 tx:X.text=ps.map λa=>({sign:=#[oa].sign,look:=dZ #[oa],tags:=#[oa].tags}:Vatrka.Plain)
 sg:cO=ps.map λa=>#[oa].sign
 sz:cO.length<=1000000
def Seen.len{pc:ae->Piece}{ps:List ae}(h:Seen pc ps cO X):ps.length=cO.length/\X.text.length=cO.length:=by rw[h.tx,h.sg];simp
def Seen.at{pc:ae->Piece}{ps:List ae}(h:Seen pc ps cO X)(p:Nat):Ja X p=cO[p]?:=by unfold Ja;rw[h.tx,h.sg,bz,bz,Option.map_map];rfl
def Vp{f:Nat->Bool}{p:Nat}:(km cO f).testBit p=(cO[p]?).any f:=by
 rw[p6];rw[1988]
 ·rw[aT h];rfl
 ·rw[aV h,eT #[j]];rfl
def Seen.word{pc:ae->Piece}{ps:List ae}(h:Seen pc ps cO X)(p:Nat):(kj cO).testBit p=Dk X p:=by unfold Dk;rw[h.at];exact Vp
def Seen.aiv{pc:ae->Piece}{ps:List ae}(h:Seen pc ps cO X)(p:Nat):#[vP].testBit p=wJ X p:=by unfold wJ;rw[al6,h.word];rfl
def Seen.fit{pc:ae->Piece}{ps:List ae}(h:Seen pc ps cO X)(f:Fit)(p:Nat):(km cO #[rU]).testBit p=AD X f p:=by unfold AD;rw[h.at];exact Vp
abbrev ady(K:aA)(t:cI):Sp:=λvs H Q _=>∃(se dx x p:ae) (fs:List (Str×V)) (b q:Nat) (pc:ae->Piece) (ps:List ae) (cO:bB) (X:mj) (it:Item) (r:List Item) (N:ae->Prop),vs=[.ref se,.ref p,.int (b:Int),.bl X.fold]/\H se=some #[sz]/\fs.lookup #[ov]=some #[ht]/\Bw t H x ps cO/\Seen pc ps cO X/\iE t N H p it/\FY it/\q<=X.text.length/\(∀s,b.testBit s=go X q r s)/\∀H' a st mv,bp H H'->sj t (λl=>H l=none) H' a st mv->lZ st mv (ch X q it r)->Q #[bh] H'
def KN{l x dx:ae}{st:Nat}(b:H l=none)(d:upd H l #[ar] x=none)(a:upd H l #[ar] dx=none)(ne:¬dx=x):bp H #[ae]/\sj t (λl=>H l=none) #[ae] x st []:=by have e:bp H #[dt]:=a3 b;have c:bp #[dt] #[ae]:=(a3 a).trans (a3 (by rw[aE (λz=>ne z.symm)];exact d));exact(e.trans c,jc dx l ([]) b ao (c _ _ ao) Paired.nil)
def Os: #[5,t.i7,#[bV],ady K t]:=by
 exists T.z7,N5,"14"
 (let(se,dx,x,p,fs,i,q,pc,H):=508 h;let(ps,c,X,it,r,N,I):=506 H;let(rfl,m,n,y,d,o,cQ,E,g,F):=180 I)
 refine aK _ (aj (bX (f7 gf #[ct] #[v5]) (aB (aW (d5 hr (Si T) T.Js T.CB (ag #[aZ] (ag (nq hr #[i] T.cE T.iI (yV T) T.l8 (ag #[ct] #[X])) #[C]))))) bw) (aj (bX (f7 gf #[ct] (cN T.xk)) (aB (aW (cb hr T.Ct (Bx T) T.Gf T.vV (ag (cV AA #[bG] (eM hr #[i] T.cE T.jO (Au T) T.n9)) #[nt])))) bw) (aj (bX (f7 gf #[ct] (cN T.AW)) (aB (aW (cb hr T.Ct (Bx T) T.Gf T.vV (ag (cV AA #[bG] (eM hr #[i] T.cE T.oa (Fk T) T.rR)) #[nt])))) bw) (aB (aW (cb hr T.Ct (Bx T) T.Gf T.vV (ag #[bG] #[nt]))))))) ?_;rw[1891];have G:=y;let(P,lp,dd,Q,A,R,S,U):=64 G;cases it with
 |unit f lo J sp=>
  let(v,u,w,V):=22 o;let(W,L,M):=40 cQ;rw[1893];refine(rfl,c4 _ _ A yU (x7_ x u X.fold ps c f N (rfl,y,d.len.1,d.sz,V,W,(x8_ p v _ lo J _ i sp (rfl,w,L,M,(λH' a st Y sm z O=>F H' a st Y sm z ?_))))));have e:ch X q (.unit f lo J sp) r=Sg (km c #[rU]) i lo J sp:=funext λs=>by rw[aiY E];unfold Sg;have Z:AD X f=λp=>(km c #[rU]).testBit p:=funext λp=>(d.fit f p).symm;have e2:go X q r=λp=>i.testBit p:=funext λp=>(g p).symm;rw[Z,e2]
  rw[e];exact O
 |begins=>let(v,w):=1 o;rw[1893];refine(e7 rfl rfl (c4 _ _ A As #[dq]));rw[d8,Em];let(C,D):=20 (KN (st:=i&&&wo (kj c) (kj c*2^1)) B z b k);refine F _ a _ [] C D (lZ.tW (f:=λs=>go X q r s&&(Dk X s&& !Vatrko.wordBefore X s)) (λs=> ?_) λs=>aeu E);rw[2097]
 |ends=>let(v,w):=1 o;rw[1893];refine(o3 rfl rfl rfl (c4 _ _ A E9 #[dq]));rw[d8,Em];let(C,D):=20 (KN (st:=i&&&wo (kj c*2^1) (kj c)) B z b k);refine F _ a _ [] C D (lZ.tW (f:=λs=>go X q r s&&(wJ X s&& !Vatrko.wordAt X s)) (λs=> ?_) λs=>aiZ E);rw[2097]
 |opening=>let(v,w):=1 o;rw[1893];refine #[ey];rw[d8];rw[2089];exact F _ a _ [] C D (lZ.tW (f:=λs=>go X q r s) g λs=>XB E #[ay])
 |closing=>let(v,w):=1 o;rw[1893];refine #[ey];rw[d8];rw[2089];exact F _ a _ [] C D (lZ.tW (f:=λs=>go X q r s) g λs=>XB E #[fR])
abbrev WR(pr vl:Int):Option #[aw]->Prop
 |none=>pr= -1
 |some ((k),v)=>pr=(k:Int)/\vl=(v:Int)/\k<4
abbrev Zj(K:aA)(t:cI):Sp:=λvs H Q _=>∃(se dx x ed c:ae) (fs:List (Str×V)) (v0 v1 v2 v3:V) (pr vl:Int) (pc:ae->Piece) (ps:List ae) (cO:bB) (X:mj),vs=[.ref se,.ref ed]/\H se=some #[sz]/\fs.lookup #[ov]=some #[ht]/\Bw t H x ps cO/\Seen pc ps cO X/\H ed=some (.ins t.fP c (c6 v0 v1 v2 v3 #[BZ] #[BY]))/\WR pr vl X.asked/\#[c5]/\∀H' (B:Nat),bp H H'->(∀p,B.testBit p=Ca X p)->Q (.int (B:Int)) H'
def BR: #[3,t.dW,#[iD],Zj K t]:=by
 exists T.oY,BQ,"16"
 (let(D,dx,x,ed,r,fs,E,F,m):=508 h;let(G,I,s,J,pc,ps,d,X,n):=508 m;let(rfl,f,g,c,b,i,a,o,q):=160 n)
 refine aK _ (aj (bX (f7 gf #[ct] #[Bx]) (aB (aW (eM hr #[i] T.cE T.iC (tV T) T.k8))) bw) (aB (aW (nq hr #[i] T.cE T.ie (yk T) T.lH #[qb])))) ?_;rw[1891];have j:=c;let(u,L,dd,w,l,y,z,A):=64 j;have M:=b.len;have hz:=b.sz;cases e:X.asked with
 |none=>
  rw[e]at a;have a:s= -1:=a;subst a;simp[-ah,-aa,-ai,-aR,au,i,T.cg,T.fF,wG,f,g,T.dQ,T.fI];refine(rfl,c4 _ _ l tU (jc x ps d rfl c.at #[j] (q H _ (λ_ _ h=>h) λp=> ?_)));rw[acg];unfold Ca;rw[e,b.tx,bz];rw[2138]
  ·rw[aT h,aN h];rfl
  ·rw[aV h,eT #[j]];rfl
 |some B=>
  obtain⟨k,v⟩:=B;rw[e]at a;let(rfl,rfl,C):=40 a;simp[-ah,-aa,-ai,-aR,au,i,T.cg,T.fF,T.ja,wG,IP,f,g,T.dQ,T.fI];refine(rfl,c4 _ _ l yh (x6_ x ps d pc k v (rfl,c,C,by lia,o,(λH' sm=>q H' _ sm λp=> ?_))));unfold Zg;rw[p6];unfold Ca;rw[e,b.tx,bz];rw[2138]
  ·rw[aT h,aN h];show decide (jQ #[sW] k=v)=((dZ #[sW]).getD k 0==v);have:(dZ #[sW]).getD k 0=jQ #[sW] k:=by
    rcases(by lia:k=0\/k=1\/k=2\/k=3)with rfl|rfl|rfl|rfl<;>rfl
   rw[1924];rfl
  ·rw[aV h,eT #[f]];rfl
def amz{j:Int}:SQ 2 j:= .inl (by decide,by decide)
abbrev Wp(t:cI):Sp:=λvs H Q _=>∃(c dx l:ae) (k:Nat) (m:bq),vs=#[jK]/\H c=some #[gx]/\H l=some #[ur]/\∀r,H r=none->Q #[kQ] (upd H r #[nD])
def B0: #[1,t.gG,#[f2],Wp t]:=by
 exists T.sY,Lr,"5"
 (let(c,dx,l,k,m,b):=505 h;let(rfl,j,d,a):=60 b)
 refine aK _ (aj (bX #[xq] #[mD] bw) (aj (bX (f7 CY #[jC] #[fP]) #[mD] bw) (aB (aW (lY (ag #[oz] #[Cw,#[oz]])))))) ?_;rw[1891];simp[-ah,-aa,-ai,-aR,au,j,T.iA,T.jn,T.kJ,T.ri,oh,oD,Gs];have f:2<=aS:=by rw[cH];decide
 have hm:SQ 2 (k:Int):=amz;rw[1899];cases k with
 |zero=>rw[aq rfl];exact(f,a)
 |succ k=>
  rw[1934];refine(gU hm _ (.inl #[BH]) ?_);rw[bG,ER];by_cases h:m.groups.length<k+1
  ·rw[1930];have e:str m (k+1)=#[vN]:=by show #[qy].getD _=_;rw[eT #[f]];rfl
   rw[e]at a;exact(f,a)
  ·rw[1934];have g:=aN (l:=m.groups) (i:=k) #[f];have e:str m (k+1)=m.groups[k]'#[f]:=by show #[qy].getD _=_;rw[g];rfl
   let(g1,n):=20 (acl m.groups k g);rw[e]at a;refine(gU hm _ #[BH] (cX _ ?_ hm (eU _ #[BH] _ ?_ f a)))
   ·rw[show 2*#[h0]-2=((2*k:Nat):Int) by lia];exact oq (by rw[jd,g1];rfl)
   ·rw[show 2*#[h0]-1=((2*k+1:Nat):Int) by lia];exact oq #[v7]
structure vE(t:cI)(N:ae->Prop)(H:Hp)(se:ae)(X:mj)(q:Nat)(items:List Item):Prop where
 ob:∃(dx lf ls:ae) (v:V) (Sj sts:List ae) (G A Z:Nat),H se=some (.ins t.Search dx (u6 v (.ref lf) (.ref ls) (.int (wo A Z:Int))))/\H lf=some #[Da,#[zY]]/\fW t N H Sj items/\H ls=some (.lst #[C8,sts.map])/\sts.length=items.length/\
  (∀(i:Nat) (it:Item),items[i]?=some it->∃(a:ae) (st:Nat) (mv:List (Nat×Nat)),sts[i]?=some a/\DJ t H a st mv/\lZ st mv (ch X q it #[mb]))/\xV X q items G A Z
 qk:q<=X.text.length
 gk:ox false false 0 items=true
 Af:items.length<16777216
abbrev iW(t:cI)(N:ae->Prop)(H:Hp)(c:ae)(m:bq):Prop:=∃(dx l:ae),N c/\N l/\H c=some #[gx]/\H l=some #[ur]
abbrev aaS(t:cI):Sp:=λvs H Q _=>∃(se:ae) (s:Nat) (N:ae->Prop) (X:mj) (q:Nat) (items:List Item),vs=#[jh]/\vE t N H se X q items/\(pH X q items s=none->Q .cG H)/\∀m H' c,pH X q items s=some m->bp H H'->iW t (λb=>H b=none) H' c m->Q #[hu] H'
def afG{N:ae->Prop}(h:iE t N H p it):∃(dx:ae) (k:Int) (v1 v2 v3 v4:V),H p=some (.ins t.Item dx (fe (.int k) v1 v2 v3 v4))/\FP it=(decide (k=4)||decide (k=5)):=by
 cases it with
 |unit f lo a sp=>let(dx,u,h,_):=22 h;exact #[Cl,1]
 |begins=>let(dx,h):=1 h;exact #[Cl,2]
 |ends=>let(dx,h):=1 h;exact #[Cl,3]
 |opening=>let(dx,h):=1 h;exact #[Cl,4]
 |closing=>let(dx,h):=1 h;exact #[Cl,5]
def DK: #[3,t.ia,#[a6],aaS t]:=by
 exists T.ua,mW,"6"
 (let(se,f,N,X,q,items,d):=506 h;let(rfl,hS,kn,ks):=60 d)
 refine aK _ (aj (bX #[g7] #[Cz,Az] bw) (aj #[C9,mW.nd] (aj (bQ 3 mW.nd #[aZ]) (aj (iz PassesOwn.never rfl (akp rfl T.zip (ag #[i] #[eZ])) (QG rfl (wN (o6 4 mW.nd) (wN (o6 5 mW.nd) Nw))) (aj (bQ 3 mW.nd (nq hr (pv 5) T.qc T.wB (Qg T) T.Bc #[X])) (aB (bX (PW.pt (xR #[qN] (vI #[qM]))) (aB #[lM]) bw)))) (aB (aW (cb hr T.Ku (Wn T) T.NO T.Gn #[Df,#[pu]]))))))) ?_;rw[1891]
 (let(dx,lf,ls,v,Sj,sts,G,A',Z,d):=9 (hS.ob);let(h1,P,h3,h4,h5,h6,h7):=120 d)
 have Q:=hS.qk;have w:=xV.UX Q h7 f;simp[-ah,-aa,-ai,-aR,au,h1,T.dQ,T.gY,u7];refine(fi (wo A' Z) f rfl #[q]);have w:(wo A' Z).testBit f=(pH X q items f).isSome:=w;cases hm:pH X q items f with
 |none=>rw[w,hm,am #[c]];exact kn hm
 |some m=>
 rw[w,hm,aq (show(some m).isSome=true from rfl)];intro D J;let(m1,m2,_,m4,m5,_,_):=120 (Ka Q hS.gk hm);have R:=(nL Q hm).1;have hWl:=aci Q items f R;have OZ:#[P].length=items.length:=by rw[List.length_zip,hWl,Nat.min_self]
 have hil:Sj.length=items.length:=Paired.length h3;have sg:bp H #[Dt,H]:=a3 J;refine bZ _ _ _ (sg _ _ h1) T.dQ T.jv _ Gu (bZ _ _ _ (sg _ _ h1) T.dQ T.oX _ PH (rV lf ls _ _ rfl (a8.of (sg _ _ P)) (a8.of (sg _ _ h4)) ?_));refine yi (n:=items.length) (λi S H'=>∃(s:Nat) (U Y:Option V),S=[some (V.ref se),some (V.int (f:Int)),some (V.ref D),some (V.int (s:Int)),U,Y]/\go X q #[qC] s=true/\#[kK].drop i=W X q #[qC] s/\nA X q #[qC] s=nA X q items f/\bp H H'/\H' D=some #[Da,#[tD]]) (x3_ f none none (rfl,R,rfl,rfl,sg,ao)) ?_ ?_ ?_ ?_
 ·(intro i S H' hi j;(let(s,U,Y,d):=3 j;let(rfl,M,A,o,l,O):=100 d))
  exact(rV _ _ _ _ #[nu] #[mg] (by rw[bz,aN #[j]];rfl) #[qX])
 ·(intro S H' j;(let(s,U,Y,d):=3 j;let(rfl,M,A,o,l,O):=100 d))
  exact(c4 _ _ #[nu] #[mg] (.inl #[s7]))
 ·(intro i S H' hi j;(let(s,U,Y,d):=3 j;let(rfl,M,A,o,l,O):=100 d);intro x H2 Sb;let(T',x',y',rfl,hT,rfl,hx,hy):=83 Sb)
  have hx:=hx _ #[nu];have hy:=hy _ #[mg];let(p,hp,rfl):=21 (iU hx);let(a,ha,rfl):=21 #[qE];let(it,B,hI):=21 (iZ h3 hp);let(a',st,mv,ha',hst,his):=43 (h6 i it B);have:a=a':=by rw[ha]at ha';exact dm.inj ha'
  rw[1936]
  (let(dxi,kd,w1,w2,w3,w4,d):=6 (afG hI);let(hpo,r):=20 d)
  have sT:bp H' #[eC]:=a3 hT;have hd:items.drop i=it::items.drop (i+1):=by rw[iY hi];rw[aN hi]at B;rw[dm.inj B]
  rw[hd]at M A o;rw[xU Q]at M;let(e,he):=1 (du.mp M);let(b1,b2,b3):=40 #[AF];obtain⟨k,rfl⟩:∃k,e=s+k:=(e-s,by simp_all);rw[Mc,he]at A;have A:#[kK].drop i=(s+k)::W X q #[mb] (s+k):=A;have hWi:#[kK][i]?=some (s+k):=by have:=dA List.head? A;rw[2079];rw[1928]
  have K:#[kK].drop (i+1)=W X q #[mb] (s+k):=by have:=dA List.tail A;rw[2083];rw[1928]
  rw[Ah he]at o;have hzi:#[P][i]?=some ((it),s+k):=List.getElem?_zip_eq_some.mpr (B,hWi);have hfl:flat #[wU]=flat #[nN]++(if FP it=true then[s+k]else[]):=by rw[take_snoc hzi];unfold flat;rw[eV,bb];congr 1;rw[cC];show oQ _ (if FP it=true then _ else _)=_;cases FP it<;>rfl
  have E:=hst.same #[tE];have L:=E;let(dxa,la,rsa,Zk,_,_):=43 L;refine(xx _ _ rfl (cK.of ao) rfl ?_);have hpT:=#[tE] _ _ hpo;simp[-ah,-aa,-ai,-aR,au,Zk,PF];refine(Bm a st s k mv _ rfl E his (NI.mpr he) ?_);rw[1894];have ahz:=hS.Af;have g:=sT _ _ O;have I:#[tD].length<aS:=by
   rw[bG];unfold flat;rw[aD,CK];have h1:=jE (λy:Item×Nat=>FP y.1) #[nN];have P:=Ow i #[P]
   lia
  have app:FP it=true->bp H (upd #[eC] D #[fv])/\upd #[eC] D #[fv] D=some (.lst (nums (flat #[wU]))):=λr=>by
   refine(λb u e=> ?_,?_)
   ·rw[aE (a5 e J)];exact #[tE] _ _ e
   ·rw[ao,hfl,aq r,Nl]
  refine #[iL];by_cases k4:kd=4
  ·rw[aq (by rw[k4])];have:=app (by rw[r,aT k4];rfl);exact #[eA]
  ·rw[am (by intro z;injection z with z;exact k4 z)];refine #[iL];by_cases k5:kd=5
   ·rw[aq (by rw[k5])];have:=app (by rw[r,aT k5,Bool.or_true]);exact #[eA]
   ·rw[am (by intro z;injection z with z;exact k5 z)];refine(_,rfl,b3,K,o,l.trans sT,?_);rw[hfl,am (by rw[r,aV k4,aV k5];decide),ah];exact g
 ·(intro S H' j;(let(s,U,Y,d):=3 j;let(rfl,M,A,o,l,O):=100 d))
  rw[JN]at o;have o:s=nA X q items f:=o;rw[<-OZ,cy,<-m5]at O;rw[1892];intro c C hc hdc Vm;refine(xy c C _ _ _ rfl ao rfl ?_);rw[d8];have sc:bp H' (upd (upd H' C (.own c)) c (.ins t.Match C (vz (.int (f:Int)) (.int (s:Int)) #[l0]))):=(a3 hdc).trans #[ig];refine ks m _ c hm (l.trans sc) (xx C D (l.free hc) J ?_ (sc _ _ O));rw[ao,m1,m2,o]
structure EdS(K:aA)(t:cI)(N:ae->Prop)(H:Hp)(ed:ae)(X:mj)(items:List Item):Prop where
 ob:∃(de d p dd sl:ae) (v2 w0 w2 w3 w4 w5 z:V) (pr vl:Int) (ps:List ae) (pc:ae->Piece) (cO:bB),H ed=some (.ins t.fP de (c6 #[iV] #[aI] v2 (.bl X.fold) #[BZ] #[BY]))/\H d=some (.ins t.dg dd (cR w0 #[pO] w2 w3 w4 w5))/\H sl=some #[oV]/\
  lP t N H p items/\WR pr vl X.asked/\Seen pc ps cO X/\∀a∈ps,∃(b:PB) (pr nx:ae),H a=some #[ca]/\b.sg=#[oa].sign/\cK K H b.ls #[vJ]
 ik:∀it∈items,FY it
 gk:ox false false 0 items=true
 Af:items.length<=40
def O0{N:ae->Prop}{b dx:ae}:¬JB N b #[iY]:=by rintro(q|q|q)<;>exact q rfl
def KO{N:ae->Prop}(h:H c=some o)(n:¬JB N c o)(k:dI c H H'):pD N H H':=λb u e z=>k b u e λq=>by subst q;rw[h]at e;cases e;exact n z
def ahA{dx:ae}{fs:List #[o]}(h:H c=some #[x])(k:dI c H H'){a:ae}(q:cK K H a xs):cK K H' a xs:=by
 rw[1944]
 ·exact .inl (.inl (k _ _ q #[na]))
 ·exact .inl (.inr (ob,k _ _ q #[na]))
 ·rw[2117]
abbrev CL(K:aA)(t:cI):Sp:=λvs H Q _=>∃(se dx ed:ae) (q:Nat) (N:ae->Prop) (X:mj) (items:List Item),vs=#[mt]/\H se=some #[go]/\EdS K t N H ed X items/\q<=X.text.length/\q<1000000/\∀H',dI se H H'->vE t N H' se X q items->Q .cG H'
def yl: #[6,t.mr,#[hE],CL K t]:=by
 exists T.sJ,js,"7"
 (let(r,dx,ed,q,N,X,items,m):=507 h;let(rfl,w,hE,hq,hqz,kk):=100 m)
 refine aK _ (aj (gr #[aq] (cb hr T.wA (KM T) T.x6 T.wj (ag (bH #[ct]) aw))) (aj (gr #[aq] (bH #[ct])) (aj #[ia] (aj (bQ 3 js.nd (d5 hr (adv T) T.U5 T.MG (ag (nq hr #[aq] T.dQ T.k9 (BR T) T.oY #[J]) aw))) (aj (bQ 4 js.nd (d5 hr (HI T) T.CA T.yd #[C])) (aj (bQ 5 js.nd #[pf]) (aj (bQ 6 js.nd #[pf]) (aj (iz PassesOwn.never rfl #[CS,#[eZ]] (o6 7 js.nd) (aj (bQ 8 js.nd (nq hr #[aq] T.dQ T.vy (Os T) T.z7 (ag #[zo] (ag #[pf] #[Cw,#[ct]])))) (aj (c9 (hR bi bR bS fE #[i] #[BE])) (aj (bQ 4 js.nd (eM hr #[vD] T.qc T.t9 (Nk T) T.yT)) (aj (bQ 5 js.nd (nq hr #[vD] T.qc T.oe (Fl T) T.rS (ag #[dy] #[cE]))) (aB (Bl 6 js.nd (bH #[vD]) akN))))))) (aj (c9 (Xg bi G5 G6 QV #[i])) (aB (gr #[aq] (d5 hr (yj T) T.xr T.u5 #[nr])))))))))))) ?_;rw[1891]
 (let(de,d,p,ddx,sl,v2,w0,w2,m):=8 (hE.ob);let(w3,w4,w5,z,pr,vl,ps,pc,cO,y2_):=9 m;let(U,hd,hsl,apo,ahB,W,hps):=120 y2_)
 rw[1894];have hz:=W.sz;have hlen:=W.len;simp[-ah,-aa,-ai,-aR,au,U,hd,T.cg,T.cv,cJ,T.bo,T.cP,dc];intro x dxx hx apq Vm;have s1:bp H (upd (upd H dxx #[gS]) x (.ins t.dP dxx [])):=(a3 apq).trans #[ie];refine(x6_ x dxx sl ps z cO (rfl,ao,s1 _ _ hsl,hlen.1,hz,λi p hp=> ?_,λH1 k1 htx=> ?_))
 ·let(b,pr,nx,h1,h2,h3):=43 (hps p (bO hp));exact(x3_ b pr nx (s1 _ _ h1,by rw[W.sg,bz,hp,h2];rfl))
 have s2:bp H H1:=λb o e=>k1 b o (s1 b o e) (a5 e hx);refine(rfl,vB _ _ _ (s2 _ _ w) T.dQ T.fI #[c] ?_);rw[Ya];have nes:∀{b:ae} {o:HO},H b=some o->o≠ .ins t.Search dx []->b≠r:=λe n=>dt e w n;have ned:ed≠r:=nes U #[ag];let(dxt,lp,dd,o5,ht1,ht2,ht3,ht4):=64 htx;have nxs:x≠r:=λz=>by rw[z,w]at hx;cases hx
 obtain⟨H2,C⟩:∃H2,H2=upd H1 r #[iX]:=#[O];rw[<-C];have h2:H2 r=some #[iX]:=by rw[C,ao]
 have k2:dI r H H2:=λb o e n=>by rw[C,aE n];exact s2 _ _ e
 have tx2:H2 x=some #[sy]:=by rw[C,aE nxs];exact ht1
 have alC:=s2 _ _ w;have tl2:H2 lp=some #[T]:=by rw[C,aE (dt ht2 alC #[b])];exact ht2
 have td2:H2 dd=some #[tj]:=by rw[C,aE (dt ht3 alC #[b])];exact ht3
 clear C;let(dxp,L,Sj,hNf,hp,O,hit):=63 apo;have apr:p≠r:=nes hp #[ag];refine(b9 _ _ _ (k2 _ _ U ned) T.cg T.kf _ tj _ rfl (bZ _ _ _ (k2 _ _ hp apr) T.vu T.iR _ wH (vB _ _ _ h2 T.dQ T.jv #[qV] ?_)));rw[Yb];intro ls u;let(u,D):=20 (dz u);refine(vB _ _ _ (by rw[aE (λz=>D z.symm),ao]) T.dQ T.oX #[fj] ?_);rw[Yc];obtain⟨H3,Y⟩:∃H3,H3=upd (upd (upd H2 r (.ins t.Search dx [(("searched"),V.ref x),(("pattern_items"),V.ref L)])) ls #[ar]) r #[fr]:=#[O];rw[<-Y];have h3:H3 r=some #[fr]:=by rw[Y,ao]
 have h3l:H3 ls=some #[ar]:=by rw[Y,aE D,ao]
 have k23:dI r H2 H3:=λb o e n=>by rw[Y,aE n,aE (a5 e u),aE n];exact e
 have k3:dI r H H3:=k2.trans k23;have tx3:=k23 _ _ tx2 nxs;have tl3:=k23 _ _ tl2 (dt tl2 h2 #[b]);have td3:=k23 _ _ td2 (dt td2 h2 #[b]);clear Y;have lk1:#[g9].lookup #[ov]=some #[lp]:=rfl;have lk2:#[g9].lookup #[j7]=some (V.ref L):=rfl;have lk3:#[g9].lookup #[B3]=some (V.ref ls):=rfl;have lk4:#[g9].lookup ("positions_asked_for":Str)=none:=rfl;have lk5:#[g9].lookup ("step_of":Str)=none:=rfl;refine(c4 _ _ h3 lk4 (x8_ r dx x ed de _ _ _ (x8_ _ _ pr vl pc ps cO X (rfl,h3,lk1,(rV dxt lp dd o5 tx3 tl3 td3 ht4),W,k3 _ _ U ned,ahB,λa ha=> ?_,(λH4 B s4 hB=>(aK B rfl (λH5 lr s5 HF aps=>(cX (q+1) (by rw[show(#[DA,q]-1)=(q:Int) by simp_all]) #[kF] ?_))))))))
 ·let(b,pr,nx,Q,q2,q3):=43 (hps a ha);exact(x3_ b pr nx (k3 _ _ Q (nes Q #[ag]),ahA w k3 q3))
 have E:bp H3 H5:=s4.trans s5;have nlr:lr≠ls:=λz=>by rw[z]at HF;rw[s4 _ _ h3l]at HF;cases HF
 have nlp:lp≠ls:=a5 tl2 u;have hil:Sj.length=items.length:=Paired.length hit;have k5:dI r H H5:=k3.same E;have nlf:L≠r:=nes O #[b];refine bZ _ _ _ (E _ _ h3) T.dQ T.jv _ lk2 (c4 L _ rfl (a8.of (k5 _ _ O nlf)) ?_);refine yi (n:=items.length) (λi σ H'=>∃(G A Z:Nat) (c:List ae) (v7 v8:Option V),σ=[some #[wm],some #[mF],some #[pD],some #[yL],some #[pF],some (V.int (A:Int)),some (V.int (Z:Int)),v7,v8]/\H' r=some #[fr]/\H' x=some #[sy]/\H' lp=some #[T]/\H' dd=some #[tj]/\H' lr=some (.lst (nums ((cw 99).map (runN B))))/\H' ls=some #[Da,#[nk]]/\c.length=i/\dI r H H'/\xV X q #[m0] G A Z/\∀j it,j<i->items[items.length-1-j]?=some it->∃(a:ae) (st:Nat) (P:List (Nat×Nat)),c[j]?=some a/\sj t (λl=>l≠ls) H' a st P/\lZ st P (ch X q it (items.drop (items.length-1-j+1)))) (x6_ #[iU] #[iU] #[iU] ([]) none none (rfl,E _ _ h3,E _ _ tx3,E _ _ tl3,E _ _ td3,aps,E _ _ h3l,rfl,k5,by rw[K6,JN];exact xV.nil hq,λj it hj _=>by simp_all)) ?_ ?_ ?_ ?_
 ·(intro i σ H' hi I;(let(G,A',Z,c,v7,v8,m):=6 I;let(rfl,Q,q2,q3,q4,q5,R,q7,q8,q9,q10):=200 m))
  exact(by rw[aD];simp_all,fi _ _ #[rD] #[kb])
 ·(intro σ H' I;(let(G,A',Z,c,v7,v8,m):=6 I;let(rfl,_):=20 m))
  show #[zY].length<=_;rw[aD];simp_all
 ·(intro i σ H' hi I;(let(G,A',Z,c,v7,v8,m):=6 I;let(rfl,Q,q2,q3,q4,q5,R,q7,q8,q9,q10):=200 m);intro y Zl Sb;let(rfl,hy):=20 Sb)
  have hy:=hy _ #[rD];rw[aD,hil]at hy;let(pp,hpp,rfl):=21 #[qE];have amA:pD N H Zl:=KO w O0 q8;let(it,M,hI):=21 (iZ (fW.stays amA hit) hpp);have hdr:items.drop #[h9]=it::items.drop (items.length-i):=by rw[iY #[bJ]];rw[aN #[f]]at M;rw[dm.inj M,show items.length-1-i+1=items.length-i by lia]
  rw[1892];refine(c4 _ _ Q lk5 (bZ _ _ _ (q8 _ _ U ned) T.cg T.mH _ ML (x8_ r dx x pp _ G q pc (x6_ ps cO X it #[m0] N (rfl,Q,lk1,(rV dxt lp dd o5 q2 q3 q4 ht4),W,hI,hE.ik it (bO M),hq,q9.g,(λH6 a st P s6 hst his=> ?_))))));have ahz:=hE.Af;refine(jc _ _ _ (s6 _ _ Q) T.dQ T.oX (cX _ lk3 #[B8,#[sT]] (eU ls rfl _ #[sT] #[er] (aK a rfl ?_))));have v:sj t (λl=>l≠ls) #[vs] a st P:=(hst.mono (λl hl z=>by rw[z,R]at hl;cases hl)).off #[sT];have f:∀b o,Zl b=some o->b≠ls->upd H6 ls #[bA] b=some o:=λb o e n=>by rw[aE n];exact s6 _ _ e
  have alF:∀(b:ae) (st:Nat) (P:List (Nat×Nat)),sj t (λl=>l≠ls) Zl b st P->sj t (λl=>l≠ls) #[vs] b st P:=λb st P h=>(h.same s6).off #[sT];have alG:upd H6 ls #[bA] ls=some (.lst ((c++[a]).map V.ref)):=by rw[ao,bb];rfl
  generalize upd H6 ls #[bA]=H7 at v f alF alG;have amB:=v;let(dxa,la,rsa,_,Zk,_,_):=63 amB;refine(c4 _ _ Zk MP (CF a st P rfl v.at (λG' hG'=>(aK a rfl (c4 _ _ Zk Fb (Bm a lr st B A' P rfl v.at (f _ _ q5 nlr) (λk S hm=>(#[xj].2.1,#[xj].2.2.1)) (λA2 hA2=> ?_)))))));refine(aK a rfl (b9 _ _ _ Zk T.qc T.mZ _ vA _ rfl (a7 G' rfl A2 rfl (Z&&&st,(?_,f _ _ Q D.symm,f _ _ q2 (dt q2 R #[b]),f _ _ q3 nlp,f _ _ q4 (dt q4 R #[b]),f _ _ q5 nlr,(c++[a],(alG,by rw[aM,q7];rfl,?_,?_,?_)))))))
  ·rw[Em]
  ·intro b o e n;refine f b o (q8 b o e n) λz=> ?_;rw[z]at e;rw[k2 _ _ e D]at u;cases u
  ·rw[show items.length-(i+1)=items.length-1-i by lia,hdr];refine xV.cons hq q9 his hG' λs=> ?_;rw[hA2];simp only[hB]
  ·intro j it' hj J;by_cases hji:j=i
   ·subst hji;rw[M]at J;cases J;refine(aK a ?_ (fi st P v ?_))
    ·rw[fh #[j],q7,pF];rfl
    ·rw[show items.length-1-j+1=items.length-j by lia];exact his
   ·let(a',st',mv',r1,r2,r3):=43 (q10 j it' #[f] J);exact(aK a' (by rw[oO #[f]];exact r1) (fi st' mv' (alF _ _ _ r2) r3))
 ·(intro σ H' I;(let(G,A',Z,c,v7,v8,m):=6 I;let(rfl,Q,q2,q3,q4,q5,R,q7,q8,q9,q10):=200 m))
  rw[1892];have nsl:r≠ls:=D.symm;refine(jc _ _ _ Q T.dQ T.oX (cX _ lk3 #[B8,R] (a7 ls rfl _ R (fi A' Z rfl (vB _ _ _ (by rw[aE nsl];exact Q) T.dQ T.gY (by show 3<1000;decide) ?_)))));rw[Yd];have hn0:H ls=none:=by
   cases e:H ls with
   |none=>rfl
   |some o=>rw[k2 _ _ e D]at u;cases u
  refine kk _ (λb o e n=>by rw[aE n,aE (a5 e hn0)];exact q8 b o e n) ⟨(x9_ dx L ls #[lp] Sj c.reverse G A' Z (by rw[ao];rfl,?_,?_,?_,?_,?_,?_)),hq,hE.gk,by have:=hE.Af;lia⟩
  ·rw[aE nlf,aE (a5 O hn0)];exact q8 _ _ O nlf
  ·refine fW.stays (KO w O0 λb o e n=> ?_) hit;rw[aE n,aE (a5 e hn0)];exact q8 b o e n
  ·rw[aE D,ao,<-gD]
  ·rw[fK];exact q7
  ·intro i it hi;have FL:=jY hi;let(a,st,P,r1,r2,r3):=43 (q10 #[h9] it #[f] (by rw[show items.length-1-#[h9]=i by lia];exact hi));rw[show items.length-1-#[h9]=i by lia]at r3;refine(CF a st P ?_ ?_ r3)
   ·rw[sk #[f],q7];exact r1
   ·let(dxa,la,rsa,r20,r21,r22,r23):=63 (r2.off (o:= .lst #[nk].reverse) R);have ahC:upd H' ls (.lst #[nk].reverse) r=some #[fr]:=by rw[aE nsl];exact Q
    exact(CF dxa la rsa (by rw[aE (dt r21 ahC #[ag])];exact r21) (by rw[aE (dt r22 ahC #[b])];exact r22) (r23.keep λb xs q=>by rw[aE #[Cj,ahC]];exact q))
  ·rw[pF,rZ]at q9;exact q9
def vE.same{N:ae->Prop}{q:Nat}{items:List Item}(h:vE t N H se X q items)(s:bp H H'):vE t N H' se X q items:=by
 (let(dx,e,ls,v,b,c,G,A,Z,d):=9 (h.ob);let(f,g,j,k,h5,l,m):=120 d)
 exact⟨(x9_ dx e ls v b c G A Z (s _ _ f,s _ _ g,fW.stays (pD.same s) j,s _ _ k,h5,λi it n=>by let(a,st,o,p,r,u):=43 (l i it n);exact(CF a st o p (r.same s) u),m)),h.qk,h.gk,h.Af⟩
abbrev ym(t:cI):Sp:=λvs H Q _=>∃(se:ae) (s:Nat) (N:ae->Prop) (X:mj) (q:Nat) (items:List Item),vs=#[jh]/\vE t N H se X q items/\(c3 X q items s=[]->Q .cG H)/\∀m H' c,c3 X q items s=m::c3 X q items m.last->pH X q items m.first=some m->bp H H'->iW t (λb=>H b=none) H' c m->Q #[hu] H'
def uK: #[4,t.fM,#[a6],ym t]:=by
 exists T.og,Ai,"6"
 (let(w,d,N,X,q,items,f):=506 h;let(rfl,l,x,y):=60 f)
 refine aK _ (aj (bQ 2 Ai.nd (d5 hr (Wl T) T.MF T.Gm #[zS])) (aB (aW (wM #[CD,T.DA] Az (nq hr #[aq] T.dQ T.qB (DK T) T.ua #[C]))))) ?_;rw[1891]
 (let(dx,I,ls,v,A,B,G,n,Z,f):=9 (l.ob);let(s,J,K,L,h5,M,C):=120 f)
 have k:=l.qk;have g:∀p,(wo n Z).testBit p=(pH X q items p).isSome:=λp=>xV.UX k C p;simp[-ah,-aa,-ai,-aR,au,s,T.dQ,T.gY,u7];refine(c4 (wo n Z) d rfl (λh0=> ?_) (λj D=> ?_))
 ·rw[1899];rw[1898];refine x (NJ k _ d rfl λp O=> ?_);have:(wo n Z/2^d).testBit (p-d)=false:=by rw[h0,jw]
  rw[Fy,show d+(p-d)=p by simp_all,g]at this;cases e:pH X q items p with
  |none=>rfl
  |some m=>rw[e]at this;rw[1908]
 ·rw[1899];let(u,E):=20 D;rw[Fy,g]at u;let(m,hm):=1 (du.mp u);rw[am (by intro z;injection z with z;contradiction)];refine(c4 _ _ s DE (x6_ w (d+j) N X q items (o3 rfl l (λe=>by rw[e]at hm;cases hm) (λo H' c e sm F=> ?_))));let(_,_,_,r):=60 (nL k e);have H:o.first=d+j:=by rw[r]
  refine y o H' c (S7 k _ d (d+j) o rfl #[j] (λi a b=> ?_) e) (by rw[H];exact e) sm F;have:=E (i-d) #[f];rw[Fy,show d+(i-d)=i by lia,g]at this;cases e:pH X q items i with
  |none=>rfl
  |some m=>rw[e]at this;rw[1908]
def iW.same{N:ae->Prop}{m:bq}(h:iW t N H c m)(s:bp H H'):iW t N H' c m:=by let(dx,l,a,b,d,e):=62 h;exact(xx dx l a b #[AG] (s _ _ e))
def iW.mono{N:ae->Prop}{m:bq}(h:iW t N H c m)(k:∀b,N b->N' b):iW t N' H c m:=by let(dx,l,a,d,e,f):=62 h;exact(xx dx l (k _ a) (k _ d) e f)
def iW.off{N:ae->Prop}{b:ae}{m:bq}(h:iW t N H c m)(n:¬N b):iW t N #[qv] c m:=by let(dx,l,a,d,e,f):=62 h;exact(xx dx l a d (by rw[aE (λz=>n (by rw[<-z];exact a))];exact e) (by rw[aE (λz=>n (by rw[<-z];exact d))];exact f))
nonrec abbrev MatchesAt (t:cI) (N:ae->Prop) (H:Hp) (cs:List ae) (l:List bq):Prop:=Paired (λc m=>iW t N H c m) cs l
def GE{R:VK}(h:∀v H1,R v H1->Q v H1)(q:ym t vs H R E):ym t vs H Q E:=by
 (let(b,s,N,X,q,items,a):=6 q;let(d,f,g,i):=60 a)
 exact(x6_ b s N X q items (o3 d f (λe=>h _ _ (g e)) (λm H' c j k l n=>h _ _ (i m H' c j k l n))))
abbrev HJ(t:cI):Sp:=λvs H Q _=>∃(se:ae) (s:Nat) (N:ae->Prop) (X:mj) (q:Nat) (items:List Item),vs=#[jh]/\vE t N H se X q items/\q<1000000/\∀H' l cs,bp H H'->H l=none->H' l=some #[bX]->MatchesAt t (λb=>H b=none/\b≠l) H' cs (c3 X q items s)->Q #[co] H'
def tQ: #[5,t.fw,#[a6],HJ t]:=by
 exists T.ng,pb,"6"
 (let(x,i,N,X,q,items,d):=506 h;let(rfl,y,hz,P):=60 d)
 refine aK _ (aj #[C9,pb.nd] (aj (bQ 3 pb.nd (nq hr #[aq] T.dQ T.lb (uK T) T.og #[J])) (aj (ry PassesOwn.never (LM (aiI #[dy])) (aj #[lM] (aB (bQ 3 pb.nd (nq hr #[aq] T.dQ T.lb (uK T) T.og #[Cw,#[hT]]))))) #[hV]))) ?_;rw[1891];have Q:=y.qk;have K:aS=16777216:=cH;have L:=(XI (items:=items) Q _ i rfl).2.2
 (let(dx,lf,ls,v,R,S,G,A',Z,d):=9 (y.ob);let(M,_):=20 d)
 rw[1892];intro l A;have sl:bp H #[dt]:=a3 A;have U:upd H l #[ar] l≠none:=by rw[ao];intro z;cases z
 let p:ae->Prop:=λb=>H b=none/\b≠l
 let Inv:V->Hp->Prop:=λv H'=>∃(done:List bq) (cs:List ae),bp H H'/\H' l=some #[bX]/\MatchesAt t p H' cs done/\((v= .cG/\c3 X q items i=done)\/∃m c,v= .ref c/\iW t p H' c m/\c3 X q items i=done++m::c3 X q items m.last)
 have next:∀(r:Nat) (H':Hp) (done:List bq) (cs:List ae),bp H H'->H' l=some #[bX]->MatchesAt t p H' cs done->c3 X q items i=done++c3 X q items r->ym t [.ref x,.int (r:Int)] H' (λv s=>Inv v s/\s l=some #[bX]) E0:=λr H' done cs j g n u=>by refine(x6_ x r N X q items (o3 rfl (y.same j) (λe=>⟨(xx done cs j g n (.inl (rfl,by rw[u,e,ah]))),g⟩) (λm s c e e2 sm w=>⟨(xx done cs (j.trans sm) (sm _ _ g) (L2.Paired.imp' (λa b h=>h.same sm) n) (.inr (c4 m c rfl (w.mono λb B=>(j.free B,λz=>by rw[z,g]at B;cases B)) (by rw[u,e])))),sm _ _ g⟩)))
 refine(c4 _ _ (sl _ _ M) uG (GE ?_ (next i _ [] [] sl ao Paired.nil rfl)))
 (intro v s f;let(W,_):=20 f)
 refine rz (λC H'=>∃v,C=[some #[lp],some (V.int (i:Int)),some #[pC],some v]/\Inv v H') (λC H'=>match H' l with|some (.lst xs)=>q+1-xs.length|_=>0) (aK v rfl W) ?_ (akQ (ajl ew))
 (intro C H' f;(let(v,rfl,d):=21 f;obtain⟨done,cs,j,g,n,u⟩:=d))
 have Y:cs.length=done.length:=Paired.length n;rw[1892];rcases u with⟨rfl,e⟩|⟨m,c,rfl,w,e⟩
 ·rw[1898];refine P H' l cs j A g ?_;rw[e];exact n
 ·rw[am (λz=>nomatch z)];have hdl:done.length+1<=(c3 X q items i).length:=by rw[e,aM,ak];simp_all
  refine(.inl (rfl,_,a8.of g),_,g,by rw[aD];omega,?_);have k:¬p l:=λz=>z.2 rfl;have D:=w.off (o:= .lst #[hO]) k;let(dxc,lc,_,_,E,_):=62 D;have O:bp H (upd H' l #[Da,#[hO]]):=λb o z=>by rw[aE (a5 z A)];exact j _ _ z
  have I:upd H' l #[Da,#[hO]] l=some (.lst ((cs++[c]).map V.ref)):=by rw[ao,bb];rfl
  refine(c4 _ _ (O _ _ M) uG (aK c rfl (bZ _ _ _ E T.iA T.kJ _ oD ?_)));refine GE ?_ (next m.last _ (done++[m]) (cs++[c]) O I (OT (L2.Paired.imp' (λa b h=>h.off k) n) (w.off k)) (by rw[e,fz];rfl))
  (intro v H2 f;let(hi,J):=20 f)
  refine(hi,?_);rw[J,g];rw[1897];rw[aD,aD,aM];show q+1-(cs.length+1)<q+1-cs.length;omega
def iV.same(s:bp H H'){l:List hJ}(h:iV H rs l):iV H' rs l:=h.keep λb xs q=>s _ _ q
abbrev iM(m:bq)(l:List hJ):Nat:=(l.map (S9 m)).sum
def afL(m:bq)(l:List hJ)(p:hJ):iM m #[zw]=iM m l+S9 m p:=by unfold iM;rw[bb,Ex];simp
abbrev ajF(t:cI):Sp:=λvs H Q _=>∃(lp c:ae) (rs:List ae) (a:List hJ) (m:bq) (N:ae->Prop) (E:Nat),vs=[.ref lp,.ref c]/\H lp=some #[ax]/\iV H rs a/\iW t N H c m/\fc E m/\∀H',bp H H'->Q (.int (iM m a:Int)) H'
def uL: #[2,t.fL,#[mN],ajF t]:=by
 exists T.n8,jU,"7"
 (let(A,c,C,d,m,N,D,u):=507 h;let(rfl,e,f,E,hm,F):=100 u)
 refine aK _ (aj (bQ 2 jU.nd a6) (aj (iz PassesOwn.never rfl #[sZ] (o6 3 jU.nd) (aB (bX (f7 gf #[AN] #[sf]) #[C3,jU.nd] (aj (bQ 4 jU.nd (nq hr #[aZ] T.iA T.pM (B0 T) T.sY #[gf])) (aB (Bl 2 jU.nd (cV ji #[b9] #[b9]) wO)))))) #[hV])) ?_;rw[1891];let(v,G,_,_,g,w):=62 E;rw[1892];refine uH (a:=A) (xs:=C.map V.ref) (λi n H'=>∃(o q:Option V),n=[some (V.ref A),some #[nz],some (V.int (iM m (d.take i):Int)),o,q]/\bp H H') rfl #[wf] (fi none none rfl (λ_ _ h=>h)) ?_ ?_ ?_
 ·(intro i n H' _ b;let(o,q,rfl,hs):=22 b)
  exact a8.of (hs _ _ e)
 ·(intro i y n H' I b;let(o,q,rfl,hs):=22 b)
  let(r,hr,rfl):=21 (iU I);let(p,J,j):=21 (iZ (f.same hs) hr);rw[take_snoc J,afL];cases p with
  |sign ch=>have s:cK K H' r #[rn]:=cK.of j;rw[1892];refine #[r9];rw[1898];exact(rfl,hs)
  |group k=>
   have s:cK K H' r #[rN]:=cK.of j;rw[1892];refine #[r9];rw[1953];refine(c4 _ _ #[yj] BX (a7 _ s _ rfl (xy c v G k m rfl #[yj] (hs _ _ w) (λB x=> ?_))));have l:cK K (upd H' B #[nD]) B #[B]:=cK.of ao;refine(a7 _ rfl _ l (a7 _ rfl _ rfl (a7 _ l _ rfl (eU _ rfl _ rfl ?_ (hs.trans (a3 x))))));have:=(hm.str k).1;show(#[dA].2:Int)-(#[dA].1:Int)=((#[dA].2-#[dA].1:Nat):Int)
   lia
 ·(intro n H' b;let(o,q,rfl,hs):=22 b)
  rw[aD,Paired.length f,cy];exact F H' hs
def abN:WM (λxs H Q=>∃i j,xs=[V.int i,V.int j]/\Q (V.int #[rt]) H):=λ_ _ _ _ m z=>e2_1 z λi j a q=>(fi i j a #[jQ])
abbrev intAt(σ:L2.St)(i:Nat):Int:=match σ[i]? with
 |some (some (V.int k))=>k
 |_=>0
abbrev ahD(K:aA):Sp:=λvs H Q _=>∃(a b:ae) (l r:bB),vs=#[o4]/\a8 K H a #[f6]/\a8 K H b (nums r)/\Q (.int (cS l r:Int)) H
def LA: #[1,t.gF,#[hF],ahD K]:=by
 exists T.xq,wf,"4";rw[1994];refine aK _ (aj (bQ 2 wf.nd a6) (aj (ry PassesOwn.never (PW.pt (QF #[cZ] (Nv (f7 gf (yu #[aq] #[bG]) (yu #[aZ] #[bG])))))
    #[C3,wf.nd])
   #[hV])) ?_
 rw[1891];refine rz (λd H'=>∃k:Nat,d=#[is]/\H'=H/\k<=l.length/\k<=r.length/\∀i,i<k->l[i]?=r[i]?) (λd H'=>l.length-(intAt d 2).toNat) #[hz] ?_ (YO #[du] (rm (pC ac8 #[AK] #[AK])))
 (intro d H' f;let(k,rfl,rfl,s,u,g):=81 f)
 rw[1892];refine #[oO];rw[bG,bG];by_cases e:k<l.length/\k<r.length
 ·have j:(k:Int)<if r.length<l.length then #[zm]else #[qA]:=by split<;>simp_all
  rw[aq j];have m:=aN e.1;have n:=aN e.2;refine(a7 _ p _ (oq (by rw[jd,m];rfl)) (eU _ q _ (oq #[v7]) rfl ?_));by_cases he:l[k]'e.1=r[k]'e.2
  ·rw[aq (by rw[he])];refine #[ha]
   ·by_cases o:i=k
    ·subst o;rw[m,n,he]
    ·exact g i #[f]
   ·show l.length-#[ri].toNat<l.length-(k:Int).toNat
    lia
  ·rw[1953];rw[FV k l r s u g #[fY]]at c;exact c
 ·rw[am #[xz]];rw[FV k l r s u g #[f]]at c;exact c
abbrev afM(K:aA):Sp:=λvs H Q _=>∃(a b:ae) (l r:bB),vs=#[o4]/\a8 K H a #[f6]/\a8 K H b (nums r)/\Q (.int (cS l.reverse r.reverse:Int)) H
def Zm{l:bB}{k:Nat}(h:k<l.length):uZ #[f6] (-1-(k:Int))=(l.reverse[k]?).map λ(c:Nat)=>V.int (c:Int):=by
 unfold uZ OB;rw[bG,am #[f],aq #[f],sk h,<-jd];show #[f6][_]?=_;congr 1
 lia
def Ot: #[1,t.i5,#[hF],afM K]:=by
 exists T.z0,yM,"4";rw[1994];refine aK _ (aj (bQ 2 yM.nd a6) (aj (ry PassesOwn.never (PW.pt (QF #[cZ] (Nv (f7 gf (yu #[aq] #[tM]) (yu #[aZ] #[tM])))))
    #[C3,yM.nd])
   #[hV])) ?_
 rw[1891];refine rz (λd H'=>∃k:Nat,d=#[is]/\H'=H/\k<=l.reverse.length/\k<=r.reverse.length/\∀i,i<k->l.reverse[i]?=r.reverse[i]?) (λd H'=>l.length-(intAt d 2).toNat) #[hz] ?_ (YO #[du] (rm (pC ac8 #[mX] #[mX])))
 (intro d H' f;let(k,rfl,rfl,s,u,g):=81 f)
 simp[-ah,-aa,-ai,-aR,au,-fK,-sk];refine #[oO];rw[bG,bG];have w:l.reverse.length=l.length:=fK;have x:r.reverse.length=r.length:=fK;by_cases e:k<l.reverse.length/\k<r.reverse.length
 ·have j:(k:Int)<if r.length<l.length then #[zm]else #[qA]:=by split<;>simp_all
  rw[aq j];have m:=aN e.1;have n:=aN e.2;refine(a7 _ p _ (by rw[Zm #[f],m];rfl) (eU _ q _ (by rw[Zm #[f],n];rfl) rfl ?_));by_cases he:l.reverse[k]'e.1=r.reverse[k]'e.2
  ·rw[aq (by rw[he])];refine #[ha]
   ·by_cases o:i=k
    ·subst o;rw[m,n,he]
    ·exact g i #[f]
   ·show l.length-#[ri].toNat<l.length-(k:Int).toNat
    lia
  ·rw[1953];rw[FV k _ _ s u g #[fY]]at c;exact c
 ·rw[am #[xz]];rw[FV k _ _ s u g #[f]]at c;exact c
def DocOk.Sk{ρ:bj}{d:ae}{g:Gh}{s:aU}(h:DocOk K t ρ H d g s):∀p∈g.sh,p∈g.ps:=λp a=>by rw[h.Br]at a;exact #[po].1
def DocOk.Sl{ρ:bj}{d:ae}{g:Gh}{s:aU}(h:DocOk K t ρ H d g s):g.sh.map g.pc=bT s.row:=by rw[h.Br,Kb,h.row]
def DocOk.uM{ρ:bj}{d:ae}{g:Gh}{s:aU}(h:DocOk K t ρ H d g s):g.sh.length=ba s:=by have:=dA pR h.Sl;rw[aD]at this;exact this
def DocOk.signs{ρ:bj}{d:ae}{g:Gh}{s:aU}(h:DocOk K t ρ H d g s)(a b:Nat):R6 g #[fI]=dG (dw s) a b:=by unfold R6 dG dw;rw[<-h.Sl,fO,mh,gW];rfl
nonrec abbrev fx (s:aU) (m:bq) (a:List hJ):bB:=a.flatMap (wY (dw s) m)
def O1{s:aU}{m:bq}{l:List hJ}{p:hJ}:fx s m #[zw]=fx s m l++wY (dw s) m p:=by unfold fx;rw[ij];simp
def jC{a b:bB}:nums a++nums b=nums (a++b):=by unfold nums;rw[bb]
abbrev afN(K:aA)(t:cI):Sp:=λvs H Q _=>∃(ρ:bj) (d lp c:ae) (g:Gh) (s:aU) (rs:List ae) (a:List hJ) (m:bq) (N:ae->Prop),vs=#[qr]/\DocOk K t ρ H d g s/\H lp=some #[ax]/\iV H rs a/\iW t N H c m/\fc (ba s) m/\ba s<=1000000/\#[mA].length<aS/\∀H' l,bp H H'->H l=none->H' l=some #[Cd,#[mA]]->Q #[co] H'
def By: #[2,t.gg,#[gz],afN K t]:=by
 exists T.si,qF,"10"
 (let(ρ,d,Y,c,g,st,rs,f,R):=508 h;let(m,N,S):=502 R;let(rfl,hd,B,C,hc,hm,hz,hsz,kk):=160 S)
 refine aK _ (aj (bQ 3 qF.nd #[kC]) (aj (iz PassesOwn.never rfl #[yn] (o6 4 qF.nd) (aB (bX (f7 gf #[b9] #[sf]) (aB #[Cy,#[sj]]) (aj (bQ 5 qF.nd (nq hr #[bG] T.iA T.pM (B0 T) T.sY #[sj])) (aB (c9 (hR bi fT fU Dq #[dy] (ag (nq hr #[aq] T.bo T.kg (wI T) T.nZ (ag #[zs] #[Cw,#[zs]])) aw)))))))) #[cm])) ?_;rw[1891];have Z:aS=16777216:=cH;let(U,lg,_,_,D,W):=62 hc;rw[1892];intro ls q;refine uH (a:=Y) (xs:=rs.map V.ref) (λi J H'=>∃(L M:Option V),J=[some #[j1],some (V.ref Y),some #[nz],some (V.ref ls),L,M]/\bp H H'/\H' ls=some #[Cd,#[kw]]) rfl (a8.of (a3 q _ _ B)) (c4 none none rfl (a3 q) ao) ?_ ?_ ?_
 ·(intro i J H' _ n;let(L,M,rfl,hs,_):=42 n)
  exact a8.of (hs _ _ B)
 ·(intro i y J H' hy n;let(L,M,rfl,hs,A):=42 n)
  rw[2042];let(p,hp,E):=21 (iZ (C.same hs) hr);have j:(fx st m (f.take (i+1))).length<=#[vW].length:=by
   conv=>rhs;rw[<-fD (i+1) f]
   unfold fx;rw[ij,aM];lia
  rw[take_snoc hp,O1,aM]at j;rw[take_snoc hp,O1];have v:∀O o,bp H O->bp H (upd O ls o):=λO o s b u e=>by rw[aE (a5 e q)];exact s _ _ e
  cases p with
  |sign ch=>have G:cK K H' r #[rn]:=cK.of E;have j:#[kw].length+1<=#[vW].length:=j;rw[1892];refine #[sa];rw[1898];refine(gU #[B8,A] _ G (aK _ rfl (oZ _ A #[hS] (v _ _ hs) ?_)));rw[ao,<-jC];rfl
  |group k=>have G:cK K H' r #[rN]:=cK.of E;let(k1,k2):=20 (hm.str k);have k3:=hm.le;have j:#[kw].length+(dG (dw st) #[dA].1 #[dA].2).length<=#[vW].length:=j;rw[1892];refine #[sa];rw[1953];refine(c4 _ _ #[yk] BX (a7 _ G _ rfl (xy c U lg k m rfl #[yk] (hs _ _ W) (λP X=> ?_))));have Q:bp H' #[w4]:=a3 X;have w:cK K #[w4] P #[B]:=cK.of ao;have x:=Q _ _ A;have l:=hd.same (hs.trans Q);generalize upd H' P #[nD]=O at Q w x l;refine(.inl (rfl,_,a8.of x),c4 _ _ l.d.2 wD (a7 _ rfl _ w (a7 _ rfl _ rfl (a7 _ w _ rfl (x6_ ρ d g st (#[dA].1) (#[dA].2) (rfl,l.toe8,l.Sk,k1,by rw[l.uM];exact dk ‹_› ‹_›,by rw[l.uM];lia,(λH3 l3 s3 hn3 I=> ?_)))))));rw[l.signs]at I;refine(a7 l3 rfl _ (s3 _ _ x) (oZ _ I (by rw[bG,bG];lia) (v _ _ ((hs.trans Q).trans s3)) ?_));rw[ao,jC];rfl
 ·(intro J H' n;let(L,M,rfl,hs,A):=42 n)
  rw[aD,Paired.length C,cy]at A;exact kk H' ls hs q A
abbrev Wq(t:cI):Sp:=λvs H Q _=>∃(d lp c b sl:ae) (e f g h i:V) (sh:List V) (rs cs:List ae) (a:List hJ) (ms:List bq) (N:ae->Prop) (E:Nat),vs=#[qr]/\H d=some (.ins t.dg b (cR e #[pO] f g h i))/\H sl=some (.lst sh)/\H lp=some #[ax]/\iV H rs a/\H c=some #[bX]/\MatchesAt t N H cs ms/\(∀m∈ms,fc E m)/\∀H',bp H H'->Q (.int (#[ya]+#[rZ].sum)) H'
def B1: #[3,t.gE,#[a2],Wq t]:=by
 exists T.sX,sf,"17"
 (let(d,x,z,B,sl,K,L,M,p):=508 h;let(O,P,sh,C,cs,b,ms,N,D,q):=509 p;let(rfl,hd,r,s,u,g,j,v,E):=160 q)
 refine aK _ (aj (bQ 3 sf.nd #[fP]) (aj (iz PassesOwn.never rfl (gX #[bG]) (o6 4 sf.nd) (aB (Bl 3 sf.nd (cV ji (d5 hr (uL T) T.qK T.n8 #[Df,#[bS]]) (cV ji #[ba] #[ba])) wO))) #[cm])) ?_;rw[1891];simp[-ah,-aa,-ai,-aR,au,hd,T.bo,T.cP,dc];refine #[DB,r];refine uH (a:=z) (xs:=cs.map V.ref) (λi n H'=>∃(o:Option V),n=[some #[j1],some #[lp],some (V.ref z),some (V.int (#[ya]+((ms.take i).map λm=>((iM m b:Int)-#[nM])).sum)),o]/\bp H H') rfl (a8.of g) (aK none #[p] (λ_ _ h=>h)) ?_ ?_ ?_
 ·(intro i n H' _ e;let(o,rfl,hs):=21 e)
  exact a8.of #[yj]
 ·(intro i y n H' F e;let(o,rfl,hs):=21 e)
  let(c,G,rfl):=21 (iU F);let(m,hm,k):=21 (iZ j G);have l:=k.same hs;rw[take_snoc hm,bb,Ex];let(I,Q,_,_,w,J):=62 k;rw[1892];refine(x7_ x c C b m N D (rfl,hs _ _ s,u.same hs,l,v m #[yC],λR A=> ?_));have f:=A _ _ (hs _ _ w);refine(bZ _ _ _ f T.iA T.kJ _ oD (b9 _ _ _ f T.iA T.jn _ oh _ rfl (eU _ rfl _ rfl ?_ (hs.trans A))))
  lia
 ·(intro n H' e;let(o,rfl,hs):=21 e)
  rw[aD,Paired.length j,cy];exact E H' hs
def Zn{l:bB}{a:Nat}(h:a<=l.length):tK #[f6] (some (a:Int)) none=nums (l.drop a):=by unfold tK;rw[HT.Ad,HT.Xb,bG,jp h];unfold nums;rw[<-mh,BI (by rw[aD,bN];solve_by_elim)]
def alH{l:bB}{b:Nat}(h:b<=l.length):tK #[f6] none (some (b:Int))=nums (l.take b):=by unfold tK;rw[HT.Ad,HT.Xb,bG,jp h];unfold nums;rw[rZ,K6,<-gW]
abbrev Qh(K:aA)(t:cI):Sp:=λvs H Q _=>∃(ρ:bj) (d c b:ae) (g:Gh) (s:aU) (m:bq) (N:ae->Prop) (new:bB) (E:Nat),vs=[.ref d,.ref c,.ref b]/\DocOk K t ρ H d g s/\Good s/\iW t N H c m/\fc E m/\E+1<=ba s/\ba s<=500000/\s.changes.length+3<=aS/\a8 K H b (nums new)/\(∀c∈new,nJ (c:Int)=true)/\new.length<=2000/\∀a H' g' r,Ext ρ H a H'->DocOk K t a H' d g' (cU s #[jp])->H' r=some (.tup [.int (#[jp].new.length:Int),.int (#[jp].gone:Int)])->Q #[kQ] H'
def Qi: #[5,t.jJ,#[he],Qh K t]:=by
 exists T.Ba,gP,"10"
 (let(ρ,d,c,ln,g,st,m,N,M):=508 h;let(new,E1,O):=502 M;let(rfl,hd,J,P,hm,hE,hz,hch,w,R,hnl,S):=220 O)
 refine aK _ (aj (bQ 3 gP.nd (nq hr #[aq] T.bo T.kg (wI T) T.nZ #[qb])) (aj (bQ 4 gP.nd (d5 hr (LA T) T.DC T.xq #[pu])) (aj (bQ 5 gP.nd (cV rA #[ct] #[pf])) (aj (bQ 3 gP.nd (tJ Ae #[dy] (pZ #[pf]) Fu)) (aj (bQ 2 gP.nd (tJ Ae #[bG] (pZ #[pf]) Fu)) (aj (bQ 4 gP.nd (d5 hr (Ot T) T.Gk T.z0 #[pu])) (aj (bQ 6 gP.nd (tJ Ae #[bG] Fu (pZ (cV ji #[jB] #[pf])))) (aj (bQ 7 gP.nd (oi T.len #[zp])) (aj (bQ 8 gP.nd (cV ji #[ob] #[pf])) (aj (bX (f7 CY #[zo] a6) (aB (c9 (nq hr #[aq] T.bo T.uz (HH T) T.x9 #[nr]))) bw) (aj (bX (f7 CY #[vD] a6) (aB (c9 (nq hr #[aq] T.bo T.uA (HG T) T.ya (ag #[se] (ag (cV rA #[se] #[vD]) aw))))) bw) (aB (aW (lY (ag #[zo] #[BE]))))))))))))))) ?_;rw[1891];have y:aS=16777216:=cH;let(dxc,lg,_,_,z,hlg):=62 P;have m1:=hm.lt;have m2:=hm.le;simp[-ah,-aa,-ai,-aR,au,z,hd.d.2,T.iA,T.jn,T.kJ,oh,oD,wD];refine(x6_ ρ d g st m.first m.last (rfl,hd.toe8,hd.Sk,by exact pE ‹_›,by rw[hd.uM];lia,by rw[hd.uM];lia,λA lo U hn1 k=> ?_));rw[hd.signs]at k;have V:(dG (dw st) m.first m.last).length=m.last-m.first:=wX #[hQ];generalize hold:dG (dw st) m.first m.last=old at S k V;refine(rV lo ln old new rfl (a8.of k) (U.seq w) ?_);let(W,X):=20 (FU old new);refine(b9 _ _ _ (U _ _ z) T.iA T.jn _ oh _ rfl (a7 _ rfl _ rfl (a7 lo rfl _ (a8.of k) (λL Y=> ?_))));rw[Zn W];have s2:bp H #[x6]:=U.trans (a3 Y);refine(a7 _ rfl _ (s2.seq w) (λZ B=> ?_));rw[Zn X];obtain⟨l,f⟩:∃l,l=upd #[x6] Z #[ut]:=#[O];rw[<-f];have s3:bp H l:=by rw[f];exact s2.trans (a3 B)
 have C:l L=some #[ls]:=by rw[f];exact a3 B _ _ ao
 have o:l Z=some #[ut]:=by rw[f,ao]
 clear f;let(be1,be2):=20 (FU #[am].reverse #[av].reverse);rw[fK,bN]at be1 be2;have htl:=Kd old new m.first;have hta:#[gI].at_=m.first+cS old new:=rfl;have htn:#[gI].new=#[av].take (new.length-cS old new-cS #[am].reverse #[av].reverse):=rfl;have htg:#[gI].gone=old.length-cS old new-cS #[am].reverse #[av].reverse:=rfl;have cQ:AF st #[gI]:=(by lia,λc P=>R c (XG P));rw[Iq J cQ]at S;generalize kb old new m.first=a at*;refine(rV L Z _ _ rfl (a8.of C) #[wd] (a7 _ (.inl #[wd]) _ rfl (aK _ #[wd] (λu D=> ?_))));rw[bG,bN,show((new.length-cS old new:Nat):Int)-#[ka]=((new.length-cS old new-cS #[am].reverse #[av].reverse:Nat):Int) by lia,alH (by rw[bN];simp_all),<-htn];have s4:bp l (upd l u #[hv]):=a3 D;have h4:upd l u #[hv] u=some #[hv]:=ao;generalize upd l u #[hv]=H4 at s4 h4;have q:=s3.trans s4;have r:=hd.same q;have E:ρ u=none:=hd.role.free (s3.free D);refine(a7 _ #[Ce,h4] _ (.inl (a8.of (s4 _ _ C))) #[q]);rw[bG,bG,bN,show #[lv]-#[ka]=#[tY] by lia,show #[R]+(cS old new:Int)=#[nx] by simp_all];have F:∀b e j,Ext ρ H b e->DocOk K t b e d j (Ke #[vy] a)->2<=aS/\∀p,e p=none->Q #[aI] #[xW]:=λb e j v s=>(by rw[y];decide,λp hp=>S b _ j p (v.trans #[Dj,hp]) (s.same (a3 hp)) ao);have pg:=Mi J cQ;have pcn:=Kf J cQ;have pch:#[vy].changes.length<=st.changes.length+1:=by
  unfold tL;split
  ·solve_by_elim
  ·exact Pn.2
 have atA:=cQ.room;have n:∀b e j,Ext ρ H b e->DocOk K t b e d j #[vy]->if((cS #[am].reverse #[av].reverse:Nat):Int)<#[lv]then(∃x G,e d=some (.ins t.dg x G)/\G.lookup ("cut":Str)=none/\abJ K t [.ref d,.int (#[nx]+#[ih]),.int (#[nx]+#[ih]+#[tY])] e (λx A=>2<=aS/\∀p,A p=none->Q #[aI] (upd A p #[ce])) E0)
  else 2<=aS/\∀p,e p=none->Q #[aI] #[xW]:=λb e j v s=>by
  by_cases I:a.gone=0
  ·rw[1934];refine F b e j v ?_;unfold Ke;rw[aq I];exact s
  ·rw[1930];refine(c4 _ _ s.d.2 HA (x6_ b d j #[vy] (a.at_+a.new.length) (a.at_+a.new.length+a.gone) (by rw[show((a.at_+a.new.length+a.gone:Nat):Int)=#[nx]+#[ih]+#[tY] by rfl,show((a.at_+a.new.length:Nat):Int)=#[nx]+#[ih] by rfl],s,pg.1,by simp,by lia,by lia,by lia,(λρ6 H6 g6 e6 d6=>F ρ6 H6 g6 (v.trans e6) ?_))));unfold Ke;rw[am I];exact d6
 by_cases i:a.new=[]
 ·have Lm:a.new.length=0:=by rw[i];rfl
  rw[2091];refine n ρ H4 g #[CK,q] ?_;unfold tL;rw[aq (by rw[i];rfl)];exact r
 ·have Lm:0<a.new.length:=Ov.mpr i;rw[aq #[bJ]];refine(c4 _ _ r.d.2 Hz (x7_ ρ d u g st a.at_ a.new (rfl,r,J,by lia,a8.of h4,E,i,by exact pE ‹_›,by lia,by lia,(λb e j v s=>n b e j (#[CK,q].trans v) ?_))));unfold tL;rw[am (by rw[uQ];exact i)];exact s
def iW.ext{ρ a:bj}{m:bq}(h:iW t (λb=>ρ b=none) H c m)(e:Ext ρ H a H'):iW t (λb=>a b=none) H' c m:=by let(dx,l,d,f,g,i):=62 h;exact(xx dx l (#[yr].2) (#[yp].2) (#[yr].1) (#[yp].1))
def iV.ext{ρ a:bj}(k:dD ρ H)(e:IT ρ H a H'){l:List hJ}(h:iV H rs l):iV H' rs l:=h.keep λb xs q=>(e.not _ _ q (k.tup q)).1
abbrev di(s:aU)(a:List hJ)(m:bq):Vatrko.Trim:=kb #[bx] #[mA] m.first
def O2{s d:aU}{E:Nat}{a:List hJ}{m:bq}(f:sA a)(hs:Good s)(h:Kh s E d)(hm:fc E m)(g:E<=ba s):Kh s m.first #[nh]/\ba #[nh]+#[dL]=ba d+iM m a/\#[nh].changes.length<=d.changes.length+2:=by
 have b:∀c∈fx s m a,nJ (c:Int)=true:=Pp f (Po hs);let(e,i):=20 (h.step hm b);have n:=Ji h.good e;have j:=Kd #[bx] #[mA] m.first;have k:=hm.le;rw[wX (by rw[eZ];exact dk ‹_› ‹_›)]at j;have l:#[mA].length=iM m a:=wZ hm (by rw[eZ];exact g) a;refine(e7 i ?_ ((Ld h.good e).2));show ba (cU d (kb #[bx] #[mA] m.first))+_=_
 lia
abbrev hH(a:List hJ)(ms:List bq):Int:=#[rZ].sum
def Zo(c:List hJ)(a b:List bq):hH c (a++b)=hH c a+hH c b:=by unfold hH;rw[bb,Ex]
def abO(a:List hJ):∀(ms:List bq),(∀m∈ms,m.first<m.last)->-(widths ms:Int)<=hH a ms
 |[],_=>by unfold hH widths;simp
 |m::ms,h=>by
  have:=abO a ms λx b=>h x (a9 _ b);have d:=h m bg;rw[1969];have c:hH a (m::ms)=#[d8]+hH a ms:=by unfold hH;simp
  rw[e,c];lia
def adz(a b:List bq):widths (a++b)=widths a+widths b:=by unfold widths;rw[bb,Ex]
structure apt(s:aU)(parts:List hJ)(ms:List bq):Prop where
 ok:∀m∈ms,fc (ba s-1) m
 sep:ms.Pairwise λa b=>a.last<=b.first
 wd:widths ms<=ba s
 Af:ms.length<=ba s
 short:∀m∈ms,iM m parts<=2000
 all:(ba s:Int)+hH parts ms<=2001
abbrev Nm(K:aA)(t:cI):Sp:=λvs H Q _=>∃(ρ:bj) (d lp e:ae) (g:Gh) (s:aU) (rs cs:List ae) (a:List hJ) (ms:List bq),vs=[.ref d,.ref lp,.ref e]/\DocOk K t ρ H d g s/\Good s/\H lp=some #[ax]/\ρ lp=none/\iV H rs a/\sA a/\H e=some #[bX]/\ρ e=none/\MatchesAt t (λb=>ρ b=none) H cs ms/\apt s a ms/\ba s<=200000/\s.changes.length+2*ba s+3<=aS/\∀c H' g' r,Ext ρ H c H'->DocOk K t c H' d g' #[vc]->Good #[vc]->H' r=some (.tup [.int (dY (#[ee].map λt=>t.new.length):Int),.int (dY (#[ee].map λt=>t.gone):Int)])->Q #[kQ] H'
def DL: #[6,t.h8,#[a2],Nm K t]:=by
 exists T.t8,kc,"10"
 (let(ρ,d,lp,lm,g,st,rs,cs,z0_):=508 h;let(a,ms,b):=502 z0_;let(rfl,hd,Z,hlp,nlp,hps,F,w,G,I,k,hz,hch,kk):=260 b)
 refine aK _ (aj (bQ 3 kc.nd a6) (aj (bQ 4 kc.nd a6) (aj (iz PassesOwn.never rfl #[CS,#[C]] (o6 5 kc.nd) (aj (bQ 6 kc.nd (d5 hr (Qi T) T.Hv T.Ba (ag #[aq] (ag (pv 5) (ag (d5 hr (By T) T.wh T.si (ag #[aq] #[Df,#[cE]])) aw))))) (aj (Bl 3 kc.nd #[lI] wO) (aB (Bl 4 kc.nd #[lI] wO))))) #[Dm,#[op]]))) ?_;rw[1891];have J:aS=16777216:=cH;have Vj:cs.length=ms.length:=Paired.length I;have hcp:=iN Z;obtain⟨D,L⟩:∃D:Nat->aU,∀i,D i=#[ex].foldl cU st:=#[h3];obtain⟨Tn,o⟩:∃D:Nat->Nat,∀i,D i=dY (#[ex].map λt=>t.new.length):=#[h3];obtain⟨Tg,p⟩:∃D:Nat->Nat,∀i,D i=dY (#[ex].map λt=>t.gone):=#[h3];have z:ms.reverse.take ms.length=ms.reverse:=by rw[<-fK,cy]
 rw[<-z,<-L,<-o,<-p]at kk;have C:D 0=st:=L 0;have DS:∀i m,ms.reverse[i]?=some m->D (i+1)=cU (D i) #[nc]/\Tn (i+1)=Tn i+#[nc].new.length/\Tg (i+1)=Tg i+#[nc].gone:=λi m h=>by rw[L,L,o,o,p,p,take_snoc h];rw[bb,bb,bb,HY];exact(e7 rfl (XN _ _) (XN _ _))
 have T0:Tn 0=0/\Tg 0=0:=(o 0,p 0);clear L o p;rw[1892];refine c4 lm _ rfl (a8.of w) ?_;refine yi (n:=ms.length) (λi M H'=>∃(e:bj) (g':Gh) (E:Nat) (N O:Option V),M=[some #[j1],some (V.ref lp),some #[yM],some (V.int (Tn i:Int)),some (V.int (Tg i:Int)),N,O]/\Ext ρ H e H'/\DocOk K t e H' d g' (D i)/\Kh st E (D i)/\E<=ba st/\(∀m∈ms.take (ms.length-i),fc E m)/\(ba (D i):Int)=ba st+hH a #[yc]/\(D i).changes.length<=st.changes.length+2*i) (x5_ ρ g (ba st-1) none none (by rw[T0.1,T0.2];rfl,Ext.refl,by rw[C];exact hd,(by rw[C];exact Z,by rw[C];simp_all,by rw[C]),by simp_all,λm hm=>k.ok m (kq hm),?_,by rw[C];solve_by_elim)) ?_ ?_ ?_ ?_
 ·rw[C,K6,JN];unfold hH;simp
 ·(intro i M H' hi l;(let(e,g',P,N,O,b):=5 l;let(rfl,q,Q,u,b1,c1,f1,h1):=140 b))
  exact(by rw[aD];simp_all,fi _ _ #[pw] #[kb])
 ·(intro M H' l;(let(e,g',P,N,O,b):=5 l;let(rfl,_):=20 b))
  show #[qS].length<=_;rw[aD];simp_all
 ·(intro i M H' hi l;(let(e,g',P,N,O,b):=5 l;let(rfl,q,Q,u,b1,c1,f1,h1):=140 b);intro y Zl Sb;let(rfl,hy):=20 Sb)
  have hy:=hy _ #[pw];rw[aD,Vj]at hy;let(c,hc,rfl):=21 #[qE];let(m,hm,s):=21 (iZ I hc);have s:=s.ext q;have hrv:ms.reverse[i]?=some m:=by rw[sk hi];exact hm
  have f:fc P m:=c1 m (fC.mpr (ms.length-1-i,by rw[jf,aq #[f]];exact hm));let(x1,x2,x3):=40 (DS i m hrv);generalize D i=R at*;let(t1,t2,t3):=40 (O2 F Z u f b1);have hle:=f.le;have S:fx R m a=fx st m a:=ZT f u.same a;have hst:dG (dw R) m.first m.last=dG (dw st) m.first m.last:=Vz hle u.same;have U:(fx st m a).length=iM m a:=wZ f (by rw[eZ];exact b1) a;have hsh:=k.short m #[yC];have hci:ba R<=2001+ba st:=by
   have g1:=k.all;rw[<-fD #[eT] ms,Zo]at g1;have g2:=abO a (ms.take #[eT]) λx hx=>(k.ok x (kq hx)).lt;have g3:=k.wd;rw[<-fD #[eT] ms,adz]at g3
   lia
  have A:=u.room;have hfw:=k.Af;rw[1892];refine(x10_ e d lp c g' R rs a m _ (rfl,Q,(q.not _ _ hlp nlp).1,hps.ext hd.role q.toIT,s,(f.lt,by lia,f.gs),by lia,by rw[S,U];lia,λH3 ln s3 hn3 W=> ?_));rw[S]at W;refine(x10_ e d c ln g' R m _ (fx st m a) P (rfl,Q.same s3,u.good,s.same s3,f,A,by lia,by lia,a8.of W,Pp F (Po Z),by rw[U];exact hsh,λρ4 H4 g4 r e4 d4 hr=> ?_));rw[hst]at d4 hr;have hT:cK K H4 r [.int (#[nc].new.length:Int),.int (#[nc].gone:Int)]:=cK.of hr;have hm1:=f.lt;refine(a7 r rfl _ hT (a7 _ rfl _ rfl (a7 r rfl _ hT (aK _ rfl (oZ _ rfl (by rw[x2];rfl) (by rw[x3];rfl) (cX ρ4 ((q.trans #[BQ]).trans e4) (g4,by rw[x1];exact d4) (m.first,(by rw[x1];exact t1,by lia,λm' hm'=> ?_,?_,(by rw[x1];lia)))))))))
  ·let(j,B):=1 (fC.mp hm');rw[jf]at B;split at B
   ·rename_i hjl;have X:=c1 m' (fC.mpr (j,by rw[jf,aq #[f]];exact B));have Y:=jY B;have v:=yx.mp k.sep j (ms.length-1-i) Y #[bJ] #[f];rw[aN Y]at B;rw[aN #[f]]at hm;rw[dm.inj B,dm.inj hm]at v;exact(X.lt,v,X.gs)
   ·cases B
  ·rw[x1];have e2:ms.drop (ms.length-(i+1))=m::ms.drop #[eT]:=by
    rw[show ms.length-(i+1)=ms.length-1-i by lia,iY #[f],show ms.length-1-i+1=ms.length-i by lia];rw[aN #[f]]at hm;rw[dm.inj hm]
   have e3:hH a (m::ms.drop #[eT])=#[d8]+hH a #[yc]:=by unfold hH;simp
   rw[e2,e3]
   lia
 ·(intro M H' l;(let(e,g',P,N,O,b):=5 l;let(rfl,q,Q,u,b1,c1,f1,h1):=140 b))
  rw[1892];exact(by rw[J];decide,λr hr=>kk e _ g' r (q.trans #[Dj,hr]) (Q.same (a3 hr)) u.good ao)
def dD.static{ρ:bj}(k:dD ρ H){b dx:ae}{fs:List #[o]}(h:H b=some #[x])(s:fs.lookup #[aW]≠none\/fs.lookup #[d9]≠none\/fs.lookup #[a1]≠none):ρ b=none:=by
 cases e:ρ b with
 |none=>rfl
 |some r=>
  let(o,q,f):=21 (k b r e);rw[h]at q;rw[2090];have key:∀{g c:ae} {a:List (Str×V)},HO.ins C dx fs= .ins g c a/\a.lookup #[aW]=none/\a.lookup #[d9]=none/\a.lookup #[a1]=none->False:=by
   (intro g c a d;let(z,i,z2,j):=60 d)
   cases z;rcases s with s|s|s
   ·exact s i
   ·exact s z2
   ·exact s j
  cases r<;>first|(obtain⟨_,_,_,z⟩:=f;exact(key z).elim)|(let(_,z):=1 f;cases z)
def IT.stays{ρ a:bj}(k:dD ρ H)(e:IT ρ H a H'):pD (λb=>ρ b=none) H H':=λb o h s=>by
 refine(e.not b o h ?_).1;cases o with
 |tup xs=>exact k.tup h
 |lst xs=>exact s
 |ins C dx fs=>exact k.static h s
 |_=>exact s.elim
nonrec abbrev Un (ρ:bj):ae->Prop:=λb=>ρ b=none
def lA.ext{ρ c:bj}{u:ae}(k:dD ρ H)(e:IT ρ H c H')(h:lA t #[iQ] H u f):lA t (Un c) H' u f:=by
 have h':=h.stays #[m9];let(dx,l,r,n,o,p,s):=63 h;let(d,m,g,v,a,i,j):=63 h';exact(jc d m g (by
  have:=#[m9] _ _ o #[rf];rw[this]at a;have z:=a;injection z with z;injection z with w z2 q;have b:#[o7].lookup #[aW]=(yg #[z7] (.bl #[vO].1)).lookup #[aW]:=by rw[q]
  rw[pN,pN]at b;injection b with b;injection b with b;subst b;exact(e.not _ _ p n).2) a i j)
def iE.ext{ρ b:bj}(k:dD ρ H)(e:IT ρ H b H')(h:iE t #[iQ] H p it):iE t (Un b) H' p it:=by
 have z:∀{dx:ae} {c d g i j:V},H p=some #[mm]->H' p=some #[mm]:=λq=>#[m9] _ _ q #[mJ];cases it with
 |unit f lo m sp=>let(dx,u,a,l):=22 h;exact(fi dx u (z a) (lA.ext k e l))
 |begins=>let(dx,a):=1 h;rw[1920]
 |ends=>let(dx,a):=1 h;rw[1920]
 |opening=>let(dx,a):=1 h;rw[1920]
 |closing=>let(dx,a):=1 h;rw[1920]
def lP.ext{ρ c:bj}(k:dD ρ H)(e:IT ρ H c H')(h:lP t #[iQ] H p l):lP t (Un c) H' p l:=by let(dx,f,ps,h0,g,d,i):=63 h;exact(jc dx f ps ((e.not _ _ d h0).2) (#[m9] _ _ g #[mI]) (#[m9] _ _ d h0) (L2.Paired.imp' (λa b h=>iE.ext k e h) i))
abbrev Qj(t:cI)(ρ:bj)(H:Hp)(pt:V):Option #[hq]->Prop
 |none=>pt= .cG
 |some l=>∃p,pt= .ref p/\lP t #[iQ] H p l
structure jT(K:aA)(t:cI)(ρ:bj)(H:Hp)(ed de d lp:ae)(pt:V)(pr vl:Int)(g:Gh)(rs:List ae)(s:dN):Prop where
 GF:ρ ed=none
 iQ:H ed=some (.ins t.fP de (c6 #[iV] pt (.ref lp) (.bl s.fold) #[BZ] #[BY]))
 doc:DocOk K t ρ H d g s.doc
 ask:WR pr vl s.asked
 Sm:ρ lp=none
 lpo:H lp=some #[ax]
 Ln:iV H rs s.parts
 Vq:Qj t ρ H pt s.pattern
 good:Good s.doc
 pk:sA s.parts
 pf:s.parts.length<=200
 pat:∀l,s.pattern=some l->C4 l
def Qj.ext{ρ a:bj}{pt:V}{o:Option #[hq]}(k:dD ρ H)(e:IT ρ H a H')(h:Qj t ρ H pt o):Qj t a H' pt o:=by
 cases o with
 |none=>exact h
 |some l=>let(p,b,c):=21 h;exact(aK p b (lP.ext k e c))
def jT.cmd{ρ a:bj}{ed d:ae}{pt:V}{g g':Gh}(h:jT K t ρ H ed de d lp pt pr vl g rs s)(e:Ext ρ H a H')(hd:DocOk K t a H' d g' d')(b:Good d'):jT K t a H' ed de d lp pt pr vl g' rs {s with doc:=d'}:=(#[ga].2,#[ga].1,hd,h.ask,#[fF].2,#[fF].1,h.Ln.ext h.doc.role e.toIT,h.Vq.ext h.doc.role e.toIT,b,h.pk,h.pf,h.pat)
def jT.same{ρ:bj}{ed d:ae}{pt:V}{g:Gh}(h:jT K t ρ H ed de d lp pt pr vl g rs s)(k:bp H H'):jT K t ρ H' ed de d lp pt pr vl g rs s:=h.cmd #[CK,k] (h.doc.same k) h.good
def e8.loose{ρ:bj}{d:ae}{g:Gh}{s:aU}(h:e8 K t ρ H d g s)(f:∀b,S b->ρ b=none/\∃C dx fs,H b=some #[x])(k:∀b o,H b=some o->¬S b->H' b=some o):e8 K t ρ H' d g s:=by
 have st:∀a r,ρ a=some r->H' a=H a:=λa r q=>by let(o,z,_):=21 #[lJ];rw[z];exact k a o z λy=>by rw[(f a y).1]at q;rw[2090]
 refine(λa r q=>by rw[st a r q];exact h.role a r q,#[ij],#[hx],#[hy],h.nd,h.ring,λp l=> ?_,h.chg.ext (λ_ _ q=>q) λa i q=>st a _ q);let(j,m,n):=40 (h.nt p l);refine(e7 j (by rw[st _ _ j];exact m) (n.ext' h.role (λ_ _ q=>q) (λa u q _ z=> ?_) (λ_ _ _ q=>q) λa r q _=>st a r q));refine k a u q λy=> ?_
 (let(_,c):=20 (f a y);let(C,dx,fs,e):=3 c)
 rw[e]at q;rw[2090];exact z _ _ _ rfl
def DocOk.loose{ρ:bj}{d:ae}{g:Gh}{s:aU}(h:DocOk K t ρ H d g s)(a:∀b,S b->ρ b=none/\∃C dx fs,H b=some #[x])(k:∀b o,H b=some o->¬S b->H' b=some o):DocOk K t ρ H' d g s:=(h.toe8.loose a k,h.row,h.Br,h.cn)
def JF{N:ae->Prop}{b dx:ae}:¬JB N b (.ins C dx #[gH]):=by
 have z:∀k:Str,k="stretches"\/k="unit"\/k="group_count"->#[gH].lookup k=none:=by rintro k (rfl|rfl|rfl)<;>(unfold nh;rw[eQ #[a],eQ #[a]];rfl)
 rintro(q|q|q)
 ·exact q (z _ #[ay])
 ·exact q (z _ #[uz])
 ·exact q (z _ #[uy])
def Qj.stays{ρ:bj}{pt:V}{o:Option #[hq]}(h:Qj t ρ H pt o)(k:pD #[iQ] H H'):Qj t ρ H' pt o:=by
 cases o with
 |none=>exact h
 |some l=>let(p,a,b):=21 h;exact(aK p a (b.stays k))
def Nn{ed dx a:ae}{i:Int}(h:H ed=some (.ins t.fP de #[G]))(b:H c=some #[d5]):ed≠c:=dt h b #[aD]
def jT.keep{ρ:bj}{ed d dx a:ae}{i:Int}{pt:V}{g:Gh}(h:jT K t ρ H ed de d lp pt pr vl g rs s)(f:H c=some #[d5])(j:ρ c=none)(k:dI c H H'):jT K t ρ H' ed de d lp pt pr vl g rs s:=(h.GF,k _ _ h.iQ (Nn h.iQ f),h.doc.loose (S:=λb=>b=c) (λb z=>by subst z;exact(j,x3_ _ _ _ f)) (λb o e n=>k b o e n),h.ask,h.Sm,k _ _ h.lpo (dt h.lpo f #[b]),h.Ln.keep (λb xs q=>k _ _ q #[Cj,f]),h.Vq.stays (KO f JF k),h.good,h.pk,h.pf,h.pat)
structure Out(ρ:bj)(H:Hp)(ed c:ae)(Lk:bj)(H':Hp):Prop where
 not:∀b o,H b=some o->ρ b=none->b≠ed->b≠c->H' b=some o/\Lk b=none
 dom:∀b,H' b=none->H b=none
 R0:∀b o,H b=some o->ρ b=some .foreign->H' b=some o/\Lk b=some .foreign
def Out.trans{ρ d e:bj}{ed:ae}(a:Out ρ H ed c d H1)(b:Out d H1 ed c e H2):Out ρ H ed c e H2:=(λx o h n f g=>b.not x o #[tX].1 #[tX].2 f g,λx h=>a.dom x (b.dom x h),λx o h n=>b.R0 x o #[zX].1 #[zX].2)
def Out.ext{ρ a:bj}{ed:ae}(e:Ext ρ H a H')(k:dD a H'):Out ρ H ed c a H':=by
 refine(λb o h n _ _=>e.not b o h n,λb h=> ?_,λb o h n=>(e.R0 b o n h,e.own b _ n));cases z:H b with
 |none=>rfl
 |some o=>
  cases y:ρ b with
  |none=>rw[(e.not b o z y).1]at h;rw[1914]
  |some r=>let(d,q,_):=21 (k b r (e.own b r y));rw[q]at h;rw[1914]
def Out.same{ρ:bj}{ed:ae}(s:bp H H'):Out ρ H ed c ρ H':=(λb o h n _ _=>#[o2],λb h=>s.free h,λb o h n=>#[o2])
def Out.keep{ρ:bj}{ed:ae}(k:dI c H H')(a:H' c=some o)(d:ρ c=none):Out ρ H ed c ρ H':=(λb o h n _ e=>(k _ _ h e,n),λb h=>mC k a h,λb o h n=>(k _ _ h (λz=>by rw[z,d]at n;cases n),n))
structure Zp(K:aA)(t:cI)(ρ:bj)(H:Hp)(ed c dx a:ae)(i:Nat)(s:dN):Prop where
 ed:∃de d lp pt pr vl g rs,jT K t ρ H ed de d lp pt pr vl g rs s
 cn:ρ c=none
 cu:H c=some #[aR]
nonrec abbrev enc (a:zk):List V:=(nu a).map V.int
abbrev cq(K:aA)(t:cI)(ρ:bj)(H:Hp)(ed c dx a:ae)(i:Nat)(r:dN×zk)(Q:VK):Prop:=∀b H' p,Out ρ H ed c b H'->Zp K t b H' ed c dx a i r.1->H p=none->b p=none->H' p=some (.lst (enc r.2))->Q #[aI] H'
structure NZ(s:aU):Prop where
 cnt:ba s<=20000
 row:s.row.length<=1000000
 chg:s.changes.length+2*ba s+3<=16777216
def cq.done{ρ b:bj}{ed dx a d:ae}{s':dN}{pt:V}{g:Gh}(k:cq K t ρ H ed c dx a i ((s'),an) Q)(o:Out ρ H ed c b H1)(he:jT K t b H1 ed de d lp pt pr vl g rs s')(e:b c=none)(h:H1 c=some #[aR])(f:H1 p=none)(j:vs=enc an):Q #[aI] (upd H1 p (.lst vs)):=by subst j;have sm:bp H1 (upd H1 p (.lst (enc an))):=a3 f;exact k b _ p (o.trans #[Cp,sm]) ⟨(x8_ _ _ _ _ _ _ _ _ (he.same sm)),e,sm _ _ h⟩ (o.dom p f) (he.doc.role.free f) ao
abbrev Qk(a:Nat):Sp:=λvs H Q _=>∃n:Int,vs=#[za]/\Q (.bl (cx n 0 a)) H
def Np: #[1,t.pz,#[S],Qk 1]:=by exists T.Dg,XZ,"1";let(n,rfl,k):=521 h;refine aK _ (aB (aW (zO kN kN a6 #[aq] a6))) ?_;dsimp only[b6,aZ,bC,bD,ak,aH,ay,az,aG,aJ,aO,aP];simp[-ah,au,-ai];exact Gw (Q:=λb=>Q #[mq] H) k
def CM: #[1,t.mw,#[S],Qk 3]:=by exists T.vQ,Tp,"1";let(n,rfl,k):=521 h;refine aK _ (aB (aW (zO kN kN a6 #[aq] (cN T.wz)))) ?_;dsimp only[b6,aZ,bC,bD,ak,aH,ay,az,aG,aJ,aO,aP];simp[-ah,au,-ai];exact Gw (Q:=λb=>Q #[mq] H) k
def IX: #[1,t.qJ,#[S],Qk 99]:=by exists T.Bh,Z0,"1";let(n,rfl,k):=521 h;refine aK _ (aB (aW (zO kN kN a6 #[aq] (cN T.A5)))) ?_;dsimp only[b6,aZ,bC,bD,ak,aH,ay,az,aG,aJ,aO,aP];simp[-ah,au,-ai];exact Gw (Q:=λb=>Q #[mq] H) k
abbrev lJ(K:aA)(t:cI)(n:Nat)(f:List Int->va):Sp:=λvs H Q _=>∃(ρ:bj) (ed c dx a:ae) (i:Nat) (s:dN) (ns zs:List Int),vs=#[e8]/\Zp K t ρ H ed c dx a i s/\a8 K H a #[N]/\zs.length=n/\#[nP]/\NZ s.doc/\(nu #[AW].2).length<=10000000/\cq K t ρ H ed c dx a (i+n) #[AW] Q
def DocOk.amC{ρ:bj}{d:ae}{g:Gh}{s:aU}(h:DocOk K t ρ H d g s)(hr:s'.row=s.row)(e:s'.changes=s.changes):DocOk K t ρ (upd H d (P5 t g s')) d g s':=by have st:∀a r,ρ a=some r->r≠ .doc->upd H d (P5 t g s') a=H a:=λa r q n=>aE (jZ q h.d.1 n);refine((h.role.upd λr q=>by rw[h.d.1]at q;cases q;exact ahe,(h.d.1,ao),#[b4],#[aL],h.nd,h.ring,λp f=> ?_,by rw[e];exact h.chg.ext (λ_ _ q=>q) λa i q=>st a _ q #[b]),by rw[hr];exact h.row,h.Br,λc=>by rw[hr];exact h.cn c);let(b,j,k):=40 (h.nt p f);exact(e7 b #[mB] (k.ext h.role #[Di,h.d.1] λa r q w=>st a r q #[b7]))
def ve{l:List Int}(h:l.length=1):∃a,l=[a]:=List.length_eq_one_iff.mp h
def Uu{l:List Int}(h:l.length=2):∃a b,l=[a,b]:=by
 match l,h with
 |[a,b],_=>exact(x2_ a b rfl)
def amD{l:List Int}(h:l.length=2):∃a b,l=[a,b]:=by
 cases l with
 |nil=>cases h
 |cons a l=>cases l with
  |nil=>cases h
  |cons b l=>exact(x2_ a b (by rw[DP (SE.inj #[yP])]))
def ahE{l:List Int}(h:l.length=3):∃a b c,l=[a,b,c]:=by
 cases l with
 |nil=>cases h
 |cons a l=>let(b,c,e):=2 (amD #[yP]);exact(x3_ a b c (by rw[e]))
def adA{l:List Int}(h:l.length=4):∃a b c d,l=[a,b,c,d]:=by
 cases l with
 |nil=>cases h
 |cons a l=>let(b,c,d,e):=3 (ahE #[yP]);exact(x4_ a b c d (by rw[e]))
def ahF{ns:List Int}{z:Int}(h:ns[i]?=some z):#[N][i]?=some (V.int z):=by rw[bz,h];rfl
def ou{dx a:ae}{ns:List Int}{z:Int}(b:H c=some #[aR])(d:a8 K H a #[N])(hz:ns[i]?=some z)(k:Q #[z9] (upd H c (cur t dx a #[h1]))):Ug K t #[hd] H Q E:=(Bm c dx a i _ _ rfl b d (ahF hz) k)
def pP{dx a:ae}{ns:List Int}{z:Int}(b:H c=some #[aR])(d:a8 K H a #[N])(hz:ns[j]?=some z)(k:Q #[z9] (upd H c (cur t dx a #[y2]))):Ug K t #[hd] #[Dr,#[oK]] Q E:=(Bm c dx a j _ _ rfl ao (M5 d b) (ahF hz) (by rw[d8];exact k))
def ov{ρ:bj}{ed d dx a:ae}{pt:V}{g:Gh}{ns:List Int}(he:jT K t ρ H ed de d lp pt pr vl g rs s)(b:ρ c=none)(e:H c=some #[aR])(f:a8 K H a #[N])(j:Nat):∃H1,upd H c #[oK]=H1/\jT K t ρ H1 ed de d lp pt pr vl g rs s/\H1 c=some (cur t dx a (j:Int))/\Out ρ H ed c ρ H1/\a8 K H1 a #[N]:=(_,rfl,he.keep e b dI.upd,ao,Out.keep dI.upd ao b,M5 f e)
def vW{d:aU}(h:tH s.doc vc=((d),.refused n)):Vatrko.command s vc=#[zj]:=by unfold Vatrko.command;rw[h]
def CN{l:List Nat}{d:aU}(h:tH s.doc vc=((d),.told l)):Vatrko.command s vc=(({s with doc:=d}),.told l):=by unfold Vatrko.command;rw[h]
def eC:1<=aS:=by rw[cH];decide
def afQ{s:aU}(h:Good s)(hr:s'.row=s.row)(a:s'.changes=s.changes):Good s':=(by rw[hr];exact h.last,by rw[hr,a];exact h.all)
def Ql{ρ:bj}{ed dx a d:ae}{pt:V}{g:Gh}(k:cq K t ρ H ed c dx a i (({s with doc:=d'}),an) Q)(o:Out ρ H ed c ρ H1)(he:jT K t ρ H1 ed de d lp pt pr vl g rs s)(b:ρ c=none)(h:H1 c=some #[aR])(hr:d'.row=s.doc.row)(e:d'.changes=s.doc.changes)(j:upd H1 d (P5 t g d') p=none)(l:vs=enc an):Q #[aI] (upd #[ro] p (.lst vs)):=by have f:=he.doc.amC (s':=d') hr e;have ex:Ext ρ H1 ρ #[ro]:=Ext.upd he.doc.d.1;exact cq.done k (o.trans (Out.ext ex f.role)) (he.cmd ex f (afQ he.good hr e)) b (by rw[aE (λz=>by rw[z,he.doc.d.1]at b;cases b)];exact h) j l
def afR: #[2,t.qs,#[e],lJ K t 1 λzs=> .author #[bk]]:=by
 exists T.Kx,MA,"9";let(ρ,ed,c,dx,a,i,k,ns,zs,rfl,x,s,o,hz,q,hsz,j):=649 h;refine aK _ (aj #[Ci,MA.nd] (aj (bX (fj (JU kN kN a6 #[bG] (cN T.zB))) #[V] bw) (aj #[Dl,MA.nd] #[oo]))) ?_;rw[1891];rw[1951];rw[1937];obtain⟨⟨C,d,D,pt,E,F,g,G,he⟩,e,f⟩:=x;simp[-ah,-aa,-ai,-aR,au,f,bM];refine ou f s r ?_;let(u,y,b,l,v,A):=81 (ov he e f s (i+1));rw[y];have j:cq K t ρ H ed c dx a (i+1) (Vatrko.command k #[wN]) Q:=j;rw[1982];by_cases h:1<=z/\z<=99
 ·rw[aq h.1];rw[1982];rw[2091];have hw:tH k.doc #[wN]=(({k.doc with author:=z.toNat}),.told [0]):=by
   show #[lf]=_;rw[aq (by show(decide #[B2]&&decide (z<=99))=true;simp;exact h)]
  rw[CN hw]at j;refine(b9 _ _ _ b.iQ T.cg T.cv _ cJ d rfl (x3_ _ _ _ (b.doc.d.2,T.bo,T.lG,IS,eC,(λp m=> ?_))));rw[Lu]at m ⊢;have B:V.int z=V.int #[lu]:=by rw[cM #[f]]
  rw[B]at m ⊢;exact Ql j v b e l rfl rfl m rfl
 ·have hw:tH k.doc #[wN]=#[ma]:=by
   show #[lf]=_;rw[am (by show¬(decide #[B2]&&decide (z<=99))=true;simp;simp_all)]
  rw[vW hw]at j;have n:1<=aS/\∀p,u p=none->Q #[aI] #[C1,u]:=(eC,λp m=>cq.done j v b e l m rfl);by_cases w:1<=z
  ·rw[aq w];rw[1982];rw[1930];exact n
  ·rw[am w];exact n
def ahG: #[2,t.sC,#[e],lJ K t 1 λzs=> .clock #[bk]]:=by
 exists T.NP,Py,"9";let(ρ,ed,c,dx,a,i,k,ns,zs,rfl,w,u,o,hz,q,hsz,j):=649 h;refine aK _ (aj #[Ci,Py.nd] (aj #[Dl,Py.nd] (aj (bX #[Du,a6] #[V] bw) (aj (bX #[Du,#[hT]] (aB (aW (cf (ag (cN T.vr) aw)))) bw) #[oo])))) ?_;rw[1891];rw[1951];rw[1937];obtain⟨⟨B,d,C,pt,D,E,g,F,he⟩,f,l⟩:=w;rw[2051];refine ou l u r ?_;let(G,x,e,m,s,y):=81 (ov he f l u (i+1));rw[x];have j:cq K t ρ H ed c dx a (i+1) (Vatrko.command k (.clock z)) Q:=j;have b:tH k.doc (.clock z)=if z<0 then #[ma]else if z<#[xh]then((k.doc),.refused 3)else(({k.doc with time:=z.toNat}),.told [0]):=rfl
 refine #[Cc,e.iQ];by_cases h0:z<0
 ·rw[aq h0]at b ⊢;rw[vW b]at j;exact #[iz]
 ·rw[am h0]at b ⊢;refine(aK d rfl (b9 _ _ _ e.doc.d.2 T.bo T.nW _ EC _ rfl #[q]));by_cases v:z<#[xh]
  ·rw[aq v]at b ⊢;rw[vW b]at j;exact #[iz]
  ·rw[am v]at b ⊢;rw[CN b]at j;refine(aK d rfl (x3_ _ _ _ (e.doc.d.2,T.bo,T.nW,IS,eC,(λp n=> ?_))));rw[N6]at n ⊢;have A:V.int z=V.int #[lu]:=by rw[cM #[j]]
   rw[A]at n ⊢;exact Ql j s e f m rfl rfl n rfl
def ahH: #[2,t.sE,#[e],lJ K t 1 λzs=> .track #[bk]]:=by
 exists T.NQ,Pz,"9";let(ρ,ed,c,dx,a,i,n,ns,zs,rfl,v,s,o,hz,q,hsz,k):=649 h;refine aK _ (aj #[Ci,Pz.nd] (aj (bX #[jr] #[V] bw) (aj #[Dl,Pz.nd] (aj (gr #[dy] #[vY]) #[cI])))) ?_;rw[1891];rw[1951];rw[1937];obtain⟨⟨A,d,B,pt,C,D,g,E,he⟩,f,j⟩:=v;rw[2052];refine ou j s r ?_;let(F,w,b,l,u,x):=81 (ov he f j s (i+1));rw[w];have k:cq K t ρ H ed c dx a (i+1) (Vatrko.command n (.track z)) Q:=k;have e:tH n.doc (.track z)=if cx z 0 1=true then(({n.doc with tracking:=z==1}),.told [0])else((n.doc),.refused 2):=rfl
 refine #[Cv,z];by_cases h:cx z 0 1=true
 ·rw[aq h]at e ⊢;rw[CN e]at k;refine(jc _ _ _ b.iQ T.cg T.cv (cX _ cJ rfl (aK d rfl (x3_ _ _ _ (b.doc.d.2,T.bo,T.hL,IS,eC,(λp m=> ?_))))));rw[Jt]at m ⊢;have y:decide (V.int z=V.int 1)=(z==1):=by
   rw[dr,eh,beq_iff_eq];rw[1950]
  rw[y]at m ⊢;exact Ql k u b f l rfl rfl m rfl
 ·rw[am h]at e ⊢;rw[vW e]at k;exact(eC,λp m=>cq.done k u b f l m rfl)
def Uv: #[2,t.ir,#[e],lJ K t 1 λzs=> .change #[bk]]:=by
 exists T.zH,xY,"9";let(ρ,ed,c,dx,a,i,e,ns,zs,rfl,D,B,s,hz,u,hsz,f):=649 h;refine aK _ (aj #[Ci,xY.nd] (aj #[Dl,xY.nd] (aj (bX (fj (JU kN kN a6 #[bG] (oi T.len #[hT]))) (aB (aW (cf (ag (cN T.y9) aw)))) bw) (aj (bQ 4 xY.nd (yu #[hT] #[oi])) (aB (aW (cf (ag #[ba] (ag #[ba] #[xC]))))))))) ?_;rw[1891];let(z,rfl):=1 (ve s);have v:ns[i]?=some z:=hz 0 #[c];obtain⟨⟨I,d,J,pt,L,M,g,N,he⟩,j,k⟩:=D;simp[-ah,-aa,-ai,-aR,au,k,bM];refine ou k B v ?_;let(O,E,b,l,w,F):=81 (ov he j k B (i+1));rw[E];have f:cq K t ρ H ed c dx a (i+1) ((e),if cx z 1 e.doc.changes.length=false then .refused 4 else match e.doc.changes[z.toNat-1]? with|some x=> .told [x.author,x.time,x.kind,(e.doc.row.filter (Vatrka.bears z.toNat)).length]|none=> .refused 4) Q:=f;have m:cx z 1 e.doc.changes.length=(decide (1<=z)&&decide (z<=#[oI])):=rfl;have hd:=b.doc;have y:g.cs.length=e.doc.changes.length:=hd.chg.len;refine #[Cc,b.iQ];by_cases r:1<=z
 ·rw[aq r];refine(aK d rfl (b9 _ _ _ hd.d.2 T.bo T.eu _ fN _ rfl (a7 _ (.inl #[kG]) _ rfl ?_)));rw[aD,y];by_cases C:z<=#[oI]
  ·rw[2091];rw[m,aT r,aT C,am #[c]]at f;have n:z.toNat-1<e.doc.changes.length:=by lia
   rw[aN n]at f;obtain⟨P,G,o⟩:=hd.chg.each (z.toNat-1) (g.cs[z.toNat-1]'#[j]) _ (aN #[f]) (aN n);have A:uZ #[xo] (z-1)=some (.ref (g.cs[z.toNat-1]'#[f])):=by rw[show z-1=#[C4,z.toNat] by lia];exact oq #[qX]
   rw[show z.toNat-1+1=z.toNat by lia,hd.cn]at o;refine(aK d rfl (b9 _ _ _ hd.d.2 T.bo T.eu _ fN _ rfl (a7 _ rfl _ #[kG] (a7 _ A _ rfl (b9 _ _ _ o T.qU T.qb _ EB _ rfl (b9 _ _ _ o T.qU T.vK _ Ru _ rfl (b9 _ _ _ o T.qU T.vL _ Rv _ rfl (jc _ _ _ o T.qU T.jV (cX _ yt (by rw[cH];decide) (λp q=>cq.done f w b j l q ?_))))))))));rw[List.countP_eq_length_filter];rfl
  ·rw[aq #[j]];rw[m,aV C,fJ,aq rfl]at f;exact #[iy]
 ·rw[am r];rw[m,aV r,aq #[p]]at f;exact #[iy]
def jT.opts{ρ:bj}{ed d:ae}{pt:V}{pr' vl':Int}{g:Gh}(h:jT K t ρ H ed de d lp pt pr vl g rs s){fo:Bool}{as:Option #[aw]}(a:WR pr' vl' as):jT K t ρ (upd H ed (.ins t.fP de (c6 #[iV] pt (.ref lp) (.bl fo) (.int pr') (.int vl')))) ed de d lp pt pr' vl' g rs {s with fold:=fo,asked:=as}:=(h.GF,ao,h.doc.ahf h.GF h.iQ,a,h.Sm,by rw[aE (dt h.lpo h.iQ #[b])];exact h.lpo,h.Ln.keep (λb xs q=>by rw[aE #[Cj,h.iQ]];exact q),h.Vq.stays (pD.upd h.iQ CH),h.good,h.pk,h.pf,h.pat)
def Out.afS{ρ:bj}{ed:ae}{a:HO}(h:H ed=some o)(d:ρ ed=none):Out ρ H ed c ρ (upd H ed a):=(λb u e n f _=>(by rw[aE f];exact e,n),λb e=>(dz e).1,λb u e n=>(by rw[aE (λz=>by rw[z,d]at n;cases n)];exact e,n))
def adB: #[2,t.oB,#[e],lJ K t 3 λzs=> .options #[bk] #[hG] #[rS]]:=by
 exists T.Hx,EU,"9";let(ρ,ed,c,dx,a,i,w,ns,zs,rfl,L,x,y,hz,A,hsz,m):=649 h;refine aK _ (aj #[Ci,EU.nd] (aj #[CP,EU.nd] (aj (bQ 4 EU.nd #[d]) (aj (bX (PW.pt (xR #[jr] (xR (fj (PW.pt (xR (f7 gf #[dy] #[Bx]) (vI (dB (d5 hr (CM T) T.zI T.vQ #[X])))))) (vI (fj (dB (d5 hr (IX T) T.E6 T.Bh #[bS]))))))) #[V] bw) (aj (gr #[aq] #[vY]) (aj #[g6] (aj #[m3] #[cI]))))))) ?_;rw[1891];let(n,e,z2,rfl):=3 (ahE y);have B:ns[i]?=some n:=hz 0 #[c];have C:ns[i+1]?=some e:=hz 1 #[c];have D:ns[i+2]?=some z2:=hz 2 #[c];obtain⟨⟨O,d,P,pt,R,S,g,U,he⟩,o,j⟩:=L;rw[2052];refine ou j x B (c4 _ _ ao bM (pP j x C (c4 _ _ ao bM (pP j x D ?_))));let(I,M,b,k,E,N):=81 (ov he o j x (i+3));rw[M];have m:cq K t ρ H ed c dx a (i+3) (if #[fi]=false then((w),.refused 2)else(({w with fold:=n==1,asked:=if e= -1 then none else some #[uS]}),.told [0])) Q:=m;have f:#[fi]=false->1<=aS/\∀p,I p=none->Q #[aI] #[C1,I]:=λh=>by rw[aq h]at m;exact(eC,λp q=>cq.done m E b o k q rfl)
 have J:decide (V.int n=V.int 1)=(n==1):=by rw[dr,eh,beq_iff_eq];rw[1950]
 rw[2113];by_cases h0:cx n 0 1=true
 ·rw[aq h0];rw[1899];rw[h0,Dl]at m f;have F:cx z2 0 99=true->0<=z2:=λh=>by have h:(decide (0<=z2)&&decide (z2<=99))=true:=h;simp at h;exact h.1
  by_cases G:e= -1
  ·subst G;rw[1898];rw[2114];by_cases l:cx z2 0 99=true
   ·rw[aq l];rw[l,am #[c],aq rfl]at m;rw[1949];rw[2062];exact cq.done m #[nC] (b.opts (s:=w) (fo:=n==1) (as:=none) (pr':= -1) (vl':=z2) rfl) o #[kc] q rfl
   ·rw[am l];exact f (by rw[o4]at l;rw[l,fJ,fJ])
  ·rw[am (by intro z;injection z with z;exact G z)];refine #[Cv,e];have u:cx e 0 3=(decide (0<=e)&&decide (e<=3)):=rfl;by_cases v:cx e 0 3=true
   ·rw[aq v];have r:=v;rw[u]at r;simp at r;rw[2114];rw[aT (show(-1:Int)<=e by lia),aT r.2,Dl,Dl]at m f;by_cases l:cx z2 0 99=true
    ·rw[aq l];rw[l,am #[c],am G]at m;rw[1949];rw[2062];exact cq.done m #[nC] (b.opts (s:=w) (fo:=n==1) (as:=some #[uS]) (pr':=e) (vl':=z2) (e7 #[bJ] (by have:=F l;lia) #[bJ])) o #[kc] q rfl
    ·rw[am l];exact f (by simpa using l)
   ·rw[am v];refine f ?_;rw[u]at v;simp at v ⊢;intro W X
    lia
 ·rw[am h0];exact f (by rw[o4]at h0;rw[h0,ma])
abbrev KQ(K:aA)(t:cI)(n:Nat)(f:List Int->List Int->va):Sp:=λvs H Q _=>∃(ρ:bj) (ed c dx a:ae) (i m:Nat) (s:dN) (ns zs:List Int),vs=#[e8]/\Zp K t ρ H ed c dx a i s/\a8 K H a #[N]/\zs.length=n/\#[nP]/\ns[i+n]?=some (m:Int)/\i+n+1+m<=ns.length/\m<=2000/\NZ s.doc/\cq K t ρ H ed c dx a (i+n+1+m) (gN s (f zs ((ns.drop (i+n+1)).take m))) Q
def Qm{ρ b:bj}{ed dx a d:ae}{r:aU×Nat}{pt:V}{g j:Gh}(k:cq K t ρ H ed c dx a i (({s with doc:=r.1}),.told [r.2]) Q)(o:Out ρ H ed c ρ H1)(he:jT K t ρ H1 ed de d lp pt pr vl g rs s)(f:ρ c=none)(h:H1 c=some #[aR])(l:Good r.1)(e:Ext ρ H1 b H2)(hd:DocOk K t b H2 d j r.1):1<=aS/\∀p,H2 p=none->Q #[aI] (upd H2 p (.lst [.int (r.2:Int)])):=(eC,λp m=>cq.done k (o.trans (Out.ext e hd.role)) (he.cmd e hd l) #[yq].2 #[yq].1 m rfl)
def ajG{z:Int}:M4 z=nJ z:=by unfold M4 Gv nJ;rw[show decide (z=10)=(z==10) by rw[dr];simp]
def abP{z:Int}(h:nJ z=true):0<=z:=by
 unfold nJ at h;simp at h
 lia
def afT{l:List Int}(h:∀z∈l,0<=z):l.map V.int=nums #[rs]:=by unfold nums;rw[fO];exact dO λz hz=>by show V.int z=V.int #[Az];rw[cM (h z hz)]
def alL: #[5,t.zv,#[e],KQ K t 1 λzs l=> .put #[bk] l]:=by
 exists T.WI,Ro,"10"
 (let(ρ,ed,c,dx,a,i,m,j,O):=508 h;let(ns,zs,P):=502 O;let(rfl,hS,R,S,hz,hm,U,hsm,k,n):=180 P)
 refine aK _ (aj #[Ci,Ro.nd] (aj (bQ 3 Ro.nd #[en]) (aj (bQ 4 Ro.nd #[i]) (aj (bX (fj (JU kN zo a6 #[bG] #[w9])) #[fm] bw) (aj (bX (PW.pt (xR (fj (Pb #[dy] (λ_=>rfl))) (vI (fj (dB (d5 hr (YR T) T.OJ T.IG #[X])))))) #[V] bw) (aB (aW (cf (ag (nq hr #[pf] T.bo T.uz (HH T) T.x9 #[pv]) aw))))))))) ?_;rw[1891];let(z,rfl):=1 (ve S);have W:ns[i]?=some z:=hz 0 #[c];obtain⟨⟨de,d,lp,pt,pr,vl,g,rs,he⟩,o,q⟩:=hS;simp[-ah,-aa,-ai,-aR,au,q,bM];refine ou q R W (c4 _ _ ao wk (x6_ c dx a (i+1) m _ (rfl,ao,M5 R q,ahF hm,by rw[aD];exact U,(λl B=> ?_))));rw[1894];have X:=(dz B).1;rw[d8];let(C,eH,D,Y,o0,hl0):=81 (ov he o q R (i+1+1+m));rw[eH];have s:C l=none:=by rw[<-eH,aE (dz B).2];exact X
 have e1:((#[N].drop (i+1+1)).take m)=(#[hw].map V.int):=by rw[gW,mh]
 rw[e1];have n:cq K t ρ H ed c dx a (i+1+1+m) (Vatrko.command j (.put z #[hw])) Q:=n;have Z:#[hw].length<=m:=Ow _ _;generalize(ns.drop (i+1+1)).take m=sg at n Z;have J:bp C (upd C l #[gl]):=a3 s;have f:=D.same J;have r:=J _ _ Y;have L:=o0.trans (Out.same (ρ:=ρ) (ed:=ed) (c:=c) J);have e:upd C l #[gl] l=some #[gl]:=ao;have HF:ρ l=none:=D.doc.role.free s;generalize upd C l #[gl]=H1 at J f r L e;have hd:=f.doc;have b:tH j.doc (.put z sg)=if mF z #[mC]=false then #[CU,j.doc]else if(sg.isEmpty|| !sg.all nJ)=true then((j.doc),.refused 2)else Lq (SJ j.doc z.toNat (sg.map λz=>z.toNat)):=rfl
 have hb:mF z #[mC]=(decide (0<=z)&&decide (z<#[lR])):=rfl;refine #[Cc,f.iQ];have u:mF z #[mC]=false->1<=aS/\∀p,H1 p=none->Q #[aI] #[Ds,H1]:=λh=>by rw[aq h]at b;rw[vW b]at n;exact #[iC]
 by_cases h0:0<=z
 ·rw[aq h0];refine #[aj];rw[aD,hd.uM];by_cases h1:z<#[lR]
  ·rw[2091];rw[hb,aT h0,aT h1,am #[c]]at b;refine(aK _ (.inl (aK _ #[wf] rfl)) ?_);by_cases M:sg=[]
   ·subst M;rw[1900];rw[aq (show(#[Dw,Int].isEmpty|| !([]:List Int).all nJ)=true from rfl)]at b;rw[vW b]at n;exact #[iC]
   ·rw[aq (by cases sg with|nil=>exact absurd rfl M|cons x y=>rfl)];have h2e:sg.isEmpty=false:=by cases sg with|nil=>exact absurd rfl M|cons x y=>rfl
    refine(xx l sg rfl #[wf] #[f] (λH2 N=>#[q]));have e3:sg.all M4=sg.all nJ:=by rw[show M4=nJ from funext λz=>ajG]
    rw[e3];have w:=f.same N;have F:=w.doc;have G:=N _ _ r;have o2:=L.trans (Out.same (ρ:=ρ) (ed:=ed) (c:=c) N);by_cases A:sg.all nJ=true
    ·rw[aq A];rw[h2e,A,am #[c]]at b;rw[CN b]at n;have v:=dH.mp A;have hr1:=k.cnt;have hr2:=k.chg;have I:z.toNat<ba j.doc:=by simp_all
     refine(aK d rfl (c4 _ _ F.d.2 Hz (x7_ ρ d l g j.doc z.toNat (sg.map λz=>z.toNat) (by rw[cM h0],F,he.good,I,a8.of (by rw[N _ _ e,afT λz hz=>abP (v z hz)]),HF,by simpa using M,by lia,by lia,by rw[aD];lia,(λVl H3 g3 e3 d3=>Qm n o2 w o G (he.good.put I ?_) e3 d3)))));intro ch hch;let(z,hz,rfl):=21 (ci.mp hch);have:=v z hz;rw[cM (abP this)];rw[1928]
    ·rw[am A];rw[aq (by rw[o4]at A;rw[A];simp)]at b;rw[vW b]at n;exact(eC,λp E=>cq.done n o2 w o G E rfl)
  ·rw[aq #[j]];exact u (by rw[hb,aV h1,fJ])
 ·rw[am h0];exact u (by rw[hb,aV h0,ma])
def alN: #[5,t.zw,#[e],lJ K t 2 λzs=> .cut #[bk] #[hG]]:=by
 exists T.WJ,Rp,"9";let(ρ,ed,c,dx,a,i,k,ns,zs,rfl,C,v,w,hz,f,hsz,q):=649 h;refine aK _ (aj #[Ci,Rp.nd] (aj #[CP,Rp.nd] (aj (bQ 4 Rp.nd #[i]) (aj (bX (fj (M3 kN zo zo a6 #[bG] #[dy] #[w9])) #[fm] bw) (aB (aW (cf (ag (nq hr #[pf] T.bo T.uA (HG T) T.ya #[pv]) aw)))))))) ?_;rw[1891];let(e,b,rfl):=2 (Uu w);have x:ns[i]?=some e:=hz 0 #[c];have y:ns[i+1]?=some b:=hz 1 #[c];obtain⟨⟨O,d,P,pt,R,S,g,U,he⟩,o,l⟩:=C;rw[2051];refine ou l v x (c4 _ _ ao bM (pP l v y ?_));let(z,D,m,r,A,E):=81 (ov he o l v (i+2));rw[D];rw[2133];have q:cq K t ρ H ed c dx a (i+2) (Vatrko.command k (.cut e b)) Q:=q;have hd:=m.doc;have F:=iN he.good;have n:tH k.doc (.cut e b)=if lw e b #[tT]=false then #[uL]else Lq (SK k.doc e.toNat b.toNat):=rfl
 have s:lw e b #[tT]=(decide (0<=e)&&(decide (e<b)&&decide (b<=#[C7,k.doc]))):=rfl;have j:lw e b #[tT]=false->1<=aS/\∀p,z p=none->Q #[aI] #[Ds,z]:=λh=>by rw[aq h]at n;rw[vW n]at q;exact(eC,λp G=>cq.done q A m o r G rfl)
 refine #[Cc,m.iQ];by_cases h0:0<=e
 ·rw[aq h0];rw[2015];by_cases u:e<b
  ·rw[aq u];refine #[aj];rw[aD,hd.uM];by_cases V:b<#[qY]
   ·rw[1934];rw[s,aT h0,aT u,aT #[bJ],am #[c]]at n;rw[CN n]at q;have I:=f.cnt;have J:=f.chg;exact(aK d rfl (c4 _ _ hd.d.2 HA (x6_ ρ d g k.doc e.toNat b.toNat (by rw[cM h0,cM #[f]],hd,he.good,by omega,by omega,by lia,by lia,(λL W X M N=>Qm q A m o r (he.good.cut #[bJ]) M N)))))
   ·rw[1930];exact j (by rw[s,aV (p:=b<=_) #[f],fJ,fJ])
  ·rw[am u];exact j (by rw[s,aV u,ma,fJ])
 ·rw[am h0];exact j (by rw[s,aV h0,ma])
def ahI: #[5,t.sF,#[e],lJ K t 4 λzs=> .paint #[bk] #[hG] #[rS] #[Ay]]:=by
 exists T.NR,Cq,"9";let(ρ,ed,c,dx,a,i,k,ns,zs,rfl,O,x,D,hz,l,hsz,r):=649 h;refine aK _ (aj #[Ci,Cq.nd] (aj #[CP,Cq.nd] (aj (bQ 4 Cq.nd #[d]) (aj (bQ 5 Cq.nd #[d]) (aj (bQ 6 Cq.nd #[i]) (aj (bX (fj (M3 kN zo kN a6 #[bG] #[dy] (oi T.len (bH #[zp])))) #[fm] bw) (aj #[a3] (aB (aW (cf (ag (nq hr #[zp] T.bo T.rN (EF T) T.vw (ag #[bG] (ag #[dy] #[xB]))) aw))))))))))) ?_;rw[1891];let(f,j,z2,m,rfl):=4 (adA D);have E:ns[i]?=some f:=hz 0 #[c];have F:ns[i+1]?=some j:=hz 1 #[c];have G:ns[i+2]?=some z2:=hz 2 #[c];have I:ns[i+3]?=some m:=hz 3 #[c];obtain⟨⟨Y,d,Z,pt,pr,vl,g,rs,he⟩,q,e⟩:=O;simp[-ah,-aa,-ai,-aR,au,e,bM];refine ou e x E (c4 _ _ ao bM (pP e x F (c4 _ _ ao bM (pP e x G (c4 _ _ ao bM (pP e x I ?_))))));let(A,P,n,u,J,R):=81 (ov he q e x (i+4));rw[P];have M:aS=16777216:=cH;have r:cq K t ρ H ed c dx a (i+4) (Vatrko.command k #[wD]) Q:=r;have hd:=n.doc;have b:tH k.doc #[wD]=if lw f j #[yB]=false then #[uL]else if #[rx]=false then #[ma]else Lq (GV k.doc f.toNat j.toNat z2.toNat m.toNat):=rfl
 have B:lw f j #[yB]=(decide (0<=f)&&(decide (f<j)&&decide (j<=((ba k.doc:Nat):Int)))):=rfl;have o:lw f j #[yB]=false->1<=aS/\∀p,A p=none->Q #[aI] #[Ds,A]:=λh=>by rw[aq h]at b;rw[vW b]at r;exact #[iB]
 refine #[Cc,n.iQ];by_cases h0:0<=f
 ·rw[aq h0];rw[2015];by_cases C:f<j
  ·rw[aq C];refine #[aj];rw[aD,hd.uM];by_cases N:j<=#[qY]
   ·rw[2091];rw[B,aT h0,aT C,aT N,am #[c]]at b;have s:#[rx]=false->1<=aS/\∀p,A p=none->Q #[aI] #[C1,A]:=λh=>by
     rw[aq h]at b;rw[vW b]at r;exact #[iB]
    rw[2114];by_cases v:cx z2 0 3=true
    ·rw[aq v];refine #[Cv,m];by_cases w:cx m 0 99=true
     ·rw[aq w];rw[v,w,am #[c]]at b;rw[CN b]at r;have y:(decide (0<=z2)&&decide (z2<=3))=true:=v;have z:(decide (0<=m)&&decide (m<=99))=true:=w;simp at y z;have S:=l.cnt;have U:=l.chg;exact(aK d rfl (c4 _ _ hd.d.2 ED (x8_ ρ d g k.doc f.toNat j.toNat z2.toNat m.toNat (by rw[cM h0,cM #[f],cM y.1,cM z.1],hd,he.good,by lia,by simp_all,by lia,by lia,by lia,(λV H3 g3 W X=>Qm r J n q u (he.good.paint #[f]) W X)))))
     ·rw[am w];exact s (by rw[o4]at w;rw[w,fJ])
    ·rw[am v];exact s (by rw[o4]at v;rw[v,ma])
   ·rw[aq #[j]];exact o (by rw[B,aV N,fJ,fJ])
  ·rw[am C];exact o (by rw[B,aV C,ma,fJ])
 ·rw[am h0];exact o (by rw[B,aV h0,ma])
def Vr{ρ:bj}{ed:ae}{i j:HO}(a:∀b o,H b=some o->b≠c->b≠ed->H' b=some o)(k:H' c=some i)(l:H' ed=some j)(d:ρ c=none)(f:ρ ed=none):Out ρ H ed c ρ H':=by
 refine(λb o e n d f=>(a b o e f d,n),λb e=> ?_,λb o e n=>(a b o e (λz=>by rw[z,d]at n;cases n) (λz=>by rw[z,f]at n;cases n),n));cases z:H b with
 |none=>rfl
 |some o=>
  by_cases g:b=c
  ·subst g;rw[k]at e;rw[2048]
  ·by_cases h:b=ed
   ·subst h;rw[l]at e;rw[2048]
   ·rw[a b o z g h]at e;rw[2048]
def ahJ{l:List Int}{p:List Item}(h:uc l=some p):C4 p:=by
 unfold uc at h;split at h
 ·exact XP h
 ·rw[1914]
def Zq{l:List Int}{p:List hJ}(h:vD l=some p):sA p/\p.length<=200:=by
 unfold vD at h;split at h
 ·exact Pr h
 ·rw[1914]
def Zr(s:dN)(l:List Int):gN s (.pattern l)=match uc l with|none=>#[zk]|some p=>(({s with pattern:=some p}),.told [p.length,opened p]):=rfl
def Qn(s:dN)(l:List Int):gN s (.replacement l)=match vD l with|none=>#[zk]|some p=>(({s with parts:=p}),.told [0]):=rfl
def Zs(h:KQ K t 0 (λ_ l=> .pattern l) vs H Q E):RZ K t vs H Q E:=by
 (let(ρ,ed,c,dx,a,i,m,s,ns,R,u):=10 h;let(rfl,C,D,F,hz,hm,v,w,x,k):=180 u)
 obtain⟨⟨B,d,G,pt,I,J,g,L,he⟩,f,j⟩:=C;rw[Zr]at k;refine(x8_ ed c dx B a i m ns (x6_ _ _ _ _ _ _ (rfl,he.iQ,j,D,hm,v,w,λe H' p k1 k2 k3 y=> ?_,λl e H' p q k1 k2 k3 y k5 M=> ?_)))
 ·rw[1959];rw[2142];exact k ρ H' p #[u7] #[gZ] k3 #[r1] y
 ·rw[1959];rw[2142];have N:=Nn he.iQ j;have A:=he.doc.loose (S:=λb=>b=c\/b=ed) (λb z=>by
   rcases z with z|z
   ·subst z;exact #[tq]
   ·subst z;exact #[n2]) (λb o e n=>k1 b o e (λz=>n #[Ad]) (λz=>n #[Ab]))
  refine k ρ H' p #[sn] ⟨(x8_ B d G #[wA] I J g L (he.GF,k3,A,he.ask,he.Sm,k1 _ _ he.lpo (dt he.lpo j #[b]) (dt he.lpo he.iQ #[b]),he.Ln.keep (λb xs q=>k1 _ _ q #[Cj,j] #[Cj,he.iQ]),(aK q rfl (y.mono λb O=>he.doc.role.free O)),he.good,he.pk,he.pf,λP r=> ?_)),f,k2⟩ k5 #[r0] M;have r:some l=some P:=r;cases r;exact ahJ e
def Qo(h:KQ K t 0 (λ_ l=> .replacement l) vs H Q E):JC K t vs H Q E:=by
 (let(ρ,ed,c,dx,a,i,m,s,ns,T,u):=10 h;let(rfl,I,J,L,hz,hm,v,w,x,k):=180 u)
 obtain⟨⟨G,d,U,pt,M,N,g,V,he⟩,f,j⟩:=I;rw[Qn]at k;refine(x8_ ed c dx G a i m ns (x6_ _ _ _ _ _ _ (rfl,he.iQ,j,J,hm,v,w,λe H' p k1 k2 k3 A=> ?_,λl e H' p q B k1 k2 k3 C D A k5 O P=> ?_)))
 ·rw[1960];rw[2142];exact k ρ H' p #[u7] #[gZ] k3 #[r1] A
 ·rw[1960];rw[2142];have R:=Nn he.iQ j;have F:=he.doc.loose (S:=λb=>b=c\/b=ed) (λb z=>by
   rcases z with z|z
   ·subst z;exact #[tq]
   ·subst z;exact #[n2]) (λb o e n=>k1 b o e (λz=>n #[Ad]) (λz=>n #[Ab]))
  have r:pD #[iQ] H H':=λb o e z=>k1 b o e (λy=>by subst y;rw[j]at e;cases e;exact JF z) (λy=>by subst y;rw[he.iQ]at e;cases e;exact CH z);exact k ρ H' p #[sn] ⟨(x8_ G d q pt M N g B (he.GF,k3,F,he.ask,he.doc.role.free C,D,A,he.Vq.stays r,he.good,(Zq e).1,(Zq e).2,he.pat)),f,k2⟩ k5 #[r0] P
def jT.search{ρ:bj}{ed d:ae}{pt:V}{g:Gh}(h:jT K t ρ H ed de d lp pt pr vl g rs s){items:List Item}(l:s.pattern=some items)(hz:ba s.doc<=1000000):EdS K t #[iQ] H ed #[lQ] items:=by
 have i:=h.pat items l;have c:=h.Vq;rw[l]at c;let(p,rfl,j):=21 c;have hd:=h.doc;have f:=hd.uM;have n:=iN h.good;have b:g.sh≠[]:=λz=>by rw[z]at f;simp at f;lia
 have k:g.sh=g.sh.dropLast++[g.sh.getLast b]:=(List.dropLast_concat_getLast b).symm;refine⟨(x8_ de d p _ g.sl _ _ _ (x9_ _ _ _ #[Cf,#[xm]] pr vl g.sh.dropLast g.pc (g.sh.dropLast.map λa=>#[aQ].sign) (h.iQ,hd.d.2,?_,j,h.ask,(?_,rfl,?_),λa o=> ?_))),i.ik,i.gk,i.Af⟩
 ·have e:g.sh.map V.ref=g.sh.dropLast.map V.ref++[V.ref #[xm]]:=by
   conv=>lhs;rw[k]
   rw[bb];rfl
  rw[<-e];exact hd.sl.2
 ·show(qw s.doc.row).dropLast=_;have:qw s.doc.row=g.sh.map λa=>({sign:=#[aQ].sign,look:=dZ #[aQ],tags:=#[aQ].tags}:Vatrka.Plain):=by show #[zQ].map _=_;rw[<-hd.Sl,fO];rfl
  rw[this,HX]
 ·rw[aD,Nt];lia
 ·let(r,q,m):=40 (hd.nt a (hd.Sk a (wU o)));exact(CF (g.bd a) _ _ q m.sg m.ls)
abbrev afV(K:aA)(t:cI):Sp:=λvs H Q _=>∃(ρ:bj) (ed de d lp:ae) (pt:V) (pr vl:Int) (g:Gh) (rs:List ae) (s:dN) (items:List Item),vs=[.ref ed]/\jT K t ρ H ed de d lp pt pr vl g rs s/\s.pattern=some items/\ba s.doc<=1000000/\∀H' se,bp H H'->vE t #[iQ] H' se #[lQ] #[uW] items->Q (.ref se) H'
def O3{ρ:bj}{ed d dx:ae}{pt:V}{g:Gh}{items:List Item}{q:Nat}(he:jT K t ρ H ed de d lp pt pr vl g rs s)(f:s.pattern=some items)(hz:ba s.doc<=1000000)(h:q<=cF s)(a:H se=none)(i:H dx=none)(j:¬dx=se) (l:∀H',bp H H'->vE t #[iQ] H' se #[lQ] q items->Q .cG H'):CL K t #[mt] #[kp] Q E:=by have c:bp H #[kp]:=(a3 i).trans (a3 (by rw[aE (λz=>j z.symm)];exact a));have m:=iN he.good;have p:cF s=ba s.doc-1:=rfl;refine(x7_ se dx ed q #[iQ] #[lQ] items (rfl,ao,(he.same c).search f hz,by rw[AG];exact h,by lia,λH' k n=>l H' (λb o e=>k b o (c b o e) (a5 e a)) n))
def GG: #[8,t.jL,#[sM],afV K t]:=by
 exists T.wC,PD,"12"
 (let(ρ,ed,p,d,q,pt,r,s,a):=508 h;let(g,u,b,items,c):=504 a;let(rfl,he,e,hz,f):=80 c)
 refine aK _ (aB (aW (cb hr T.xo (yl T) T.zY T.sJ (ag #[aq] (ag (cV ji #[kt] a6) aw))))) ?_;rw[1891];rw[1892];have i:=iN he.good;refine(b9 _ _ _ he.iQ T.cg T.cv _ cJ _ rfl (b9 _ _ _ he.doc.d.2 T.bo T.cP _ dc _ rfl (aK _ #[oZ] (λj dx l m n=> ?_))));rw[aD,he.doc.uM,show #[lT]-1=((cF b:Nat):Int) by show _=#[C7,b.doc];lia];exact O3 he e hz #[gw] l m n λH' k o=>(rfl,f H' j k o)
abbrev Fm(s:dN)(b e:Int):Int:=if s.pattern=none then-8 else if 0<=b/\b<=e/\e<#[cD]then 0 else-1
abbrev adC(K:aA)(t:cI):Sp:=λvs H Q _=>∃(ρ:bj) (ed de d lp:ae) (pt:V) (pr vl:Int) (g:Gh) (rs:List ae) (s:dN) (b e:Int),vs=[.ref ed,.int b,.int e]/\jT K t ρ H ed de d lp pt pr vl g rs s/\Q (.int (Fm s b e)) H
def oj: #[1,t.gi,#[eN],adC K t]:=by
 exists T.jB,Kr,"13"
 (let(ρ,ed,o,d,q,pt,r,s,i):=508 h;let(g,u,k,b,e,j):=505 i;let(rfl,he,a):=40 j)
 refine aK _ (aj (bX (LM (W0 #[i])) #[Do,T.AZ] bw) (aj (bX (fj (M3 kN kN zo a6 #[aZ] #[bG] #[kt])) #[Do,T.oV] bw) #[Cz,#[ni]])) ?_;rw[1891];rw[1892];have c:=he.Vq;unfold Fm at a;refine(bZ _ _ _ he.iQ T.cg T.kf _ tj ?_);cases m:k.pattern with
 |none=>rw[m]at c a;have c:pt= .cG:=c;rw[aq c];rw[aq rfl]at a;exact a
 |some l=>
  rw[m]at c a;let(p,rfl,_):=21 c;rw[am #[b]];rw[am #[b]]at a;by_cases h0:0<=b
  ·rw[aq h0];by_cases f:b<=e
   ·rw[aq f];refine(b9 _ _ _ he.iQ T.cg T.cv _ cJ _ rfl (b9 _ _ _ he.doc.d.2 T.bo T.cP _ dc _ rfl (aK _ #[oZ] ?_)));rw[aD,he.doc.uM];by_cases n:e<#[qY]
    ·rw[1934];rw[aq (e7 h0 f n)]at a;exact a
    ·rw[1930];rw[am (λz=>n z.2.2)]at a;exact a
   ·rw[am f];rw[am (λz=>f z.2.1)]at a;exact a
  ·rw[am h0];rw[am (λz=>h0 z.1)]at a;exact a
abbrev O4(K:aA)(t:cI):Sp:=λvs H Q _=>∃(ρ:bj) (ed c de d lp:ae) (pt:V) (pr vl:Int) (g:Gh) (rs:List ae) (s:dN) (m:bq) (N:ae->Prop) (E:Nat),vs=#[e8]/\jT K t ρ H ed de d lp pt pr vl g rs s/\iW t N H c m/\fc E m/\∀H',bp H H'->Q (.bl (decide (2000<iM m s.parts))) H'
def u9: #[3,t.ek,#[h4],O4 K t]:=by
 exists T.mx,Dx,"15"
 (let(ρ,ed,c,o,d,f,pt,p,a):=508 h;let(q,g,i,b,m,N,j,e):=507 a;let(rfl,he,k,hm,l):=80 e)
 refine aK _ (aB (aW (eq_ CY (d5 hr (uL T) T.qK T.n8 #[zS]) (cN T.qa)))) ?_;rw[1891];rw[1892];refine(bZ _ _ _ he.iQ T.cg T.el _ gT (x7_ f c i b.parts m N j (rfl,he.lpo,he.Ln,k,hm,(λH' n=>#[q]))));rw[show decide ((2000:Int)<#[uN])=decide (2000<iM m b.parts)from decide_eq_decide.mpr #[f]];exact l H' n
abbrev IY(s:dN)(z:Int):Except Nat bq:=match s.pattern with
 |none=> .error 8
 |some l=>if mF z #[yA]=false then .error 1 else match pH #[lQ] #[uW] l z.toNat with
  |none=> .error 4
  |some m=>if 2000<iM m s.parts then .error 5 else .ok m
def Sn{q:Nat}{m:bq}(c:C4 l)(d:q<=cF s)(h:pH #[lQ] q l n=some m):fc q m/\m.first=n:=by
 have a:q<=#[lQ].text.length:=by rw[AG];exact d
 let(f,g,i,b):=60 (nL a h);have e:m.first=n:=by rw[b]
 have j:m.last=nA #[lQ] q l n:=by rw[b]
 exact((by lia,by lia,aky a c.gk h),e)
def fc.mono{a b:Nat}{m:bq}(h:fc a m)(c:a<=b):fc b m:=(h.lt,dk h.le c,h.gs)
def N0(a:Good s.doc){m:bq}(h:fc #[uW] m):(lW #[lQ] s.parts m).length=iM m s.parts/\lW #[lQ] s.parts m=fx s.doc m s.parts:=by have b:cF s=ba s.doc-1:=rfl;rw[Ta s h];exact(wZ h #[hQ] s.parts,rfl)
def KR(b:Good s.doc)(c:∀l,s.pattern=some l->C4 l)(z:Int)(f:bq->bB->dN×zk):uV s z f=match IY s z with| .error n=>#[zj]| .ok m=>f m #[ei]:=by
 unfold uV fX IY;cases e:s.pattern with
 |none=>rfl
 |some l=>
  rw[1897];rw[2075]
  ·rw[2077]
  ·rw[2078];show(match pH #[lQ] #[uW] l z.toNat with|none=>_|some m=>_)=_;cases em:pH #[lQ] #[uW] l z.toNat with
   |none=>rfl
   |some m=>
    rw[1897];let(d,g):=20 (N0 b (Sn (c l e) #[gw] em).1);rw[d,g];show(if 2000<iM m s.parts then _ else _)=_;by_cases h5:2000<iM m s.parts
    ·rw[aq h5,aq h5]
    ·rw[am h5,am h5]
abbrev alO(K:aA)(t:cI):Sp:=λvs H Q _=>∃(ρ:bj) (ed de d lp:ae) (pt:V) (pr vl:Int) (g:Gh) (rs:List ae) (s:dN) (z:Int),vs=[.ref ed,.int z]/\jT K t ρ H ed de d lp pt pr vl g rs s/\ba s.doc<=1000000/\(∀n,IY s z= .error n->n≠0->∀H' r,bp H H'->H' r=some (.tup #[jM])->Q #[kQ] H')/\∀m,IY s z= .ok m->fc #[uW] m->#[R]=z->iM m s.parts<=2000->∀H' r c,bp H H'->H' r=some (.tup [.int 0,.ref c])->iW t #[iQ] H' c m->Q #[kQ] H'
def B2: #[9,t.gH,#[l9],alO K t]:=by
 exists T.sZ,wg,"12"
 (let(ρ,ed,s,d,u,pt,v,w,k):=508 h;let(g,x,i,z,y):=504 k;let(rfl,he,hz,f,j):=80 y)
 refine aK _ (aj (bQ 2 wg.nd (d5 hr (oj T) T.lV T.jB #[CJ,#[yH]])) (aj (bX #[CM,#[bG]] (aB (aW (lY (ag #[bG] #[yF])))) bw) (aj (bQ 3 wg.nd (nq hr #[nd] T.dQ T.qB (DK T) T.ua #[J])) (aj (bX (LM (W0 #[dy])) (aB (aW (lY (ag (cN T.y9) #[yF])))) bw) (aj (bX (dB (d5 hr (u9 T) T.qt T.mx #[CJ,#[X]])) (aB (aW (lY (ag (cN T.vt) #[yF])))) bw) (aB (aW (lY (ag #[ni] #[X]))))))))) ?_;rw[1891];rw[1892];refine(x8_ ρ ed s d u pt v w (x5_ g x i z z (e7 rfl he ?_)));have two:2<=aS:=by rw[cH];decide
 have o:mF z (ba i.doc)=(decide (0<=z)&&decide (z<#[zO])):=rfl;unfold Fm;unfold IY at f j;cases a:i.pattern with
 |none=>rw[aq rfl];rw[a]at f;rw[1899];rw[1900];exact(two,λp a=>f 8 rfl #[c] _ p (a3 a) ao)
 |some l=>
  rw[a]at f j;dsimp only at f j;rw[am #[b]];by_cases n:0<=z/\z<=z/\z<#[zO]
  ·rw[aq n];rw[o,aT n.1,aT n.2.2,am #[c]]at f j;rw[1899];rw[1898];refine(x8_ ρ ed s d u pt v w (x4_ g x i l (rfl,he,a,hz,λL E q F=> ?_)))
   (let(H,_,_,_,_,_,_,_,_,k):=9 (F.ob);let(A,_):=20 k)
   refine(aK E rfl (c4 _ _ A DE (x6_ E z.toNat #[iQ] _ _ l (o3 (by rw[cM n.1]) F (λe=> ?_) (λm I c e B J=> ?_)))))
   ·rw[1897];rw[1898];rw[e]at f;exact(two,λp a=>f 4 rfl #[c] _ p (q.trans (a3 a)) ao)
   ·rw[1897];rw[am #[b]];rw[e]at f j;dsimp only at f j;let(G,M):=20 (Sn (he.pat l a) #[gw] e);have r:iW t #[iQ] I c m:=J.mono λb n=>he.doc.role.free (q.free n);refine(x8_ ρ ed c s d u pt v (x7_ w g x i m _ _ (rfl,he.same (q.trans B),r,G,λN C=>#[q])));by_cases h5:2000<iM m i.parts
    ·rw[aq #[tO]];rw[aq h5]at f;exact(two,λp a=>f 5 rfl #[c] _ p #[kd] ao)
    ·rw[am #[tO]];rw[am h5]at j;exact(two,λp a=>j m rfl G #[f] #[f] _ p c #[kd] ao ((r.same C).same (a3 a)))
  ·rw[am n];have D:mF z (ba i.doc)=false:=by
    rw[o];simp
    lia
   rw[aq D]at f;rw[1899];rw[1900];exact(two,λp a=>f 1 rfl #[c] _ p (a3 a) ao)
def Fn{b:Int}(h:s.pattern=none):Fm s b e= -8:=by unfold Fm;rw[aq h]
def HK{b:Int}(h:s.pattern=some l)(n:¬(0<=b/\b<=e/\e<#[cD])):Fm s b e= -1:=by unfold Fm;rw[am #[oL],am n]
def KS{b:Int}(h:s.pattern=some l)(n:0<=b/\b<=e/\e<#[cD]):Fm s b e=0:=by unfold Fm;rw[am #[oL],aq n]
def xE{l:List Nat}:enc (.told l)=nums l:=by show(l.map Int.ofNat).map V.int=l.map _;rw[fO];rfl
def abQ{z:Int}{m:bq}(h:IY s z= .ok m)(b:s.pattern=some l):pH #[lQ] #[uW] l z.toNat=some m/\0<=z/\z<#[cD]:=by
 unfold IY at h;rw[b]at h;rw[1913];rw[2075]
 ·rw[aq a]at h;rw[1914]
 ·rw[am a]at h;have a:¬(decide (0<=z)&&decide (z<#[cD]))=false:=a;simp at a;cases em:pH #[lQ] #[uW] l z.toNat with
  |none=>rw[em]at h;rw[1914]
  |some c=>
   rw[em]at h;rw[1913];split at h
   ·rw[1914]
   ·rw[1914];exact(e7 rfl #[j] #[j])
def Vs{z:Int}{m:bq}(h:IY s z= .ok m):∃l,s.pattern=some l:=by
 unfold IY at h;cases a:s.pattern with
 |none=>rw[a]at h;rw[1914]
 |some l=>exact(l,rfl)
def KU:3<=aS:=by rw[cH];decide
def afW:2<=aS:=by rw[cH];decide
def Wr: #[9,t.jk,#[e],lJ K t 1 λzs=> .find #[bk]]:=by
 exists T.Bd,zt,"9";let(ρ,ed,c,dx,a,i,j,ns,zs,rfl,x,G,B,hz,q,hsz,b):=649 h;refine aK _ (aj #[Ci,zt.nd] (aj (bQ 3 zt.nd (d5 hr (oj T) T.lV T.jB (ag #[aq] (ag #[bG] #[C])))) (aj (bX #[CM,#[dy]] #[Dn,#[X]] bw) (aj (bQ 4 zt.nd (nq hr #[nd] T.dQ T.lb (uK T) T.og #[C])) (aB (aW (wM (LM (W0 #[pf])) (cf (ag a6 (ag a6 #[yE]))) (cf (ag a6 #[xC]))))))))) ?_;rw[1891];let(z,rfl):=1 (ve B);have C:ns[i]?=some z:=hz 0 #[c];obtain⟨⟨I,d,J,pt,L,M,g,N,he⟩,n,r⟩:=x;simp[-ah,-aa,-ai,-aR,au,r,bM];refine ou r G C ?_;let(Z,R,k,o,y,S):=81 (ov he n r G (i+1));rw[R];have U:=q.cnt;have b:cq K t ρ H ed c dx a (i+1) (fX j λl=>if mF z #[mC]=false then #[CU,j]else((j),match(c3 (bf j) (cF j) l z.toNat).head? with|some m=> .told [1,m.first,m.last]|none=> .told [0,0,0])) Q:=b;have u:mF z #[mC]=(decide (0<=z)&&decide (z<#[lR])):=rfl;refine(x8_ ρ ed I d J pt L M (x5_ g N j z z (o3 rfl k rfl ?_)));unfold fX at b;cases f:j.pattern with
 |none=>rw[f]at b;rw[Fn f];rw[1900];exact #[iA]
 |some l=>
  rw[f]at b;dsimp only at b;by_cases v:0<=z/\z<=z/\z<#[lR]
  ·rw[KS f v];rw[u,aT v.1,aT v.2.2,am #[c]]at b;rw[1898];refine(x8_ ρ ed I d J pt L M (x4_ g N j l (rfl,k,f,by lia,λH2 O A x=> ?_)))
   (let(V,_,_,_,_,_,_,_,_,D):=9 (x.ob);let(E,_):=20 D)
   refine(aK O rfl (c4 _ _ E uG (x6_ O z.toNat #[iQ] _ _ l (o3 (by rw[cM v.1]) x (λe=> ?_) (λm H3 P e e2 W X=> ?_)))))
   ·rw[e]at b;rw[1898];exact(KU,λp f=>cq.done b #[DD,A] (k.same A) n (A _ _ o) f rfl)
   ·rw[e]at b;rw[am #[b]];have s:=A.trans W;let(Y,lg,_,_,w,_):=62 X;exact(aK P rfl (b9 _ _ _ w T.iA T.jn _ oh P rfl (jc _ _ _ w T.iA T.kJ (cX _ oD KU (λp f=>cq.done b #[DD,s] (k.same s) n (s _ _ o) f rfl)))))
  ·rw[HK f v];have F:mF z #[mC]=false:=by rw[u];simp;simp_all
   rw[aq F]at b;rw[1900];exact #[iA]
def Ws: #[10,t.jl,#[e],lJ K t 1 λzs=> .matchOf #[bk]]:=by
 exists T.Be,zu,"9";let(ρ,ed,c,dx,a,i,b,ns,zs,rfl,hS,hl,L,hz,q,hsz,s):=649 h;refine aK _ (aj (bQ 2 zu.nd (d5 hr (B2 T) T.xu T.sZ (ag #[aq] #[Cw,#[d]]))) (aj (bX #[CM,#[hL]] (aB (aW #[DC,#[hL]])) bw) (aj (bQ 3 zu.nd #[hL]) (aj (bQ 4 zu.nd (d5 hr (By T) T.wh T.si (ag #[i] (ag #[i] #[X])))) (aB (aW (cV LX (cV LX (cV LX (cf (ag #[hT] #[ns])) #[hT]) (cf (ag (oi T.len #[pf]) aw))) #[pf]))))))) ?_;rw[1891];let(z,rfl):=1 (ve L);have M:ns[i]?=some z:=hz 0 #[c];obtain⟨⟨de,d,lp,pt,pr,vl,g,rs,he⟩,u,v⟩:=hS;simp[-ah,-aa,-ai,-aR,au,v,bM];refine ou v hl M ?_;let(H1,eH,k,A,o1,Y9):=81 (ov he u v hl (i+1));rw[eH];have hr1:=q.cnt;have s:cq K t ρ H ed c dx a (i+1) (uV b z λm new=>((b),.told (CS m new))) Q:=s;rw[KR he.good he.pat]at s;refine(x8_ ρ ed de d lp pt pr vl (x4_ g rs b z (rfl,k,by lia,λn e hn0 N r x hr=> ?_,λm e mk mf mz N r J x hr hc=> ?_)))
 ·rw[e]at s;have B:cK K N r #[jM]:=cK.of hr;refine #[ta];rw[am #[jd]];exact(a7 r rfl _ B (cX _ rfl eC (λp y=>cq.done s #[Ch,x] (k.same x) u (x _ _ A) y rfl)))
 ·rw[e]at s;have B:cK K N r [.int 0,.ref J]:=cK.of hr;have j:=k.same x;rw[1931];rw[1945];have C:fc (ba b.doc) m:=mk.mono #[j];have hrl:#[ej].length=iM m b.parts:=wZ C (by rw[eZ];solve_by_elim) b.parts;rw[1894];refine #[ta];rw[1898];refine(a7 r rfl _ B (aK _ rfl (bZ _ _ _ j.iQ T.cg T.cv _ cJ (bZ _ _ _ j.iQ T.cg T.el _ gT (x10_ ρ d lp J g b.doc rs b.parts m _ (rfl,j.doc,j.lpo,j.Ln,hc,C,by lia,by lia,(λH3 ls O hn3 D=> ?_)))))));have P:=hc.same O;let(dxm,lg,nc,nlg,E,R):=62 P;have F:=j.same O;let(l,y):=1 (Vs e);let(em,_):=20 (abQ e y);have S:m.groups.length=opened l:=(Ka (by rw[AG];exact be _) (he.pat l y).gk em).2.2.2.2.2.1;have hop:opened l<=40:=by have h1:=jE ZC l;have h2:=(he.pat l y).Af;unfold opened;exact dk ‹_› ‹_›
  have G:=F.Vq;rw[y]at G
  (let(p,rfl,U):=21 G;let(dxp,f,Sj,hNf,V,hlf,hit):=63 U)
  refine(aK J rfl (bZ _ _ _ E T.iA T.kJ _ oD (b9 _ _ _ F.iQ T.cg T.kf _ tj p rfl (jc _ _ _ V T.vu T.jW (cX _ oN afW (λp1 W=> ?_))))));have X:bp H3 (upd H3 p1 #[Da,#[fy]]):=a3 W;refine(aK J rfl (b9 _ _ _ (X _ _ E) T.iA T.ri _ Gs _ rfl (eU _ ao _ (X _ _ R) (by rw[bG,ER];show 2+_<=_;lia) (λp2 Y=> ?_))));have s5:=X.trans (a3 (o:= .lst #[uB]) Y);refine(eU ls rfl _ (.inl (a8.of (s5 _ _ D))) eC (λp3 Z=> ?_));have I:=a3 (o:= .lst [.int #[pW]]) Z;have s6:=s5.trans I;refine(eU _ (I _ _ ao) _ ao (by rw[aM,bG,ER];show 2+_+1<=_;lia) (λp4 hp4=> ?_));have s7:=s6.trans (a3 (o:= .lst (#[uB]++[.int #[pW]])) hp4);refine(a7 ls rfl _ ao (cX _ (s7 _ _ D) (by rw[aM,aM,bG,ER,bG];show 2+_+1+_<=_;lia) (λp5 hp5=> ?_)));have w:=(x.trans O).trans s7;refine cq.done s #[Ch,w] (k.same w) u (w _ _ A) hp5 ?_;rw[xE,bG,<-S];unfold CS;show _=nums (([m.last,m.groups.length]++nM m.groups)++([#[ej].length]++fx b.doc m b.parts));rw[<-jC,<-jC,<-jC,fz _ [_]];rfl
def GH(a:Good s.doc){p q:Int}:BK s p q=decide (0<=p/\p<=q/\q<#[cD]):=by have b:=iN a;have c:cF s=ba s.doc-1:=rfl;unfold BK;rw[dr];simp;omega
def So{p q:Nat}(e:C4 l)(d:q<=cF s):(∀m∈c3 (bf s) q l p,fc q m)/\#[ok].Pairwise (λa b=>a.last<=b.first)/\widths #[ok]<=q-p/\#[ok].length<=q-p:=by
 have c:q<=#[lQ].text.length:=by rw[AG];exact d
 let(f,g,h):=40 (XI (items:=l) c _ p rfl);exact(o3 (λm hm=>(Sn e d (aev c _ p rfl m hm).2.1).1) f g h)
def Qp{ρ:bj}{ed d:ae}{pt:V}{g:Gh}{items:List Item}{p q:Nat}(he:jT K t ρ H ed de d lp pt pr vl g rs s)(o:s.pattern=some items)(hz:ba s.doc<=1000000)(r:q<=cF s) (u:∀H' c cs,bp H H'->H c=none->H' c=some #[bX]->MatchesAt t #[iQ] H' cs (c3 #[lQ] q items p)->Q #[hu] H'):∀(x dx:ae),H x=none->H dx=none->¬dx=x->CL K t [.ref x,.ref ed,.int (q:Int)] (upd #[CV,H] x #[go]) (λv H2=>v= .cG/\∃f e,H2 x=some (.ins t.Search f e)/\e.lookup #[to]=none/\HJ t [.ref x,.int (p:Int)] H2 Q E0) E0:=by
 intro x dx w z A;refine O3 he o hz r w z A λH' i n=>(rfl,?_)
 (let(B,_,_,_,_,_,_,_,_,j):=9 (n.ob);let(k,_):=20 j)
 have C:=iN he.good;have G:cF s=ba s.doc-1:=rfl;refine(c4 _ _ k IQ (x6_ x p #[iQ] _ q items (o3 rfl n #[f] (λH2 c cs D E l m=>u H2 c cs (i.trans D) (i.free E) l (L2.Paired.imp' (λa b h=>h.mono λy F=>he.doc.role.free (i.free F.1)) m)))))
def alP(ms:List bq):(ms.flatMap λm=>[m.first,m.last]).length=2*ms.length:=by
 induction ms with
 |nil=>rfl
 |cons m ms a=>rw[qj,aM,a];show 2+_=2*(ms.length+1);lia
def Sq: #[8,t.gB,#[e],lJ K t 2 λzs=> .matches #[bk] #[hG]]:=by
 exists T.yf,nQ,"9";let(ρ,ed,c,dx,a,i,f,ns,zs,rfl,hS,hl,OZ,hz,E,hsz,n):=649 h;refine aK _ (aj #[Ci,nQ.nd] (aj #[CP,nQ.nd] (aj (bQ 4 nQ.nd #[cX]) (aj #[gd] (aj (bQ 5 nQ.nd #[bC]) (aj (bQ 6 nQ.nd #[DC,#[vF]]) (aj (iz PassesOwn.never rfl #[qH] (o6 7 nQ.nd) (aj #[hb] (aB #[hb]))) #[Cz,#[zp]]))))))) ?_;rw[1891];let(u,v,rfl):=2 (Uu OZ);have Lm:ns[i]?=some u:=hz 0 #[c];have hz1:ns[i+1]?=some v:=hz 1 #[c];rw[1946];rw[1943];refine ou C hl Lm (c4 _ _ ao bM (pP C hl hz1 ?_));let(H1,eH,r,G,Y,Y9):=81 (ov he B C hl (i+2));rw[eH];rw[1894];have hr1:=E.cnt;rw[1931];have adD:cF f=ba f.doc-1:=rfl;have n:cq K t ρ H ed c dx a (i+2) (fX f λl=>if BK f u v=false then #[CU,f]else((f),.told (#[nj].length::#[nj].flatMap λm=>[m.first,m.last]))) Q:=n;rw[GH he.good]at n;refine(x8_ ρ ed de d lp pt pr vl (x5_ g rs f u v (o3 rfl r rfl ?_)));unfold fX at n;cases w:f.pattern with
 |none=>rw[w]at n;rw[Fn w];rw[1900];exact #[iw]
 |some l=>
  rw[w]at n;dsimp only at n;by_cases P:0<=u/\u<=v/\v<(ba f.doc:Int)
  ·rw[KS w P];rw[aT P,am #[c]]at n;rw[1898];have e0:V.int u=V.int ((u.toNat:Nat):Int):=by rw[cM P.1]
   have e1:V.int v=V.int ((v.toNat:Nat):Int):=by rw[cM #[f]]
   let(m1,m2,m3,m4):=60 (So (s:=f) (p:=u.toNat) (q:=v.toNat) (he.pat l w) #[f]);rw[e0,e1];refine Qp r w #[f] #[f] λH2 lm cs s2 hn2 I J=> ?_;generalize c3 (bf f) v.toNat l u.toNat=ms at n m1 m2 m3 m4 J;have R:cs.length=ms.length:=Paired.length J;refine(eU lm rfl _ #[Ce,I] eC (λS x=> ?_));have s3:bp H2 (upd H2 S (.lst [.int (#[qS].length:Int)])):=a3 x;refine uH (a:=lm) (xs:=cs.map V.ref) (λj Z H'=>∃(v7:Option V),Z=[some #[mF],some #[nz],some (V.int (u.toNat:Int)),some (V.int (v.toNat:Int)),some (V.int 0),some #[yM],some (V.ref S),v7]/\bp H2 H'/\H' S=some #[Cd,#[fE]]) rfl (a8.of (s3 _ _ I)) (cX none rfl s3 (by rw[ao,aD,R];rfl)) ?_ ?_ ?_
   ·(intro j Z H' _ A;let(v7,rfl,O,L):=41 A)
    exact a8.of (O _ _ I)
   ·(intro j y Z H' hy A;let(v7,rfl,O,L):=41 A)
    rw[2031];let(m,hm,hma):=21 (iZ J hcm);have U:=hma.same O;let(dxm,lg,_,_,M,_):=62 U;have hj:=jY hm;have D:(ms.length::(ms.take (j+1)).flatMap λm=>[m.first,m.last])=#[fE]++[m.first,m.last]:=by rw[take_snoc hm,ij];simp
    have W:∀(k:Nat) (ms:List bq),(nums (k::ms.flatMap λm=>[m.first,m.last])).length=1+2*ms.length:=λk ms=>by rw[bG,ak,alP];lia
    have FL:(ms.take j).length<=ms.length:=by rw[bE];lia
    have X:S≠cm:=dt L M #[b];rw[1892];refine(.inl (rfl,_,a8.of L),bZ _ _ _ M T.iA T.jn _ oh (oZ _ L (by rw[W];lia) #[aV] (bZ _ _ _ (by rw[aE X.symm];exact M) T.iA T.kJ _ oD (oZ _ ao (by rw[aM,W];show _+1<_;lia) ?_ ?_))))
    ·intro b o e;rw[aE #[zW],aE #[zW]];exact O _ _ e
    ·rw[ao];have D:=dA nums D;rw[<-jC]at D;rw[fz,D];rfl
   ·(intro Z H' A;let(v7,rfl,O,L):=41 A)
    rw[aD,R,cy]at L;have N:=s2.trans O;exact n ρ H' S (Y.trans #[Cp,N]) ⟨(x8_ _ _ _ _ _ _ _ _ (r.same N)),B,N _ _ G⟩ (Y.dom _ (s2.free x)) (r.doc.role.free (s2.free x)) (by rw[L,xE])
  ·rw[HK w P];rw[aV P,aq rfl]at n;rw[1900];exact #[iw]
def GI(f:Good s.doc){m:bq}(d:fc #[uW] m):r8 #[lQ] m #[ei]=di s.doc s.parts m/\#[eo].new.length+#[dL]=iM m s.parts+#[eo].gone/\#[eo].gone<=m.last-m.first:=by
 have g:=iN f;have e:cF s=ba s.doc-1:=rfl;have a:=d.le;have h:r8 #[lQ] m #[ei]=di s.doc s.parts m:=by rw[aco,FW s a];rfl
 have b:=Kd (dG #[pm] m.first m.last) #[ei] m.first;rw[wX #[hQ]]at b;have c:#[ei].length=iM m s.parts:=wZ d #[hQ] s.parts;rw[c]at b;exact(e7 h b.1 (by show(kb _ _ _).gone<=_;lia))
def Uw: #[10,t.ip,#[e],lJ K t 1 λzs=> .replace #[bk]]:=by
 exists T.zF,rf,"9";let(ρ,ed,c,dx,a,i,b,ns,zs,rfl,hS,hl,OZ,hz,q,hsz,o):=649 h;refine aK _ (aj #[Ci,rf.nd] (aj (bQ 3 rf.nd (d5 hr (B2 T) T.xu T.sZ #[CJ,#[C]])) (aj (bX #[CM,#[AN]] #[Dn,#[gf]] bw) (aj (bQ 4 rf.nd (cf #[gf])) (aj (bX (f7 CY (d5 hr (B1 T) T.xp T.sX #[pt]) (cN T.xl)) #[fl] bw) (aj (bQ 5 rf.nd (cV rA #[bG] (d5 hr (uL T) T.qK T.n8 (ag #[i] #[gf])))) (aj (bQ 6 rf.nd (d5 hr (DL T) T.yS T.t8 #[pt])) (aB (aW (cf (ag (pv 5) (ag #[lI] #[Cw,#[lI]])))))))))))) ?_;rw[1891];let(z,rfl):=1 (ve OZ);rw[2033];obtain⟨⟨de,d,Z,pt,pr,vl,g,rs,he⟩,s,C⟩:=hS;rw[1943];refine ou C hl Lm ?_;let(H1,eH,k,x,o1,Y9):=81 (ov he s C hl (i+1));rw[eH];rw[1894];have hr1:=q.cnt;have hr2:=q.chg;rw[1931];rw[1945];have o:cq K t ρ H ed c dx a (i+1) (uV b z λm new=>if Nu+1<ba b.doc+#[f5].new.length-#[f5].gone then #[zR]else(({b with doc:=cU b.doc #[f5]}),.told [m.first+new.length,#[f5].new.length,#[f5].gone])) Q:=o;rw[KR he.good he.pat]at o;refine(x8_ ρ ed de d Z pt pr vl (x4_ g rs b z (rfl,k,by lia,λn e hn0 D r B hr=> ?_,λm e N mf mz D r w B hr hc=> ?_)))
 ·rw[e]at o;have O:cK K D r #[jM]:=cK.of hr;refine #[s9];rw[1953];exact(a7 r rfl _ O (cX _ rfl eC (λp P=>cq.done o #[Ch,B] (k.same B) s (B _ _ x) P rfl)))
 ·rw[e]at o;have O:cK K D r #[xS]:=cK.of hr;have he2:=k.same B;have E:fc (ba b.doc) m:=N.mono #[f];have hrl:#[ej].length=iM m b.parts:=wZ E #[hQ] b.parts;let(t1,t2,t3):=40 (GI he.good N);have o:cq K t ρ H ed c dx a (i+1) (if 2001<ba b.doc+#[ak].new.length-#[ak].gone then #[zR]else(({b with doc:=cU b.doc #[ak]}),.told [m.first+iM m b.parts,#[ak].new.length,#[ak].gone])) Q:=by rw[<-t1,<-hrl];exact o
  refine #[s9];rw[1898];refine(a7 r rfl _ O (cX _ rfl eC (λF R=> ?_)));have M:bp D (upd D F #[pQ]):=a3 R;have u:upd D F #[pQ] F=some (.lst ([w].map V.ref)):=ao;generalize upd D F #[pQ]=H3 at M u;have f:=he2.same M;have G:=hc.same M;have S:MatchesAt t #[iQ] H3 [w] [m]:= .cons G .nil;refine(bZ _ _ _ f.iQ T.cg T.cv _ cJ (bZ _ _ _ f.iQ T.cg T.el _ gT (x8_ d Z F _ g.sl _ _ _ (x9_ _ _ _ rs ([w]) b.parts ([m]) _ _ (rfl,f.doc.d.2,f.doc.sl.2,f.lpo,f.Ln,u,S,(λm' v=>by rw[bh.mp v];exact E),(λH4 U=>#[q]))))));rw[aD,f.doc.uM];have W:hH b.parts [m]=#[uN]-#[nM]:=by unfold hH;simp
  have FL:=N.lt;have hle:=N.le;show if(2001:Int)<#[lT]+hH b.parts [m]then _ else _
  by_cases j:(2001:Int)<#[lT]+hH b.parts [m]
  ·rw[aq j];rw[aq #[u5]]at o;have I:=(B.trans M).trans U;exact(eC,λp P=>cq.done o #[Ch,I] (k.same I) s (I _ _ x) P rfl)
  ·rw[am j];rw[am #[u5]]at o;have y:=f.same U;have hT4:cK K H4 r #[xS]:=cK.of (U _ _ (M _ _ hr));refine(b9 _ _ _ y.iQ T.cg T.el _ gT r rfl (a7 _ hT4 _ rfl (x7_ Z w rs b.parts m _ _ (rfl,y.lpo,y.Ln,G.same U,E,(λH5 s5=>#[cx])))));have l:=y.same s5;have J:=U.trans s5;have X:ρ F=none:=k.doc.role.free (B.free R);refine(bZ _ _ _ l.iQ T.cg T.cv _ cJ (bZ _ _ _ l.iQ T.cg T.el _ gT (x10_ ρ d Z F g b.doc rs ([w]) b.parts ([m]) (rfl,l.doc,he.good,l.lpo,l.Sm,l.Ln,he.pk,J _ _ u,X,.cons (G.same J) .nil,(λm' v=>by rw[bh.mp v];exact N,JO _ _,by show #[dL]+0<=_;lia,by show 1<=_;lia,λm' v=>by rw[bh.mp v];exact mz,by lia),by lia,by lia,(λρ6 H6 g6 r6 e6 d6 hgd L=> ?_)))));have d6:DocOk K t ρ6 H6 d g6 (cU b.doc #[ak]):=d6;have L:H6 r6=some (.tup #[eB]):=by rw[L];show some (HO.tup [.int ((0+#[ak].new.length:Nat):Int),.int ((0+#[ak].gone:Nat):Int)])=_;rw[Nat.zero_add,Nat.zero_add]
   have Y:cK K H6 r6 #[eB]:=cK.of L;have A:=(B.trans M).trans J;refine(a7 r6 rfl _ Y (a7 _ rfl r6 rfl (eU _ Y _ rfl KU (λp P=>cq.done o (#[Ch,A].trans #[tc]) ((k.same A).cmd e6 d6 hgd) #[p7].2 #[p7].1 P ?_))));rw[xE,<-mf];rfl
def ajH{a:ae}{vs:List Nat}(r:a8 K H1 a xs)(hz:xs.length<=aS)(g:ys.length=xs.length)(hw:∀x,wipe #[dm] vs=wipe σ vs) (h:∀(j:Nat) x y H' (Q':VK),xs[j]?=some x->ys[j]?=some y->bp H1 H'->(∀H2,bp H' H2->Q' y H2)->te #[dm] H' Q') (k:∀D H2,H1 D=none->bp H1 H2->H2 D=some #[pP]->Q #[l0] H2):R1 #[jE] (sN i) Ph te vs σ H1 Q:=by
 intro D m;refine S1 (K:=K) (a:=a) (xs:=xs) (λi H'=>bp H1 H'/\H' D=some (.lst (ys.take i))) (a3 m,ao) ?_ ?_ ?_
 ·(intro i H' _ c;let(d,_):=20 c)
  exact d.seq r
 ·(intro j x H' n c;let(d,f):=20 c)
  have s:=jY n;have p:=aN (l:=ys) (i:=j) #[j];refine #[Am];unfold Ph;rw[1897];rw[1898];refine h j x _ H' _ n p d λH2 q=>(oZ _ (q _ _ f) #[pp] ?_ ?_)
  ·intro b o e;rw[aE (a5 e m)];exact q _ _ (d _ _ e)
  ·rw[ao,take_snoc p]
 ·(intro H' c;let(d,f):=20 c)
  rw[<-g,cy]at f;exact k D H' m d f
def HL{s:dN}(a:Good s.doc):∀(ms:List bq),(∀m∈ms,fc #[uW] m)->((dY #[je]:Nat):Int)-((dY #[eK]:Nat):Int)=hH s.parts ms/\dY #[eK]<=widths ms
 |[],_=>(rfl,be _)
 |m::ms,h=>by
  let(c,d):=20 (HL a ms λx f=>h x (a9 _ f));have b:=h m bg;let(_,j,k):=40 (GI a b);have g:=b.lt;rw[AH,AH]at c;rw[AH]at d;rw[AH,AH,cB,cB,cB,Jc,Jc];rw[1969];have i:hH s.parts (m::ms)=(#[uM]-#[nM])+hH s.parts ms:=by unfold hH;simp
  rw[e,i];exact #[tr]
def JG(l:List Nat):dY l.reverse=dY l:=by rw[AH,AH,List.sum_reverse]
def Ux: #[8,t.iq,#[e],lJ K t 2 λzs=> .replaceAll #[bk] #[hG]]:=by
 exists T.zG,mX,"9";let(ρ,ed,c,dx,a,i,e,ns,zs,rfl,hS,hl,OZ,hz,F,hsz,n):=649 h;refine aK _ (aj #[Ci,mX.nd] (aj #[CP,mX.nd] (aj (bQ 4 mX.nd #[cX]) (aj #[gd] (aj (bQ 5 mX.nd #[bC]) (aj (bX (dB (wQ (akh rfl) #[aT] T.any #[a] (ag (QX (te:=CZ (O4 K t) [] E0 (o8 #[AT] (o8 (iK 6) vd))) (own:=[(("found"),6)]) rfl mX.nd #[qH] (zP (N:=#[dS]) (sc:=aQ zr) #[a]) (λ_ _ _ _ _=>o6 6 mX.nd) (λ_ _ _ _ _=>Fv) (λ_ _ _ _ _=>(d5 hr (u9 T) T.qt T.mx #[CJ,#[d6]]))) aw)))
    #[fl]
    bw)
   (aj (bX (f7 CY (d5 hr (B1 T) T.xp T.sX #[ps]) (cN T.xl)) #[fl] bw)
   (aj (bQ 7 mX.nd (d5 hr (DL T) T.yS T.t8 #[ps]))
   (aB (aW (cf (ag #[vF] (ag #[AM] #[Cw,#[AM]]))))))))))))) ?_
 rw[1891];let(o,k,rfl):=2 (Uu OZ);have Lm:ns[i]?=some o:=hz 0 #[c];have hz1:ns[i+1]?=some k:=hz 1 #[c];obtain⟨⟨de,d,lp,pt,pr,vl,g,rs,he⟩,A,J⟩:=hS;simp[-ah,-aa,-ai,-aR,au,J,bM];refine ou J hl Lm (c4 _ _ ao bM (pP J hl hz1 ?_));let(H1,eH,u,C,X,Y9):=81 (ov he A J hl (i+2));rw[eH];rw[1894];have hr1:=F.cnt;have hr2:=F.chg;rw[1931];have adD:cF e=ba e.doc-1:=rfl;have n:cq K t ρ H ed c dx a (i+2) (fX e λl=>if BK e o k=false then #[CU,e]else
  if(#[a9].any (λm=>decide #[wr])||decide (Nu+1<ba e.doc+dY ((uW e l o.toNat k.toNat).map λt=>t.new.length)-dY #[pZ]))=true then #[zG]
  else(({e with doc:=#[c1].foldl cU e.doc}),.told [#[a9].length,dY (#[c1].map λt=>t.new.length),dY #[pZ]])) Q:=n
 rw[GH he.good]at n;refine(x8_ ρ ed de d lp pt pr vl (x5_ g rs e o k #[vH]));unfold fX at n;cases r:e.pattern with
 |none=>rw[r]at n;rw[Fn r];rw[1900];exact #[ix]
 |some l=>
  rw[r]at n;dsimp only at n;by_cases Y:0<=o/\o<=k/\k<#[lS]
  ·rw[KS r Y];rw[aT Y,am #[c]]at n;rw[1898];have e0:V.int o=V.int #[uA]:=by rw[cM Y.1]
   have e1:V.int k=V.int ((k.toNat:Nat):Int):=by rw[cM #[f]]
   let(m1,m2,m3,m4):=60 (So (s:=e) (p:=o.toNat) (q:=k.toNat) (he.pat l r) #[f]);rw[e0,e1];have hts:uW e l o.toNat k.toNat=#[a9].reverse.map #[ib]:=by show(#[a9].reverse.map _)=_;rw[2112];have mk:=(m1 m #[sR]).mono (show k.toNat<=cF e by lia);rw[(N0 he.good mk).2,(GI he.good mk).1]
   rw[hts]at n;have Z:#[a9].any (λm=>decide #[wr])=#[a9].any (λm=>decide #[dw]):=by
    rw[dr,rq,rq];have hx:∀m∈c3 (bf e) k.toNat l o.toNat,#[jR].length=iM m e.parts:=λm hm=>(N0 he.good ((m1 m hm).mono (show k.toNat<=cF e by lia))).1;constructor
    ·(intro U;let(m,hm,h):=21 U);exact(aK m hm (by rw[hx m hm]at h;exact h))
    ·(intro U;let(m,hm,h):=21 U);exact(aK m hm (by rw[hx m hm];exact h))
   rw[Z]at n;refine Qp u r #[f] #[f] λH2 lm cs s2 hn2 W L=> ?_;generalize c3 (bf e) k.toNat l o.toNat=ms at n m1 m2 m3 m4 L;have Vj:cs.length=ms.length:=Paired.length L;have M:∀m∈ms,fc (cF e) m:=λm hm=>(m1 m hm).mono #[f];let(u1,u2):=20 (HL he.good ms M);have r1:dY #[fT]=dY (#[zt].map λt=>t.new.length):=by rw[gD,gD,JG]
   have r2:dY #[eQ]=dY (#[zt].map λt=>t.gone):=by rw[gD,gD,JG]
   have G:(2001<ba e.doc+dY #[fT]-dY #[eQ])↔(2001:Int)<#[lS]+hH e.parts ms:=by rw[r1,r2];lia
   have n:cq K t ρ H ed c dx a (i+2) (if(ms.any (λm=>decide #[dw])||decide (2001<ba e.doc+dY ((ms.reverse.map (di e.doc e.parts)).map λt=>t.new.length)-dY #[eQ]))=true then #[zG] else(({e with doc:=#[F].foldl cU e.doc}),.told [ms.length,dY #[fT],dY #[eQ]])) Q:=by rw[r];exact n
   refine(cX lm rfl #[Cu,W] ?_);have he2:=u.same s2;refine ajH (ys:=#[nT].map V.bl) #[BI] #[er] (by rw[aD,aD,aD];lia) (λ_=>rfl) (λj x y H' Q' hx hy hs hq=> ?_) λD H3 hD s3 hD3=> ?_
   ·let(cm,hcm,rfl):=21 (iU hx);let(m,hm,hma):=21 (iZ L hcm);rw[bz,bz,hm]at hy;cases hy;refine x8_ ρ ed cm de d lp pt pr (x7_ vl g rs e m _ _ (rfl,he2.same hs,hma.same hs,M m #[yC],λZl s2'=>hq Zl s2'))
   refine(c4 D _ rfl (a8.of hD3) #[q]);have hid:#[nT].any id=ms.any λm=>decide #[dw]:=by rw[List.any_map];rfl
   rw[hid];have O:=s2.trans s3;have v:=u.same O;have hc3:=O _ _ C;have I:=s3 _ _ W;have R:MatchesAt t #[iQ] H3 cs ms:=L2.Paired.imp' (λa b h=>h.same s3) L;by_cases f:ms.any (λm=>decide #[dw])=true
   ·rw[aq f];rw[f,Bool.true_or,aq rfl]at n;exact(eC,λp r=>cq.done n (X.trans #[Cp,O]) v A hc3 r rfl)
   ·rw[am f];rw[o4]at f;rw[f,Bool.false_or]at n;have P:∀m∈ms,iM m e.parts<=2000:=λm hm=>by have:=BB.mp f m hm;rw[2111];exact this
    refine(bZ _ _ _ v.iQ T.cg T.cv _ cJ (bZ _ _ _ v.iQ T.cg T.el _ gT (x8_ d lp lm _ g.sl _ _ _ (x9_ _ _ _ rs cs e.parts ms _ _ (rfl,v.doc.d.2,v.doc.sl.2,v.lpo,v.Ln,I,R,M,(λH4 s4=>#[q]))))));rw[aD,v.doc.uM];show if(2001:Int)<#[lS]+hH e.parts ms then _ else _
    have E:=O.trans s4;have w:=u.same E;by_cases B:(2001:Int)<#[lS]+hH e.parts ms
    ·rw[aq B];rw[aq (aT (G.mpr B))]at n;exact(eC,λp r=>cq.done n #[rE] w A (E _ _ C) r rfl)
    ·rw[am B];rw[am (by rw[eh];exact λz=>B (G.mp z))]at n;have S:ρ lm=none:=u.doc.role.free hn2;have apu:MatchesAt t #[iQ] H4 cs ms:=L2.Paired.imp' (λa b h=>h.same s4) R;refine(bZ _ _ _ w.iQ T.cg T.cv _ cJ (bZ _ _ _ w.iQ T.cg T.el _ gT (x10_ ρ d lp lm g e.doc rs cs e.parts ms (rfl,w.doc,he.good,w.lpo,w.Sm,w.Ln,he.pk,s4 _ _ I,S,apu,(M,m2,by lia,by lia,P,by lia),by lia,by lia,(λρ6 H6 g6 r6 e6 d6 hgd hr6=> ?_)))));have hT6:=cK.of (K:=K) hr6;refine(a7 lm rfl _ (.inl (a8.of (e6.not _ _ (s4 _ _ I) S).1)) (a7 r6 rfl _ hT6 (a7 _ rfl r6 rfl (eU _ hT6 _ rfl KU (λp r=>cq.done n (#[rE].trans #[tc]) (w.cmd e6 d6 hgd) #[p6].2 #[p6].1 r ?_)))));rw[xE,aD,Vj];rfl
  ·rw[HK r Y];rw[aV Y,aq rfl]at n;rw[1900];exact #[ix]
def Sr{d:aU}{m:bq}{k v:Int}(c:m.first<m.last)(e:m.last<=ba d)(a:cx k 0 3=true)(b:cx v 0 99=true):oG d (.paint #[R] #[U] k v)=(GV d m.first m.last k.toNat v.toNat).1:=by
 show(CT d #[R] #[U] k v).1=_;unfold CT;have hs:lw #[R] #[U] (ba d)=true:=by unfold lw;simp;lia
 rw[hs,am #[c],a,b,am #[c]];rfl
def Zt: #[8,t.kE,#[e],lJ K t 4 λzs=> .paintAll #[bk] #[hG] #[rS] #[Ay]]:=by
 exists T.De,l4,"9";let(ρ,ed,c,dx,a,i,b,ns,zs,rfl,hS,Y,OZ,hz,F,hsz,f):=649 h;refine aK _ (aj #[Ci,l4.nd] (aj #[CP,l4.nd] (aj (bQ 4 l4.nd #[d]) (aj (bQ 5 l4.nd #[d]) (aj (bQ 6 l4.nd #[cX]) (aj (bX #[CM,#[zp]] #[Dn,#[d6]] bw) (aj #[a3] (aj (bQ 7 l4.nd #[bC]) (aj (bQ 8 l4.nd #[i]) (aj (bQ 9 l4.nd #[rq]) (aj (iz PassesOwn.never rfl #[CS,#[q0]] (o6 10 l4.nd) (aB (c9 (nq hr #[vD] T.bo T.rN (EF T) T.vw (ag (bH (pv 10)) (ag (bH (pv 10)) #[xB])))))) (aB (aW (cf (ag (oi T.len #[zo]) (ag (cV ji #[rq] (pv 9)) aw)))))))))))))))) ?_;rw[1891];let(z,A,z2,o,rfl):=4 (adA OZ);rw[2033];have hz1:ns[i+1]?=some A:=hz 1 #[c];have hz2:ns[i+2]?=some z2:=hz 2 #[c];have hz3:ns[i+3]?=some o:=hz 3 #[c];rw[1946];rw[1943];refine ou C Y Lm (c4 _ _ ao bM (pP C Y hz1 (c4 _ _ ao bM (pP C Y hz2 (c4 _ _ ao bM (pP C Y hz3 ?_))))));let(H1,eH,u,G,o1,Y9):=81 (ov he B C Y (i+4));rw[eH];rw[1894];have hr1:=F.cnt;have hr2:=F.chg;rw[1931];rw[1945];have f:cq K t ρ H ed c dx a (i+4) (fX b λl=>if BK b z A=false then #[CU,b]else if #[rv]=false then((b),.refused 2) else(({b with doc:=#[gc].reverse.foldl (λd m=>oG d #[cf]) b.doc}),.told [#[gc].length,(#[gc].reverse.foldl (λd m=>oG d #[cf]) b.doc).changes.length-b.doc.changes.length])) Q:=f;rw[GH he.good]at f;refine(x8_ ρ ed de d lp pt pr vl (x5_ g rs b z A #[vH]));unfold fX at f;cases r:b.pattern with
 |none=>rw[r]at f;rw[Fn r];rw[1900];exact #[c8]
 |some l=>
  rw[r]at f;dsimp only at f;by_cases Z:0<=z/\z<=A/\A<#[lT]
  ·rw[KS r Z];rw[aT Z,am #[c]]at f;rw[1898];have M:#[rv]=false->1<=aS/\∀p,H1 p=none->Q #[aI] #[C1,H1]:=λh=>by
    rw[aq h]at f;exact #[c8]
   rw[2114];by_cases O:cx z2 0 3=true
   ·rw[aq O];refine #[Cv,o];by_cases P:cx o 0 99=true
    ·rw[aq P];rw[O,P,am #[c]]at f;have e0:V.int z=V.int #[lu]:=by rw[cM Z.1]
     have e1:V.int A=V.int ((A.toNat:Nat):Int):=by rw[cM #[f]]
     have h3':(decide (0<=z2)&&decide (z2<=3))=true:=O;have h4':(decide (0<=o)&&decide (o<=99))=true:=P;simp at h3' h4';have e2:V.int z2=V.int ((z2.toNat:Nat):Int):=by rw[cM h3'.1]
     have e3:V.int o=V.int #[uA]:=by rw[cM h4'.1]
     let(m1,m2,m3,m4):=60 (So (s:=b) (p:=z.toNat) (q:=A.toNat) (he.pat l r) #[f]);rw[e0,e1,e2,e3];refine Qp u r #[f] #[f] λH2 lm cs s2 hn2 L R=> ?_;generalize c3 (bf b) A.toNat l z.toNat=ms at f m1 m2 m3 m4 R;have f:cq K t ρ H ed c dx a (i+4) (({b with doc:=ms.reverse.foldl (λd m=>oG d #[cf]) b.doc}),.told [ms.length,(ms.reverse.foldl (λd m=>oG d #[cf]) b.doc).changes.length-b.doc.changes.length]) Q:=by rw[r];exact f
     have Vj:cs.length=ms.length:=Paired.length R;obtain⟨D,hD⟩:∃D:Nat->aU,∀i,D i=(ms.reverse.take i).foldl (λd m=>oG d #[cf]) b.doc:=#[h3];have S:ms.reverse.take ms.length=ms.reverse:=by rw[<-fK,cy]
     rw[<-S,<-hD]at f;have D0:D 0=b.doc:=hD 0;have DS:∀i m,ms.reverse[i]?=some m->D (i+1)=oG (D i) #[cf]:=λi m h=>by rw[hD,hD,take_snoc h,HY];rfl
     clear hD;have E:=u.same s2;have I:ρ lm=none:=u.doc.role.free hn2;refine(b9 _ _ _ E.iQ T.cg T.cv _ cJ d rfl (b9 _ _ _ E.doc.d.2 T.bo T.eu _ fN _ rfl #[DB,E.doc.cl.2]));rw[aD,E.doc.chg.len];refine c4 lm _ rfl (a8.of L) ?_;refine yi (n:=ms.length) (λj σ H'=>∃(w:bj) (g':Gh) (J:Option V),σ=[some #[mF],some #[nz],some (V.int #[Az]),some (V.int (A.toNat:Int)),some (V.int (z2.toNat:Int)),some (V.int (o.toNat:Int)),some (V.int 0),some #[yM],some #[j1],some (V.int #[oM]),J]/\Ext ρ H2 w H'/\DocOk K t w H' d g' (D j)/\Good (D j)/\ba (D j)=ba b.doc/\b.doc.changes.length<=(D j).changes.length/\(D j).changes.length<=b.doc.changes.length+j) (x3_ ρ g none (rfl,Ext.refl,by rw[D0];exact E.doc,by rw[D0];exact he.good,by rw[D0],by rw[D0];lia,by rw[D0];lia)) ?_ ?_ ?_ ?_
     ·(intro j σ H' hj x;let(w,g',J,rfl,e,_):=43 x)
      exact(by rw[aD];lia,fi _ _ #[hX] (by rw[bz,aN #[er]];rfl))
     ·(intro σ H' x;let(w,g',J,rfl,_):=23 x)
      show #[qS].length<=_;rw[aD];lia
     ·(intro j σ H' hj x;(let(w,g',J,U):=3 x;let(rfl,e,N,gd,cnt,lo,hi):=120 U);intro y Zl Sb;let(rfl,hy):=20 Sb)
      have hy:=hy _ #[hX];rw[aD,Vj]at hy;rw[2031];let(m,hm,W):=21 (iZ R hcm);have W:=W.ext e;have hrv:ms.reverse[j]?=some m:=by rw[sk hj];exact hm
      have hmo:=m1 m #[yC];have FL:=hmo.lt;have hle:=hmo.le;have X:=DS j m hrv;rw[Sr FL #[f] O P]at X;let(dxm,lg,_,_,hco,_):=62 W;let(_,ps2,ps3):=40 (Kg (d:=D j) (p:=m.first) (q:=m.last) (k:=z2.toNat) (v:=o.toNat));have ps4:(D j).changes.length<=(GV (D j) m.first m.last z2.toNat o.toNat).1.changes.length:=xX.2;simp[-ah,-Int.ofNat_toNat,-aa,-ai,-aR,au];refine(c4 _ _ N.d.2 ED (bZ _ _ _ hco T.iA T.jn _ oh (bZ _ _ _ hco T.iA T.kJ _ oD (x8_ w d g' (D j) m.first m.last z2.toNat o.toNat (rfl,N,gd,by lia,by lia,by lia,by lia,by lia,(λVl H3 g3 e3 d3=> ?_))))));exact(Vl,e.trans e3,(g3,by rw[X];exact d3),by rw[X];exact gd.paint #[f],by rw[X];lia,by rw[X];lia,by rw[X];lia)
     ·(intro σ H' x;(let(w,g',J,U):=3 x;let(rfl,e,N,gd,cnt,lo,hi):=120 U))
      rw[1892];refine(aK _ (.inl #[hX]) (b9 _ _ _ N.d.2 T.bo T.eu _ fN _ rfl (cX _ #[Ce,N.cl.2] afW (λp r=>cq.done f (#[Ch,s2].trans (Out.ext e N.role)) (E.cmd e N gd) #[p8].2 #[p8].1 r ?_))));rw[xE,aD,Vj,aD,N.chg.len,show(#[BU].changes.length:Int)-#[oM]=((#[BU].changes.length-b.doc.changes.length:Nat):Int) by lia];rfl
    ·rw[am P];exact M (by rw[o4]at P;rw[P,fJ])
   ·rw[am O];exact M (by rw[o4]at O;rw[O,ma])
  ·rw[HK r Z];rw[aV Z,aq rfl]at f;rw[1900];exact #[c8]
abbrev HM(f:Piece->List Nat)(l:List Piece):List Nat:=l.length::l.flatMap λx=>x.sign::f x
def Vt{f:Piece->List Nat}(a:∀x,(f x).length=4)(k:Nat):∀(l:List Piece),(k::l.flatMap λx=>x.sign::f x).length=1+5*l.length
 |[]=>rfl
 |x::l=>by
  have:=Vt a k l;rw[ak]at this ⊢;rw[qj,aM,ak,a];show _=1+5*#[oF]
  lia
def adE(row:List Piece):Ey (qw row)= .told (HM dZ #[np]):=by unfold Ey qw HM;rw[aD,UF];rfl
def ahK(row:List Piece):Ey (Wx row)= .told (HM (·.look) (row.filter il)):=by unfold Ey Wx HM;rw[aD,UF]
def abR{b:ae}(h:H b=some #[pP]){a:ae}(q:cK K H a xs):cK K #[qv] a xs:=by
 rw[1944]
 ·exact .inl (.inl (by rw[aE #[na]];exact q))
 ·exact .inl (.inr (ob,by rw[aE #[na]];exact q))
 ·rw[2117]
abbrev aaT(K:aA)(t:cI):Sp:=λvs H Q _=>∃(ρ:bj) (d:ae) (g:Gh) (s:aU),vs=#[sJ]/\DocOk K t ρ H d g s/\s.row.length<=1000000/\∀H' l,bp H H'->H l=none->H' l=some (.lst (nums (HM dZ (bT s.row))))->Q #[co] H'
def alS(row:List Piece):#[np].length<=row.length:=jE _ _
def Qq: #[1,t.jM,#[i5],aaT K t]:=by
 exists T.Bg,zX,"4";let(ρ,d,g,st,rfl,hd,hz,I):=564 h;refine aK _ (aj (bQ 1 zX.nd #[DC,#[fP]]) (aj (iz PassesOwn.never rfl #[vS] (o6 2 zX.nd) (aj (c9 (hR bi bR bS fE #[aZ] #[id])) (aB (c9 (hR bi fT fU Fc #[aZ] #[id]))))) #[cc])) ?_;rw[1891];have C:aS=16777216:=cH;have M:=alS st.row;have k:=hd.uM;have l:ba st=#[cb].length:=rfl;rw[1902];refine(cX _ (.inl #[es]) eC (λq c=> ?_));have v:bp H (upd H q (.lst [.int (#[cW].length:Int)])):=a3 c;refine bZ _ _ _ (v _ _ hd.d.2) T.bo T.cP _ dc (cX g.sl rfl (_,a8.of (v _ _ hd.sl.2)) ?_);refine zN (K:=K) (a:=g.sl) (xs:=g.sh.map V.ref) (λi s H'=>∃(u:Option V),s=[some #[j1],some (V.ref q),u]/\bp H H'/\H' q=some #[Cd,#[fw]]) (cX none rfl v (by rw[ao,aD,k,l];rfl)) ?_ ?_ ?_
 ·(intro i s H' _ f;let(u,rfl,m,n):=41 f)
  exact a8.of (m _ _ hd.sl.2)
 ·(intro i y s H' J f;let(u,rfl,m,n):=41 f)
  let(p,w,rfl):=21 (iU J);have N:=jY w;have z:#[cb][i]?=some #[ap]:=by rw[<-hd.Sl,bz,w];rfl
  let(O,D,E):=40 (hd.nt p (hd.Sk p (bO w)));have A:=bp.tup m E.ls;have r:=m _ _ D;have G:=Vt gA #[cb].length #[Ai];have L:#[Ai].length<=#[cb].length:=by rw[bE];lia
  have j:(#[cb].length::(#[cb].take (i+1)).flatMap λx=>x.sign::dZ x)=#[fw]++(#[ts]++dZ #[ap]):=by rw[take_snoc z,ij];simp
  have j:=dA nums j;rw[<-jC,<-jC]at j;have B:p≠q:=a5 D c;rw[1892];refine(.inl (rfl,_,a8.of n),bZ _ _ _ r T.b8 T.jm _ nj (oZ _ n #[hS] #[aV] (bZ _ _ _ (by rw[aE B];exact r) T.b8 T.ef _ jb ?_)));refine(a7 _ rfl _ ao (oZ _ (abR n A) (by rw[aM,bG,bG,gA];show _+1+4<=_;lia) (λb o e=>by rw[aE (a5 e c),aE (a5 e c)];exact m _ _ e) ?_));rw[ao,j,fz,E.sg];rfl
 ·(intro s H' f;let(u,rfl,m,n):=41 f)
  rw[aD,k,l,cy]at n;exact I H' q m c n
abbrev af1(K:aA)(t:cI):Sp:=λvs H Q _=>∃(ρ:bj) (d:ae) (g:Gh) (s:aU),vs=#[sJ]/\DocOk K t ρ H d g s/\Good s/\s.row.length<=1000000/\∀H' l,bp H H'->H l=none->H' l=some (.lst (nums (HM (·.look) (s.row.filter il))))->Q #[co] H'
def IZ{α β:Type}{f:α->β}{p:β->Bool}:∀l:List α,#[AR].filter p=(l.filter λa=>p (f a)).map f
 |[]=>rfl
 |a::l=>by rw[cB,cC,cC,IZ l];cases p (f a)<;>rfl
def Ss{f:Piece->List Nat}(k:Nat):∀(l:List Piece),(∀x∈l,(f x).length=4)->(k::l.flatMap λx=>x.sign::f x).length=1+5*l.length
 |[],_=>rfl
 |x::l,hf=>by
  have:=Ss k l λy a=>hf y #[zU];rw[ak]at this ⊢;rw[qj,aM,ak,hf x bg];show _=1+5*#[oF]
  lia
abbrev aiE(c:ae->Bool):V->Bool
 | .ref p=>c p
 |_=>false
def Ou: #[2,t.i8,#[i5],af1 K t]:=by
 exists T.z8,qA,"4"
 (let(ρ,d,g,st,O):=504 h;let(rfl,hd,hg,hz,kk):=80 O)
 refine aK _ (aj (Xk (tt:=abT (λw H Q=>JV K (iK 2) "insertions" w H λx H'=>∃k,agk K x H' k/\Q k H')) (te:=iK 2) (i:=1) (own:=[(("piece"),2)]) rfl qA.nd rfl rfl #[sk] (gX (eM hr #[aq] T.bo T.m8 (zg T) T.qh)) (zP (N:=#[jw]) (sc:=aQ vp) #[a]) (λ_ _ _ _ _=>o6 2 qA.nd) (λ_ _ _ _ _=>(aiP (fj (Pb (bH #[bG]) (λ_=>rfl))))) (λ_ _ _ _ _=>#[bG]))
   (aj (bQ 3 qA.nd #[DC,#[xb]])
   (aj (iz PassesOwn.never rfl #[yn] (o6 2 qA.nd) (aj #[Cy,#[id]] (aB #[Cx,#[id]])))
   #[cm]))) ?_
 rw[1891];rw[1894];have hpl:g.ps.length=st.row.length:=by rw[<-hd.row,aD]
 rw[1892];refine(c4 _ _ hd.d.2 zd (rV ρ d g st rfl hd.toe8 #[f] (λP l1 s1 hn1 A=>(cX l1 rfl #[Cu,A] ?_))));refine afq (c:=aiE λp=>il #[ap]) (f:=id) (a8.of A) #[er] (λx H' Y N D hm hs R hn=> ?_) λD hD=> ?_
 ·let(p,s,rfl):=21 #[yx];let(r1,J,L):=40 (hd.nt p s);have B:=s1.trans hs;refine(gU rfl _ rfl (aK _ rfl (b9 _ _ _ (B _ _ J) T.b8 T.fS _ lh _ (.inl (aK _ (a8.of (B _ _ L.li.1)) rfl)) ?_)));have e1:#[xd].isEmpty=il #[ap]:=by unfold nums il;cases #[ap].ins<;>rfl
  rw[e1];rw[1897];rw[Bool.not_not];cases e:il #[ap]with
  |true=>rw[aq rfl];exact R e
  |false=>rw[am #[c]];exact hn e
 have e2:oQ id (List.filter (aiE λp=>il #[ap]) (oQ V.ref g.ps))=#[m4].map V.ref:=by rw[DO,IZ];rfl
 rw[e2];have S:#[m4].map g.pc=st.row.filter il:=by rw[<-hd.row,IZ]
 have q:∀p∈g.ps.filter (λp=>il #[ap]),p∈g.ps:=λp s=>(cT.mp s).1;generalize g.ps.filter (λp=>il #[ap])=sel at S q;have z:bp H (upd P D #[fH]):=s1.trans (a3 hD);have m:upd P D #[fH] D=some #[fH]:=ao;generalize upd P D #[fH]=H2 at z m;have C:sel.length=#[uG].length:=by rw[<-S,aD]
 have atZ:#[uG].length<=st.row.length:=jE _ _;have r:∀x∈st.row.filter il,x.look.length=4:=λx U=>(hg.all x (cT.mp U).1).look;generalize st.row.filter il=rows at*;refine(eU D rfl _ #[Ce,m] eC (λE j=> ?_));have s3:bp H2 (upd H2 E (.lst [.int (#[C8,sel.map].length:Int)])):=a3 j;refine uH (a:=D) (xs:=sel.map V.ref) (λi w H'=>∃(M:Option V),w=[some #[j1],some (V.ref D),M,some (V.ref E)]/\bp H2 H'/\H' E=some #[Cd,#[ft]]) rfl (a8.of (s3 _ _ m)) (cX none rfl s3 (by rw[ao,aD,C];rfl)) ?_ ?_ ?_
 ·(intro i w H' _ l;let(M,rfl,u,v):=41 l)
  exact a8.of (u _ _ m)
 ·(intro i y w H' R l;let(M,rfl,u,v):=41 l)
  let(p,s,rfl):=21 (iU R);have hi:=jY s;have G:rows[i]?=some #[ap]:=by rw[<-S,bz,s];rfl
  let(r1,J,L):=40 (hd.nt p (q p (bO s)));have W:=bp.tup u (bp.tup z L.lo);have I:=u _ _ (z _ _ J);have hlen:=Ss (f:=(·.look)) rows.length #[AH] λx U=>r x (kq U)
  have htl:#[AH].length<=rows.length:=by rw[bE];lia
  have X:=r _ (bO G);have n:(rows.length::(rows.take (i+1)).flatMap λx=>x.sign::x.look)=#[ft]++(#[ts]++#[ap].look):=by rw[take_snoc G,ij];simp
  have n:=dA nums n;rw[<-jC,<-jC]at n;have Z:p≠E:=a5 (z _ _ J) j;rw[1892];refine(.inl (rfl,_,a8.of v),bZ _ _ _ I T.b8 T.jm _ nj (oZ _ v #[hS] #[aV] (bZ _ _ _ (by rw[aE Z];exact I) T.b8 T.ke _ xw ?_)));refine(a7 _ rfl _ ao (oZ _ (abR v W) (by rw[aM,bG,bG,X];show _+1+4<=_;lia) (λb o e=>by rw[aE (a5 e j),aE (a5 e j)];exact u _ _ e) ?_));rw[ao,n,fz,L.sg];rfl
 ·(intro w H' l;let(M,rfl,u,v):=41 l)
  rw[aD,C,cy]at v;exact kk H' E (z.trans u) (z.free j) v
def af2(s:dN)(z:Int):gN s (.text z)=((s),if z=1 then .told (HM dZ #[zQ])else if z=2 then .told (HM (·.look) (s.doc.row.filter il))else .refused 2):=by rw[<-adE,<-ahK];rfl
def Zu: #[3,t.kG,#[e],lJ K t 1 λzs=> .text #[bk]]:=by
 exists T.Df,MB,"9";let(ρ,ed,c,dx,a,i,v,ns,zs,rfl,E,f,w,hz,j,hsz,e):=649 h;refine aK _ (aj #[Ci,MB.nd] (aj (bX #[CD,T.EX] (aB (aW (d5 hr (Qq T) T.Hy T.Bg #[eZ]))) bw) (aj (bX #[CD,T.C7] (aB (aW (d5 hr (Ou T) T.Gp T.z8 #[eZ]))) bw) #[V]))) ?_;rw[1891];let(z,rfl):=1 (ve w);have x:ns[i]?=some z:=hz 0 #[c];obtain⟨⟨J,d,L,pt,M,N,g,O,he⟩,m,n⟩:=E;simp[-ah,-aa,-ai,-aR,au,n,bM];refine ou n f x ?_;let(D,F,b,r,y,G):=81 (ov he m n f (i+1));rw[F];have e:cq K t ρ H ed c dx a (i+1) (gN v (.text z)) Q:=e;rw[af2]at e;have s:=j.row;have u:∀A:zk,cq K t ρ H ed c dx a (i+1) ((v),A) Q->∀H' l,bp D H'->D l=none->H' l=some (.lst (enc A))->Q #[co] H':=λA k H' l o q f=>k ρ H' l #[DD,o] ⟨(x8_ _ _ _ _ _ _ _ _ (b.same o)),m,o _ _ r⟩ (y.dom _ q) (b.doc.role.free q) f;rw[1899];by_cases B:z=1
 ·subst B;rw[1898];rw[aq rfl]at e;exact(bZ _ _ _ b.iQ T.cg T.cv _ cJ (rV ρ d g v.doc rfl b.doc s (λH' l o q f=>u _ e H' l o q #[BD])))
 ·rw[am (by intro z;injection z with z;exact B z)];rw[am B]at e;rw[1899];by_cases C:z=2
  ·subst C;rw[1898];rw[aq rfl]at e;exact(bZ _ _ _ b.iQ T.cg T.cv _ cJ (x4_ ρ d g v.doc (rfl,b.doc,he.good,s,(λH' l o q f=>u _ e H' l o q #[BD]))))
  ·rw[am (by intro z;injection z with z;exact C z)];rw[am C]at e;exact(eC,λp I=>cq.done e y b m r I rfl)
def KW(b:σ[n]?=some #[jy])(a:H la=some #[ai])(hz:xs.length<aS)(c:∀Q:VK,Q v H->te σ H Q)(k:∀H',H'=upd H la #[Da,#[rT]]->us D σ H'):Ic (JR (tBM K "list" Jf (iK n) (o8 te vd))) us D σ H:=Ax.mpr (cX _ b #[B8,a] (c _ (vB la xs v rfl rfl a hz (k _ rfl))))
def Zv{b:ae}(c:σ[n]?=some #[jy])(a:H la=some #[ai])(d:H b=some (.lst zs))(hz:xs.length+zs.length<=aS)(e:∀Q:VK,Q #[nE] H->te σ H Q)(k:∀H',H'=upd H la #[pR]->us D σ H'):Ic (JR (tBM K "list" SZ (iK n) (o8 te vd))) us D σ H:=Ax.mpr #[al]
def af3{b:ae}(c:σ[n]?=some #[jy])(a:H la=some #[ai])(d:cK K H b zs)(hz:xs.length+zs.length<=aS)(e:∀Q:VK,Q #[nE] H->te σ H Q)(k:∀H',H'=upd H la #[pR]->us D σ H'):Ic (JR #[jl]) us D σ H:=Ax.mpr #[al]
def af4{b:ae}(c:σ[n]?=some #[jy])(a:H la=some #[ai])(d:cK K H b zs)(hz:xs.length+zs.length<=aS)(e:∀Q:VK,Q #[nE] H->te σ H Q)(k:∀H',H'=upd H la #[pR]->D.nx σ H'):JR #[jl] D σ H:=Ax.mpr #[al]
def ahL(s:dN):gN s .row=((s),.told (s.doc.row.length::s.doc.row.flatMap fY)):=rfl
def aaU: #[2,t.mu,#[e],lJ K t 0 λzs=> .row]:=by
 exists T.E5,vS,"9";let(ρ,ed,c,dx,a,i,m,ns,zs,rfl,hS,hl,OZ,hz,C,hsz,kk):=649 h;refine aK _ (aj (bQ 2 vS.nd (eM hr #[i] T.bo T.m8 (zg T) T.qh)) (aj (bQ 3 vS.nd #[DC,#[jB]]) (aj (iz PassesOwn.never rfl (gX #[bG]) (o6 4 vS.nd) (aj #[Cy,#[hU]] (aj #[Cx,#[hU]] (aj #[gv] (aj #[lm] (aj #[gv] (aj #[lm] (aj (bQ 5 vS.nd (eM hr #[pf] T.b8 T.m7 (zf T) T.qg)) (aj #[gb] (aB (iz PassesOwn.never rfl #[qH] (o6 6 vS.nd) (aB #[Cx,#[d6]])))))))))))) #[cm]))) ?_;rw[1891];obtain⟨⟨de,d,lp,pt,pr,vl,g,rs,he⟩,Zb,hcu⟩:=hS;rw[1894];rw[ahL]at kk hsz;have hsz:#[i8].length<=10000000:=by have hsz:(#[i8].map Int.ofNat).length<=10000000:=hsz;rw[aD]at hsz;exact hsz
 have hd:=he.doc;have hr3:=C.row;have hpl:g.ps.length=m.doc.row.length:=by rw[<-hd.row,aD]
 simp[-ah,-aa,-ai,-aR,au,he.iQ,T.cg,T.cv,cJ];refine(c4 _ _ hd.d.2 zd (rV ρ d g m.doc rfl hd.toe8 #[f] (λB lr s hn1 L=>(eU lr rfl _ #[Ce,L] eC (λv x=> ?_)))));have s2:bp B (upd B v (.lst [.int (#[xn].length:Int)])):=a3 x;have J:H v=none:=s.free x;refine uH (a:=lr) (xs:=g.ps.map V.ref) (λj G H'=>∃(v4 v5 I:Option V),G=[some #[mF],some #[nz],some #[yL],some (V.ref v),v4,v5,I]/\bp B H'/\H' v=some #[Cd,#[ck]]) rfl (a8.of (s2 _ _ L)) (CF none none none rfl s2 (by rw[ao,aD,hpl];rfl)) ?_ ?_ ?_
 ·(intro j G H' _ f;let(v4,v5,I,rfl,E,Z):=43 f)
  exact a8.of (E _ _ L)
 ·(intro j y G H' hy f;let(v4,v5,I,rfl,E,Z):=43 f)
  let(p,hp,rfl):=21 #[qE];have hvi:m.doc.row[j]?=some #[ap]:=by rw[<-hd.row,bz,hp];rfl
  have hpm:=bO hp;let(r1,M,D):=40 (hd.nt p hpm);have N:=he.good.all _ (bO hvi);have hco:=E _ _ #[mW];have hlo:=bp.tup E #[yz];have hli:=E _ _ #[lD];have Vi:=E _ _ #[lE];have hfl:#[f8]=#[ck]++fY #[ap]:=by rw[take_snoc hvi,ij];simp
  have w:#[f8].length<=10000000:=by
   have e:m.doc.row.flatMap fY=(m.doc.row.take (j+1)).flatMap fY++(m.doc.row.drop (j+1)).flatMap fY:=by rw[<-ij,fD]
   rw[e,ak,aM]at hsz;rw[ak];lia
  rw[hfl,aM]at w;rw[hfl];generalize #[ck]=pre at Z w;have htp:fY #[ap]=#[ts]++(#[ap].look++([#[ap].ins.length]++(#[ap].ins++([#[ap].del.length]++(#[ap].del++([#[ap].pend.length]++#[ap].pend.flatMap λy=>[y.change,y.prop,y.value])))))):=by unfold fY Vatrka.toldMarks Vatrka.counted Vatrka.toldPend;simp
  rw[htp]at w ⊢;have A:∀(H':Hp) o,bp B H'->bp B (upd H' v o):=λH' o q b u e=>by rw[aE #[zW]];exact q _ _ e
  have nli:#[vU].li≠v:=a5 #[lD] x;have nld:#[vU].ld≠v:=a5 #[lE] x;simp only[aM,ak,aH]at w;have hlk:=N.look;rw[2035];refine KW rfl Z #[hS] (λQ' q=>bZ _ _ _ #[CQ,E] T.b8 T.jm _ nj q) λHa O=> ?_;have a1:bp B Ha:=by rw[O];exact A _ _ E
  have a2:Ha v=some #[Cd,#[ub]]:=by rw[O,ao,<-jC,D.sg];rfl
  clear O;refine af3 rfl a2 (bp.tup a1 #[yz]) #[dP] (λQ' q=>bZ _ _ _ #[CQ,a1] T.b8 T.ke _ xw q) λHb P=> ?_;have b1:bp B Hb:=by rw[P];exact A _ _ a1
  have b2:Hb v=some (.lst (nums (#[ub]++#[ap].look))):=by rw[P,ao,jC]
  clear P;refine KW rfl b2 #[kE] (λQ' q=>b9 _ _ _ #[CQ,b1] T.b8 T.fS _ lh _ rfl (aK _ (.inl (a8.of (b1 _ _ #[lD]))) q)) λHc Q=> ?_;have c1:bp B Hc:=by rw[Q];exact A _ _ b1
  have c2:Hc v=some #[Cd,#[I]]:=by rw[Q,ao,<-jC (a:=_++#[ap].look),bG];rfl
  clear Q;refine Zv rfl c2 (c1 _ _ #[lD]) #[dP] (λQ' q=>bZ _ _ _ #[CQ,c1] T.b8 T.fS _ lh q) λHd R=> ?_;have d1:bp B Hd:=by rw[R];exact A _ _ c1
  have d2:Hd v=some (.lst (nums (#[I]++#[ap].ins))):=by rw[R,ao,jC]
  clear R;refine KW rfl d2 #[kE] (λQ' q=>b9 _ _ _ #[CQ,d1] T.b8 T.ib _ wl _ rfl (aK _ (.inl (a8.of (d1 _ _ #[lE]))) q)) λHe S=> ?_;have e1:bp B He:=by rw[S];exact A _ _ d1
  have e2:He v=some #[Cd,#[dC]]:=by rw[S,ao,<-jC (a:=_++#[ap].ins),bG];rfl
  clear S;refine Zv rfl e2 (e1 _ _ #[lE]) #[dP] (λQ' q=>bZ _ _ _ #[CQ,e1] T.b8 T.ib _ wl q) λHf U=> ?_;have f1:bp B Hf:=by rw[U];exact A _ _ e1
  have f2:Hf v=some #[Cd,#[vd]]:=by rw[U,ao,jC]
  clear U;have Jy:=(hd.same (s.trans f1)).toe8;let(v1,v2,v3):=40 (Jy.nt p hpm);refine c4 _ _ v2 zc (x6_ ρ p #[vU] (g.pv p) (g.nx p) #[ap] (rfl,Jy.role,v1,v2,v3,N.Md,?_,(λHg lq es sg hng W=> ?_)))
  ·have:=N.Qd;have:=C.chg
   lia
  intro hpe;rw[2035];have g1:bp B Hg:=f1.trans sg;have g2:=sg _ _ f2;have hel:es.length=#[ap].pend.length:=Paired.length hpe;have nlq:lq≠v:=λz=>by rw[z,f2]at hng;cases hng
  have hfm:∀l:List Vatrka.Pending,(l.flatMap λy=>[y.change,y.prop,y.value]).length=3*l.length:=λl=>by
   induction l with
   |nil=>rfl
   |cons y l ih=>rw[qj,aM,ih];show 3+_=3*#[oF];lia
  rw[hfm]at w;generalize hF:#[vd]=F at g2;have hFl:F.length=pre.length+1+#[ap].look.length+1+#[ap].ins.length+1+#[ap].del.length:=by rw[<-hF];simp only[aM,ak,aH]
  refine KW rfl g2 #[hS] (λQ' q=>(a7 _ rfl _ (.inl #[BI]) q)) λHi X=> ?_;have i1:dI v Hg Hi:=λb o e n=>by rw[X,aE n];exact e
  have i2:Hi v=some #[Cd,#[qe]]:=by rw[X,ao,aD,hel,<-jC];rfl
  clear X;refine uH (a:=lq) (xs:=es.map V.ref) (λk G H'=>∃(I:Option V),G=[some #[mF],some #[nz],some #[yL],some (V.ref v),some #[pB],some (V.ref lq),I]/\dI v Hg H'/\H' v=some (.lst (nums (#[qe]++#[ly].flatMap λy=>[y.change,y.prop,y.value])))) rfl (a8.of (i1 _ _ W nlq)) (cX _ rfl i1 (by rw[i2];simp)) ?_ ?_ ?_
  ·(intro k G H' _ f;let(I,rfl,w1,w2):=41 f)
   exact a8.of (w1 _ _ W nlq)
  ·(intro k y G H' hy f;let(I,rfl,w1,w2):=41 f)
   rw[2042];let(en,hen,hea):=21 (iZ hpe hr);have hk:=jY hen;have hT:cK K H' r [.int (en.change:Int),.int (en.prop:Int),.int (en.value:Int)]:=cK.of (w1 _ _ hea (dt hea g2 #[b]));have htk:#[ly].length<=#[ap].pend.length:=by rw[bE];lia
   have at0:#[ly].length=k:=by rw[bE];lia
   rw[2035];refine af4 rfl w2 hT (by rw[bG,aM,aM,hfm];show _+1+_+3<=_;lia) (λQ' q=>q) λHj eHj=>(cX _ rfl (λb o e n=>by rw[eHj,aE n];exact w1 b o e n) ?_);rw[eHj,ao,take_snoc hen,ij,<-fz (F++_),<-jC (b:=List.flatMap _ [en])];rfl
  ·(intro G H' f;let(I,rfl,w1,w2):=41 f)
   rw[aD,hel,cy]at w2;refine(CF _ _ _ rfl (λb o e=>w1 b o (g1 _ _ e) #[zW]) ?_);rw[w2,<-hF];simp only[fz]
 ·(intro G H' f;let(v4,v5,I,rfl,E,Z):=43 f)
  rw[aD,hpl,cy]at Z;have Y:=s.trans E;exact kk ρ H' v #[Cp,Y] ⟨(x8_ _ _ _ _ _ _ _ _ (he.same Y)),Zb,Y _ _ hcu⟩ J (hd.role.free J) (by rw[Z,xE])
abbrev Uy(K:aA)(t:cI):Sp:=λvs H Q _=>∃(ed de:ae),vs=[.ref ed]/\H ed=some #[wH]/\∀H' ρ d lp g,jT K t ρ H' ed de d lp .cG (-1) 0 g [] SL->(∀b o,H b=some o->b≠ed->H' b=some o/\ρ b=none)->(∀b,H' b=none->H b=none)->Q .cG H'
def Uz: #[5,t.mn,#[az],Uy K t]:=by
 exists T.Ei,Tj,"2";let(ed,s,rfl,w,C):=542 h;refine aK _ (aj (gr #[aq] (akK hr T.C8 (Qc T) T.EY T.A8)) (aj (gr #[aq] Az) (aj #[ia] (aj #[AU] (aj (gr #[aq] #[Bx]) (aB #[r6])))))) ?_;rw[1891];rw[1892];intro d dd hd x y;have D:bp H (upd (upd H dd (.own d)) d (.ins t.dg dd [])):=(a3 x).trans (a3 (by rw[aE (λz=>y z.symm)];exact hd));refine(c4 d dd rfl ao (λu ρ g a A=>(rfl,?_)));have k:∀b o,H b=some o->u b=some o/\ρ b=none:=λb o e=>A b o #[BV] (a5 e hd);let(c,f):=20 (k _ _ w);refine(vB _ _ _ c T.cg T.cv #[c] ?_);refine(vB _ _ _ ao T.cg T.kf (by rw[Gq];show 1<1000;decide) (λm q=> ?_));rw[d8,Gq,MM]at q;rw[d8,Gq,MM];let(i,r):=20 (dz q);refine(vB _ _ _ (by rw[aE (λz=>r z.symm),ao]) T.cg T.el #[fj] (vB _ _ _ ao T.cg T.mH (by rw[Bj];show 3<1000;decide) (vB _ _ _ ao T.cg T.fF (by rw[Bj,Gr];show 4<1000;decide) (vB _ _ _ ao T.cg T.ja (by rw[Bj,Gr,MN];show 5<1000;decide) ?_))));rw[d8,d8,d8,Bj,Gr,MN,X9];have B:∀b o,u b=some o->¬b=ed->upd #[db] ed #[aF] b=some o:=λb o e n=>by rw[aE n,aE (a5 e i),aE n];exact e
 have j:∀b o,H b=some o->b≠ed->upd #[db] ed #[aF] b=some o/\ρ b=none:=λb o e n=>(B b o (k b o e).1 n,(k b o e).2);refine C _ ρ d m g (f,ao,a.loose (S:=λb=>b=ed) (λb z=>by subst z;exact(f,x3_ _ _ _ c)) B,rfl,a.role.free i,by rw[aE r,ao];rfl,.nil,rfl,acn,(λp E=>by cases E),by decide,(λl F=>by cases F)) j λb v=> ?_;cases z:H b with
 |none=>rfl
 |some o=>
  by_cases e:b=ed
  ·rw[2046];rw[ao]at v;cases v
  ·rw[(j b o z e).1]at v;cases v
def Su{s:aU}{c:List hJ}(g:sA c)(hs:Good s):∀(l:List bq) (d:aU) (E:Nat),Kh s E d->E<=ba s->l.Pairwise (λa b=>b.last<=a.first)->(∀m∈l,fc E m)->#[gr].row.length<=d.row.length+dY ((l.map (di s c)).map λt=>t.new.length)/\#[gr].changes.length<=d.changes.length+2*l.length/\(ba #[gr]:Int)=ba d+hH c l
 |[],d,E,_,_,_,_=>(e7 (by show d.row.length<=_;solve_by_elim) (by show d.changes.length<=_;solve_by_elim) (by show(ba d:Int)=_;unfold hH;simp))
 |m::l,d,E,h,k,i,hm=>by
  have f:=hm m bg;let(n,y,z):=40 (O2 g hs h f k);let(ok,_):=20 (h.step f (Pp (m:=m) g (Po hs)));have e:=(Ld h.good ok).1;have o:=f.le;have p:=f.lt;let(q,r):=20 (mP.mp i);let(u,A,v):=40 (Su g hs l _ m.first n #[f] r λx j=>(#[yl].lt,q x j,#[yl].gs));rw[AH]at u;rw[AH,cB,cB,Jc,List.foldl_cons];have w:hH c (m::l)=((iM m c:Int)-#[nM])+hH c l:=by unfold hH;simp
  have e:(cU d (di s c m)).row.length<=d.row.length+(di s c m).new.length:=e;refine(e7 #[f] #[pq] ?_);rw[v,w];lia
def ahM(a:List hJ)(l:List bq):hH a l.reverse=hH a l:=by
 induction l with
 |nil=>rfl
 |cons m l b=>
  rw[HR,Zo,b];unfold hH;simp
  lia
abbrev UA:va->Nat
 | .put _ l=>l.length
 |_=>0
structure pQ(n:Nat)(d d':aU):Prop where
 cnt:ba d'<=ba d+n\/ba d'<=2001
 row:d'.row.length<=d.row.length+n+2001
 chg:d'.changes.length<=d.changes.length+2*ba d+1
def pQ.refl{d:aU}:pQ n d d:=#[f0]
def pQ.ahN{d:aU}(a:d'.row=d.row)(b:d'.changes=d.changes):pQ n d d':=by
 have:ba d'=ba d:=by unfold ba;rw[a]
 exact(.inl #[j],by rw[a];lia,by rw[b];lia)
def aaV:#[so].1.doc=s.doc\/#[so].1.doc=(tH s.doc vc).1:=by
 unfold Vatrko.command;split
 ·exact .inl rfl
 ·rename_i d l e;rw[e];exact .inr rfl
def aaW{d:aU}(g:Good d){p:Nat}{signs:bB}(a:p<ba d):ba (SJ d p signs).1=ba d+signs.length:=by rw[<-eZ,U0 g a,aM,aM,bE,bN,eZ];lia
def af5{d:aU}{p q:Nat}(h:p<=q):ba (SK d p q).1<=ba d:=by rw[<-eZ,U1 h,aM,bE,bN,eZ];omega
def uN(i:Good s.doc)(k:va):∀vc,gN s k=Vatrko.command s vc->((∃a,vc= .author a)\/(∃a,vc= .clock a)\/(∃a,vc= .track a)\/(∃p l,vc= .put p l/\UA k=l.length)\/(∃p q,vc= .cut p q)\/∃p q a b,vc= .paint p q a b)->pQ (UA k) s.doc #[s0].1.doc:=by
 intro vc j f;rw[j];rcases aaV (s:=s) (vc:=vc)with e|e
 ·rw[e];rw[1912]
 ·rw[e];rcases f with⟨a,rfl⟩|⟨a,rfl⟩|⟨a,rfl⟩|⟨p,l,rfl,m⟩|⟨p,q,rfl⟩|⟨p,q,a,b,rfl⟩
  ·show pQ _ _ (if cx a 1 99=true then _ else _:aU×O6).1;split
   ·rw[2047]
   ·rw[1912]
  ·show pQ _ _ (if a<0 then _ else if a<(s.doc.time:Int)then _ else _:aU×O6).1;split
   ·rw[1912]
   ·split
    ·rw[1912]
    ·rw[2047]
  ·show pQ _ _ (if cx a 0 1=true then _ else _:aU×O6).1;split
   ·rw[2047]
   ·rw[1912]
  ·show pQ _ _ (GQ s.doc p l).1;unfold GQ;split
   ·rw[1912]
   ·rename_i c;split
    ·rw[1912]
    ·have c:¬(decide (0<=p)&&decide (p<#[cD]))=false:=c;simp at c;have h:=aaW i (p:=p.toNat) (signs:=l.map λz=>z.toNat) #[j];have g:=Pn (d:=s.doc) (p:=p.toNat) (signs:=l.map λz=>z.toNat);rw[aD]at h g;show pQ _ _ (SJ s.doc p.toNat #[rs]).1;exact(.inl #[j],by simp_all,by lia)
  ·show pQ _ _ (GR s.doc p q).1;unfold GR;split
   ·rw[1912]
   ·rename_i c;have c:¬(decide (0<=p)&&(decide (p<q)&&decide (q<=#[C7,s.doc])))=false:=c;simp at c;have h:=af5 (d:=s.doc) (p:=p.toNat) (q:=q.toNat) #[f];have g:=XH (d:=s.doc) (p:=p.toNat) (q:=q.toNat);show pQ _ _ (SK s.doc p.toNat q.toNat).1;exact(.inl #[f],by lia,by lia)
  ·show pQ _ _ (CT s.doc p q a b).1;unfold CT;split
   ·rw[1912]
   ·split
    ·rw[1912]
    ·have g:=Kg (d:=s.doc) (p:=p.toNat) (q:=q.toNat) (k:=a.toNat) (v:=b.toNat);show pQ _ _ (GV s.doc p.toNat q.toNat a.toNat b.toNat).1;exact #[f0]
def Sv(c:Good s.doc)(h:sA s.parts){ms:List bq}(d:∀m∈ms,fc #[uW] m)(sep:ms.Pairwise λa b=>a.last<=b.first)(wd:widths ms<=ba s.doc)(Af:ms.length<=ba s.doc)(all:#[cD]+hH s.parts ms<=2001):pQ n s.doc (#[jn].foldl cU s.doc):=by have i:=iN c;have e:cF s=ba s.doc-1:=rfl;let(j,f,g):=40 (Su h c ms.reverse s.doc #[uW] (c,by lia,rfl) #[f] (LI.mpr sep) λm hm=>d m #[sR]);let(k,l):=20 (HL c ms d);rw[gD,gD,JG]at j;rw[ahM]at g;rw[fK]at f;rw[gD]at f g ⊢;exact(.inr #[f],by lia,by lia)
def Zw(c:Good s.doc)(j:sA s.parts)(a:∀l,s.pattern=some l->C4 l)(z:Int):pQ n s.doc (Qz s z).1.doc:=by
 unfold Qz;rw[KR c a];cases e:IY s z with
 |error k=>exact .refl
 |ok m=>
  rw[1897];let(l,h):=1 (Vs e);let(o,h0,u):=40 (abQ e h);let(d,v):=20 (Sn (a l h) #[gw] o);let(p,w,x):=40 (GI c d);rw[p];split
  ·rw[1912]
  ·rename_i b;have b:¬2001<ba s.doc+#[eo].new.length-#[eo].gone:=b;have q:=d.lt;have r:=d.le;have t:=iN c;have i:cF s=ba s.doc-1:=rfl;have f:hH s.parts [m]=#[uM]-#[nM]:=by unfold hH;simp
   exact Sv (ms:=[m]) c j (λy g=>by rw[bh.mp g];exact d) (JO _ _) (by show #[dL]+0<=_;lia) (by show 1<=_;omega) (by rw[f];omega)
def Sw(x:mj)(l:List Item)(p q:Nat):Vatrko.matchesIn x l p q=c3 x q l p:=rfl
def Sx(f:Good s.doc)(o:sA s.parts)(g:∀l,s.pattern=some l->C4 l)(a b:Int):pQ n s.doc (LJ s a b).1.doc:=by
 unfold LJ fX;cases r:s.pattern with
 |none=>exact .refl
 |some l=>
  rw[1897];rw[GH f,Sw];by_cases i:0<=a/\a<=b/\b<#[cD]
  ·rw[aT i,am #[c]];have u:=iN f;have j:cF s=ba s.doc-1:=rfl;let(v,w,z,A):=60 (So (s:=s) (p:=a.toNat) (q:=b.toNat) (g l r) #[f]);have e:∀m∈c3 (bf s) b.toNat l a.toNat,fc #[uW] m:=λm hm=>(v m hm).mono #[f];have h:uW s l a.toNat b.toNat=#[a8].reverse.map #[aX]:=by
    show(#[a8].reverse.map _)=_;rw[2112];have k:=e m #[sR];rw[(N0 f k).2,(GI f k).1]
   rw[h];split
   ·rw[1912]
   ·rename_i d;rw[oE,not_or]at d;have c:=d.2;rw[eh]at c;let(B,C):=20 (HL f _ e);have c:¬2001<ba s.doc+dY (#[p0].map λt=>t.new.length)-dY (#[p0].map λt=>t.gone):=c;have x:∀ms:List bq,dY (#[jn].map λt=>t.new.length)=dY #[je]:=λms=>by rw[gD,gD,JG]
    have y:∀ms:List bq,dY (#[jn].map λt=>t.gone)=dY #[eK]:=λms=>by rw[gD,gD,JG]
    rw[x,y]at c;exact Sv f o e w #[f] #[f] #[f]
  ·rw[aV i,aq rfl];rw[1912]
def Sy{z2 a:Int}(b:cx z2 0 3=true)(c:cx a 0 99=true):∀(l:List bq) (d:aU),(∀m∈l,m.first<m.last/\m.last<=ba d)->ba #[b6]=ba d/\#[b6].row.length<=d.row.length/\#[b6].changes.length<=d.changes.length+l.length
 |[],d,_=>(e7 rfl #[gw] #[gw])
 |m::l,d,h=>by let(g,i):=20 (h m bg);have e:=Sr (k:=z2) (v:=a) g i b c;let(j,n,f):=40 (Kg (d:=d) (p:=m.first) (q:=m.last) (k:=z2.toNat) (v:=a.toNat));rw[<-e]at j n f;let(r,s,t):=40 (Sy b c l (oG d (.paint #[R] #[U] z2 a)) λx o=>by rw[f];exact h x (a9 _ o));rw[List.foldl_cons];exact(e7 #[j] #[ah] #[pq])
def Wt(f:Good s.doc)(c:∀l,s.pattern=some l->C4 l)(a b z2 e:Int):pQ n s.doc (Ox s a b z2 e).1.doc:=by
 unfold Ox fX;cases i:s.pattern with
 |none=>exact .refl
 |some l=>
  rw[1897];rw[GH f,Sw];by_cases g:0<=a/\a<=b/\b<#[cD]
  ·rw[aT g,am #[c]];have j:=iN f;have h:cF s=ba s.doc-1:=rfl;let(k,t,u,v):=60 (So (s:=s) (p:=a.toNat) (q:=b.toNat) (c l i) #[f]);split
   ·rw[1912]
   ·rename_i hw;have hw:(cx z2 0 3&&cx e 0 99)=true:=by simpa using hw
    rw[bK]at hw;let(w,x,o):=40 (Sy hw.1 hw.2 #[a8].reverse s.doc λm hm=>by have:=k m #[sR];have r:=this.lt;have y:=this.le;exact(r,by lia));rw[fK]at o;show pQ n s.doc (#[a8].reverse.foldl (λd m=>oG d (.paint #[R] #[U] z2 e)) s.doc);exact #[f0]
  ·rw[aV g,aq rfl];rw[1912]
def Zx{z:Int}{f:bq->bB->dN×zk}(h:∀m t,(f m t).1=s):(uV s z f).1=s:=by
 unfold uV fX;split
 ·rw[1897];split
  ·rfl
  ·split
   ·rfl
   ·split
    ·rfl
    ·exact h _ _
 ·rfl
def step_size(e:Good s.doc)(g:sA s.parts)(d:∀l,s.pattern=some l->C4 l)(k:va):pQ (UA k) s.doc #[s0].1.doc:=by
 cases k with
 |author a=>exact uN e _ _ rfl (.inl #[O])
 |clock a=>exact uN e _ _ rfl #[vb]
 |track a=>exact uN e _ _ rfl (.inr #[vb])
 |put p l=>exact uN e _ _ rfl (.inr (.inr (.inr (.inl (fi _ _ rfl rfl)))))
 |cut p q=>exact uN e _ _ rfl (.inr (.inr (.inr (.inr (.inl #[AB])))))
 |paint p q a b=>exact uN e _ _ rfl (.inr (.inr (.inr (.inr (.inr (x4_ _ _ _ _ rfl))))))
 |pattern l=>show pQ _ _ (QB s l).1.doc;unfold QB;split<;>exact .refl
 |replacement l=>show pQ _ _ (K7 s l).1.doc;unfold K7;split<;>exact .refl
 |options f k v=>show pQ _ _ (QC s f k v).1.doc;unfold QC;split<;>exact .refl
 |find p=>
  show pQ _ _ (Wy s p).1.doc;unfold Wy fX;split
  ·split<;>exact .refl
  ·rw[1912]
 |matchOf p=>show pQ _ _ (uV s p λm new=>#[sU]).1.doc;rw[Zx (s:=s) (f:=λm new=>#[sU]) (λ_ _=>rfl)];rw[1912]
 | «matches» p q=>
  show pQ _ _ (QD s p q).1.doc;unfold QD fX;split
  ·split<;>exact .refl
  ·rw[1912]
 |replace p=>exact Zw e g d p
 |replaceAll p q=>exact Sx e g d p q
 |paintAll p q a b=>exact Wt e d p q a b
 |text w=>exact .refl
 |row=>exact .refl
 |change c=>exact .refl
def ahO{c:Prop}[Decidable c]{a b x:α}{G:Prop}(h:(if c then a else b)=x)(d:c->a=x->G)(f:b=x->G):G:=by
 by_cases e:c
 ·rw[aq e]at h;exact d e h
 ·rw[am e]at h;exact f h
section
variable {p:Int}{xs:List Int}{ys:List (List Int)}
def w00(f:gc [[p]]=[[p]])(h:some ((0),0)=some #[bm]):gc #[e4]=(p::xs)::ys:=match xs,ys,h with|[],[],_=>f
def w01(f:∀l,gc [[p],l]=[[p],l])(h:some ((0),1)=some #[bm]):gc #[e4]=(p::xs)::ys:=match xs,ys,h with|[],[l],_=>f l
def Zd(f:∀x,gc [[p,x]]=[[p,x]])(h:some ((1),0)=some #[bm]):gc #[e4]=(p::xs)::ys:=match xs,ys,h with|[x],[],_=>f x
def w11(f:∀x l,gc [[p,x],l]=[[p,x],l])(h:some ((1),1)=some #[bm]):gc #[e4]=(p::xs)::ys:=match xs,ys,h with|[x],[l],_=>f x l
def w20(f:∀x y,gc [[p,x,y]]=[[p,x,y]])(h:some ((2),0)=some #[bm]):gc #[e4]=(p::xs)::ys:=match xs,ys,h with|[x,y],[],_=>f x y
def w30(f:∀x y z,gc [[p,x,y,z]]=[[p,x,y,z]])(h:some ((3),0)=some #[bm]):gc #[e4]=(p::xs)::ys:=match xs,ys,h with|[x,y,z],[],_=>f x y z
def w40(f:∀x y z u,gc #[Av]=#[Av])(h:some ((4),0)=some #[bm]):gc #[e4]=(p::xs)::ys:=match xs,ys,h with|[x,y,z,u],[],_=>f x y z u
#where
def ahP{p:Int}{xs:List Int}{ys:List #[dV]}(h:ej p=some #[bm]):gc #[e4]=(p::xs)::ys:=by
 unfold ej at h
 iterate 18
  refine ahO h (λe h=> ?_) (λh=> ?_)
  ·rw[2046];first|exact Zd (λ_=>rfl) h|exact w20 (λ_ _=>rfl) h|exact w01 (λ_=>rfl) h|exact w11 (λ_ _=>rfl) h|exact w40 (λ_ _ _ _=>rfl) h|exact w30 (λ_ _ _=>rfl) h|exact w00 rfl h
 rw[1914]
def Zy:∀{k:Nat} {r:List Int} {xs:List (List Int)} {s:List Int},HZ k r=some ((xs),s)->xs.length=k
 |0,_,_,_,h=>by cases h;rfl
 |k+1,r,xs,s,h=>by
  rw[2050];split at h
  ·rw[1914]
  ·split at h
   ·rw[1914]
   ·rename_i e;rw[1914];exact dA (·+1) (Zy e)
def Vu:∀{f:Nat} {l:List Int} {cs:List (List (List Int))},qP ej f l=some cs->cs.map gc=cs
 |f,[],cs,h=>by cases f<;>(cases h;rfl)
 |0,_::_,cs,h=>by cases h
 |f+1,p::r,cs,h=>by
  unfold qP at h;split at h
  ·rw[1914]
  ·rename_i c tl e;split at h
   ·rw[1914]
   ·rename_i a b;rw[1914];rw[cB,Vu b];refine dA (·::a) ?_
    unfold ra at e;dsimp only at e;split at e
    ·rw[2048]
    ·split at e
     ·rw[2048]
     ·split at e
      ·rw[2048]
      ·rename_i hs g _ _ _ d;rw[2048];exact ahP (by rw[Zy d,bE,jp #[j]];exact hs)
def af6{p:Int}{r:List Int}{c:List #[dV]}{tl:List Int}(hs:ej p=some ((n),0))(h:ra ej (p::r)=some ((c),tl)):n<=r.length/\c=[p::r.take n]/\tl=r.drop n:=by
 rw[2140];rw[1913];rw[hs]at h;rw[1913];split at h
 ·rw[1914]
 ·rw[2050];rw[1914];exact(e7 #[j] rfl rfl)
def af7{p:Int}{r:List Int}{c:List #[dV]}{tl:List Int}(hs:ej p=some ((n),1))(h:ra ej (p::r)=some ((c),tl)):∃m:Nat,r[n]?=some (m:Int)/\n+1+m<=r.length/\c=[p::r.take n,(r.drop (n+1)).take m]/\tl=r.drop (n+1+m):=by
 rw[2140];rw[1913];rw[hs]at h;rw[1913];split at h
 ·rw[1914]
 ·rename_i d;rw[2050];cases e:r.drop n with
  |nil=>rw[e]at h;rw[1914]
  |cons z a=>
   rw[2099];have hz:r[n]?=some z:=by have:=dA List.head? e;rw[2079];rw[1928]
   have hd:r.drop (n+1)=a:=by have:=dA List.tail e;rw[2083];rw[1928]
   have f:a.length+n+1=r.length:=by
    have:=dA pR e;rw[bN,ak]at this
    lia
   unfold PyFlat.row at h;rw[1913];by_cases b:0<=z/\z.toNat<=a.length
   ·rw[aq b]at h;rw[2050];rw[1914];refine(oZ z.toNat (by rw[hz,cM b.1]) #[f] (by rw[hd]) ?_);rw[<-hd,uS]
   ·rw[am b]at h;rw[1914]
def adF{f:Nat}{p:Int}{r:List Int}{cs:List #[oR]}(h:qP ej f (p::r)=some cs):∃f' c tl a,ra ej (p::r)=some ((c),tl)/\qP ej f' tl=some a/\cs=c::a:=by
 cases f with
 |zero=>cases h
 |succ f=>
  unfold qP at h;split at h
  ·rw[1914]
  ·rename_i c tl e;split at h
   ·rw[1914]
   ·rename_i a b;rw[1914];exact(lj f c tl a e b rfl)
def af8{f:Nat}{cs:List #[oR]}(h:qP ej f []=some cs):cs=[]:=by unfold qP at h;cases f<;>(cases h;rfl)
def aaX{p:Int}{k:Nat}(h:ej p=some ((n),k)):0<=p/\p<=17:=by
 unfold ej at h;by_cases a:0<=p/\p<=17
 ·exact a
 ·exfalso;rw[am #[f],am #[f],am #[f],am #[f],am #[f],am #[f],am #[f],am #[f],am #[f],am #[f],am #[f],am #[f],am #[f],am #[f],am #[f],am #[f],am #[f],am #[f]]at h;rw[1914]
def adG{p:Int}{r:List Int}{x}(h:ra ej (p::r)=some x):0<=p/\p<=17:=by
 rw[2140];rw[1913];split at h
 ·rw[1914]
 ·rename_i n k e;exact aaX e
def af9(a:List Int)(l:List #[dV]):DQ (a::l)=(a.length:Int)::(a++DQ l):=by unfold DQ;rw[qj];rfl
def aaY(s:dN)(c:List #[dV])(r:List #[oR]):Dm kr s (c::r)=(kr s c).2::Dm kr (kr s c).1 r:=rfl
def ajI{c:List #[dV]}{k:va}(h:xO c=some k):kr s c=((#[s0].1),nu #[s0].2):=by unfold kr;rw[h]
abbrev Sz(t:cI):List #[st]:=#[z]
def ahQ(T:Txt K mg t):ac3 P w K t.x4 #[bi]:=by let(es,c,a,b):=22 (T.cls);exact agZ a b (show([0,1,2,3,4,5,6,7,8,9,10,11,12,13,14,15,16,17]:List Int).Nodup by decide)
@[simp] def apV{a:ae}{vs:List #[pJ]}{b ty:TE}:aib a vs b ty σ H Q=b σ H λx H1=>ty σ H1 λy H2=>∃k u v,x= .ref a/\y=kV k/\uY vs k=some u/\RelV v u/\Q v H2:=rfl
def aga:Sa (Vb K t):=λ_ _ _ _ _ m z=>e5_0 z λc dx a i xs z=>e0_3 z λb d e q=>(xy c dx a i xs b d e #[jQ])
abbrev Given(K:aA)(ρ:bj)(H:Hp)(ed c a:ae)(xs:List V):Prop:=(Rd H a #[ai]/\ρ a=none/\a≠ed/\a≠c)\/∃(o:Obj) (b:Array ax) (n:Nat),K.lookup a=some o/\o.cls= .type "list"/\o.dict=none/\o.data= .seq b n/\b.size<=aS/\Vals xs b.toList
def Given.sq{ρ:bj}{ed a:ae}(h:Given K ρ H ed c a xs):a8 K H a xs:=by
 rcases h with h|h
 ·exact .inl h.1
 ·rw[1923]
def Given.out{ρ e:bj}{ed a:ae}(h:Given K ρ H ed c a xs)(o:Out ρ H ed c e H'):Given K e H' ed c a xs:=by
 rcases h with⟨h,n,b,d⟩|h
 ·left;rcases h with h|⟨ob,h⟩
  ·exact(o3 (.inl #[hi].1) (#[hi].2) b d)
  ·exact(o3 (.inr (ob,#[hi].1)) (#[hi].2) b d)
 ·rw[1923]
abbrev ahR(P:cj)(w:cY)(K:aA)(mg:Str->Option ax)(base:cZ)(t:cI)(ρ:bj)(H:Hp)(ed c dx a:ae)(i:Nat)(s:dN)(ns:List Int)(z:Int)(cc:List #[dV])(tl:List Int):Prop:=∃(fa:ae) (k:va) (b lv:Nat) (fd:jF) (ps:List Str) (sp:Sp),uY #[bi] #[q3]=some #[lr]/\md K #[lr]=true/\xO cc=some k/\tl=ns.drop b/\i+UA k<=b/\b<=ns.length/\ff P w K mg base tS lv fa fd ps sp/\lv<=10/\Binds K fd ps []/\∀d:VK,(nu #[s0].2).length<=10000000->cq K t ρ H ed c dx a b #[s0] d->sp #[e8] H d E0
def ko{ρ:bj}{ed dx a:ae}{ns r:List Int}{z:Int}{tl:List Int}{ps:List Str}{f:List Int->va}(g:Zp K t ρ H ed c dx a i s)(k:a8 K H a #[N])(hr:ns.drop i=r)(b:NZ s.doc)(hs:ej z=some ((n),0))(h:ra ej (z::r)=some ((cc),tl)) (l:uY #[bi] #[q3]=some #[lr]) (m:md K #[lr]=true) (F:ff P w K mg base tS lv fa fd ps (lJ K t n f)) (e:lv<=10) (o:Binds K fd ps []) (p:∀zs:List Int,zs.length=n->xO [z::zs]=some (f zs)/\UA (f zs)=0) (C:i<=ns.length):ahR P w K mg base t ρ H ed c dx a i s ns z cc tl:=by
 let(u,v,x):=40 (af6 hs h);subst hr v x;rw[bN]at u;have d:#[gV].length=n:=by rw[bE,bN];simp_all
 let(y,D):=20 (p _ d);refine(x7_ fa (f #[gV]) (i+n) lv fd ps _ (l,m,y,by rw[uS],by simp_all,by lia,F,e,o,λE hsz A=>(x9_ ρ ed c dx a i s ns _ (rfl,g,k,d,λj B=> ?_,b,hsz,A))));rw[jf,aq B,je]
def Nq{ρ:bj}{ed dx a:ae}{ns r:List Int}{z:Int}{tl:List Int}{ps:List Str}{f:List Int->List Int->va}(v:Zp K t ρ H ed c dx a i s)(x:a8 K H a #[N])(hr:ns.drop i=r)(b:NZ s.doc)(hs:ej z=some ((n),1))(h:ra ej (z::r)=some ((cc),tl)) (e:∀zs l,zs.length=n->cc=#[Au]->l.length<=2000) (y:uY #[bi] #[q3]=some #[lr]) (A:md K #[lr]=true) (F:ff P w K mg base tS lv fa fd ps sp) (g:∀vs H Q E,KQ K t n f vs H Q E->sp vs H Q E) (k:lv<=10) (B:Binds K fd ps []) (C:∀zs l:List Int,zs.length=n->xO #[Au]=some (f zs l)/\UA (f zs l)<=l.length) (N:i<=ns.length):ahR P w K mg base t ρ H ed c dx a i s ns z cc tl:=by
 let(m,h0,D,u,G):=61 (af7 hs h);subst hr;rw[bN]at D;have d:#[gV].length=n:=by rw[bE,bN];lia
 have I:#[e5].length=m:=by rw[bE,bN,bN];lia
 have o:=e _ _ d u;subst u G;let(J,O):=20 (C _ #[e5] d);rw[je]at h0;have p:(ns.drop i).drop (n+1)=ns.drop (i+n+1):=by rw[uS];congr 1
 refine(x7_ fa (f #[gV] #[e5]) (i+n+1+m) lv fd ps _ (y,A,J,by rw[uS];congr 1;lia,by lia,by lia,F,k,B,λR hsz L=>g _ _ _ _ (x10_ ρ ed c dx a i m s ns _ (rfl,v,x,d,λj M=> ?_,h0,by lia,by simp_all,b,?_))))
 ·rw[jf,aq M,je]
 ·rw[<-p];exact L
def Qr{lo c:Int}{a b:Nat}{r:List Int}(h:ZF [((lo),c,a,b)] [r]=true):r.length<=b:=by have h:(decide (a<=r.length)&&decide (r.length<=b)&&r.all (PyInside.within lo c)&&true)=true:=h;rw[Jb,bK,bK]at h;exact eo h.1.2
def call_in{z:Int}{zs l:List Int}(h:Dn uX #[Au]=true):ZF (uX z).2 [l]=true:=by unfold Dn at h;dsimp only at h;rw[bK]at h;exact h.2
def agb(T:Txt K mg t){ρ:bj}{ed dx a:ae}{ns r:List Int}{z:Int}{tl:List Int}(k:Zp K t ρ H ed c dx a i s)(m:a8 K H a #[N])(hr:ns.drop i=r)(g:NZ s.doc)(h:ra ej (z::r)=some ((cc),tl))(p:Dn uX cc=true)(o:i<=ns.length):ahR P w K mg base t ρ H ed c dx a i s ns z cc tl:=by
 let(u,v):=20 (adG h);have hz:z=0\/z=1\/z=2\/z=3\/z=4\/z=5\/z=6\/z=7\/z=8\/z=9\/z=10\/z=11\/z=12\/z=13\/z=14\/z=15\/z=16\/z=17:=by lia
 rcases hz with rfl|rfl|rfl|rfl|rfl|rfl|rfl|rfl|rfl|rfl|rfl|rfl|rfl|rfl|rfl|rfl|rfl|rfl
 ·exact ko k m hr g (n:=1) rfl h rfl T.Kx.fn.kp (afR T) #[c] T.Kx.b (λj hz=>#[s]) o
 ·exact ko k m hr g (n:=1) rfl h rfl T.NP.fn.kp (ahG T) #[c] T.NP.b (λj hz=>#[s]) o
 ·exact ko k m hr g (n:=1) rfl h rfl T.NQ.fn.kp (ahH T) #[c] T.NQ.b (λj hz=>#[s]) o
 ·exact Nq k m hr g (n:=1) (f:=λj l=> .put (j.getD 0 0) l) rfl h (λj l _ e=>#[eq]) rfl T.WI.fn.kp (alL T) (λ_ _ _ _ q=>q) #[c] T.WI.b (λj l hz=>(by let(a,rfl):=1 (ve hz);exact(rfl,be _))) o
 ·exact ko k m hr g (n:=2) rfl h rfl T.WJ.fn.kp (alN T) #[c] T.WJ.b (λj hz=>#[bU]) o
 ·exact ko k m hr g (n:=4) rfl h rfl T.NR.fn.kp (ahI T) #[c] T.NR.b (λj hz=>#[fk]) o
 ·exact Nq k m hr g (n:=0) (f:=λj l=> .pattern l) rfl h (λj l _ e=>#[eq]) rfl T.Hw.fn.kp (adg T) (λ_ _ _ _ q=>Zs q) #[c] T.Hw.b (λj l hz=>#[eY]) o
 ·exact Nq k m hr g (n:=0) (f:=λj l=> .replacement l) rfl h (λj l _ e=>#[eq]) rfl T.zE.fn.kp (Uo T) (λ_ _ _ _ q=>Qo q) #[c] T.zE.b (λj l hz=>#[eY]) o
 ·exact ko k m hr g (n:=3) rfl h rfl T.Hx.fn.kp (adB T) #[c] T.Hx.b (λj hz=>(by let(a,b,c,rfl):=3 (ahE hz);exact(rfl,rfl))) o
 ·exact ko k m hr g (n:=1) rfl h rfl T.Bd.fn.kp (Wr T) #[c] T.Bd.b (λj hz=>#[s]) o
 ·exact ko k m hr g (n:=1) rfl h rfl T.Be.fn.kp (Ws T) #[c] T.Be.b (λj hz=>#[s]) o
 ·exact ko k m hr g (n:=2) rfl h rfl T.yf.fn.kp (Sq T) #[c] T.yf.b (λj hz=>#[bU]) o
 ·exact ko k m hr g (n:=1) rfl h rfl T.zF.fn.kp (Uw T) #[c] T.zF.b (λj hz=>#[s]) o
 ·exact ko k m hr g (n:=2) rfl h rfl T.zG.fn.kp (Ux T) #[c] T.zG.b (λj hz=>#[bU]) o
 ·exact ko k m hr g (n:=4) rfl h rfl T.De.fn.kp (Zt T) #[c] T.De.b (λj hz=>#[fk]) o
 ·exact ko k m hr g (n:=1) rfl h rfl T.Df.fn.kp (Zu T) #[c] T.Df.b (λj hz=>#[s]) o
 ·exact ko k m hr g (n:=0) rfl h rfl T.E5.fn.kp (aaU T) #[c] T.E5.b (λj hz=>(by cases j with|nil=>exact⟨rfl,rfl⟩|cons _ _=>cases hz)) o
 ·exact ko k m hr g (n:=1) rfl h rfl T.zH.fn.kp (Uv T) #[c] T.zH.b (λj hz=>#[s]) o
def DocOk.SA{ρ b:bj}{d:ae}{g:Gh}{s:aU}(h:DocOk K t ρ H d g s)(e:IT ρ H b H')(rk:dD b H')(st:∀a r,ρ a=some r->r≠ .foreign->H' a=H a):DocOk K t b H' d g s:=by refine((rk,(e.own _ _ h.d.1,by rw[st _ _ h.d.1 #[b]];exact h.d.2),(e.own _ _ h.sl.1,by rw[st _ _ h.sl.1 #[b]];exact h.sl.2),(e.own _ _ h.cl.1,by rw[st _ _ h.cl.1 #[b]];exact h.cl.2),h.nd,h.ring,λp f=> ?_,h.chg.ext e.own λa i q=>st a _ q #[b]),h.row,h.Br,h.cn);let(c,j,k):=40 (h.nt p f);exact(e7 (e.own _ _ c) (by rw[st _ _ c #[b]];exact j) (k.ext' h.role e.own (λa o z q _=>#[kA].1) (λa o z q=>#[kA].2) λa r q w=>st a r q #[b7]))
def jT.SA{ρ b:bj}{ed d:ae}{pt:V}{g:Gh}(h:jT K t ρ H ed de d lp pt pr vl g rs s)(e:IT ρ H b H')(rk:dD b H')(st:∀a r,ρ a=some r->r≠ .foreign->H' a=H a):jT K t b H' ed de d lp pt pr vl g rs s:=(#[ga].2,#[ga].1,h.doc.SA e rk st,h.ask,#[fF].2,#[fF].1,h.Ln.ext h.doc.role e,h.Vq.ext h.doc.role e,h.good,h.pk,h.pf,h.pat)
def jT.apv{ρ:bj}{ed d an:ae}{pt:V}{g:Gh}(h:jT K t ρ H ed de d lp pt pr vl g rs s)(b:ρ an=some .foreign):jT K t ρ #[n8] ed de d lp pt pr vl g rs s:=h.SA (λ_ _ q=>q,λa o e n=>(by rw[aE (λz=>by rw[z,b]at n;cases n)];exact e,n)) (h.doc.role.upd λr q=>by rw[b]at q;cases q;exact #[O]) λa r q n=>aE (jZ q b n)
def jT.apw{ρ:bj}{ed d an:ae}{pt:V}{g:Gh}(h:jT K t ρ H ed de d lp pt pr vl g rs s)(b:H an=none):jT K t #[xx] #[n8] ed de d lp pt pr vl g rs s:=by have c:ρ an=none:=h.doc.role.free b;have e:Ext ρ H #[xx] #[n8]:=(Ext.hH b c).trans #[Dj,b];refine h.SA e.toIT ((h.doc.role.same (a3 b)).hH ao #[O]) λa r q _=>aE (λz=>by rw[z,c]at q;cases q)
abbrev adH(H:Hp)(c:ae):Nat:=match H c with
 |some (.ins _ _ fs)=>(match fs.lookup #[y4]with|some (.int k)=>k.toNat|_=>0)
 |_=>0
def Zz{dx a:ae}(h:H c=some #[aR]):adH H c=i:=by unfold adH;rw[h];dsimp only;rw[iw];exact lR i
structure LoopAt(K:aA)(t:cI)(ns:List Int)(a c dx ed an:ae)(H:Hp)(ρ:bj)(i j f:Nat)(s:dN)(cs:List #[oR])(done:List Int):Prop where
 sit:Zp K t ρ H ed c dx a i s
 giv:Given K ρ H ed c a #[N]
 ano:H an=some (.lst (done.map V.int))
 ann:ρ an=some .foreign
 le:i<=ns.length
 cal:qP ej f (ns.drop i)=some cs
 ins:ZG uX cs=true
 Af:cs.length+j<=400
 ans:uU ns=done++DQ (Dm kr s cs)
 cnt:ba s.doc<=2001+i
 row:s.doc.row.length<=1+i+2001*j
 chg:s.doc.changes.length<=38010*j
def aaZ{ns:List Int}(h:BH ns=true):∃cs,qP ej ns.length ns=some cs/\ZG uX cs=true/\cs.length<=400/\(uU ns).length<=10000000/\uU ns=DQ (Dm kr SL cs):=by
 unfold BH at h;cases e:qP ej ns.length ns with
 |none=>rw[e]at h;rw[1914]
 |some cs=>rw[e]at h;rw[1913];rw[bK,bK,bK,bK]at h;refine(cs,rfl,h.1.1.2,eo h.1.1.1.2,eo h.2,?_);unfold uU PyVatrko.calls;rw[e];rw[1897];rw[Vu e];rfl
def adI: #[11,t.mY,#[rR],WK K]:=by
 exists T.U6,xZ,"2";let(a,ns,rfl,hl,hnl,S,kk):=582 h;refine aK _ (aj (bQ 1 xZ.nd #[eI]) (aj (bQ 2 xZ.nd (akK hr T.Hs (Uz T) T.Kt T.Ei)) (aj (bQ 3 xZ.nd #[kC]) (aj (ry PassesOwn.never #[cG] (aj (bQ 4 xZ.nd (ajk (ahQ T) (Je (v:= .ref t.x4) #[aT] T.NN rfl) #[d] (λ_ _=>rfl)))
    (aj (bQ 5 xZ.nd (agY (i:=4) rfl #[lZ] #[yG]))
    (aj #[gb]
    (aB (c9 (hR bi fT fU Dq #[dy] #[cE])))))))
   #[cm])))) ?_
 rw[1891];rw[1894];let(cs0,Zk,ha2,ha3,ha4,ha5):=81 (aaZ S);rw[1892];intro c dx hc hdx Vm;refine(jc c dx a rfl ao rfl ?_);rw[d8];have U:bp H (upd #[ld] c #[cC]):=(a3 hdx).trans #[ig];have B:upd #[ld] c #[cC] c=some (cur t dx a #[h2]):=ao;generalize upd #[ld] c #[cC]=H1 at U B;intro ed de G hde W;have s2:bp H1 (upd (upd H1 de (.own ed)) ed #[wH]):=(a3 hde).trans (a3 (by rw[aE (λz=>W z.symm)];exact G));refine(c4 ed de rfl ao (λQ ρ d lp g heo hfr at1=>(rfl,λr I=> ?_)));have w:∀b o,H1 b=some o->Q b=some o/\ρ b=none:=λb o e=>hfr b o (s2 b o e) (a5 e G);have s4:bp Q #[xZ]:=a3 I;have X:∀{b o},Q b=some o->b≠r:=λe=>a5 e I;have Y:Given K #[yu] #[xZ] ed c a #[N]:=by
  have key:∀o,H a=some o->upd Q r #[ar] a=some o/\cp ρ r #[hJ] a=none/\a≠ed/\a≠c:=λo e=>(o3 (s4 _ _ #[mR].1) (by rw[bJ (X #[mR].1)];exact #[mR].2) (a5 (U a o e) G) (a5 e hc));rcases hl with(e|⟨ob,e⟩)|e
  ·exact .inl (.inl #[vQ].1,#[vQ].2)
  ·exact .inl (.inr (ob,#[vQ].1),#[vQ].2)
  ·exact .inr e
 refine rz (λσ H'=>∃(ρ:bj) (i j f:Nat) (s:dN) (cs:List (List (List Int))) (done:List Int) (v4 v5:Option V),σ=[some #[sp],some #[nz],some #[mF],some #[wm],v4,v5]/\LoopAt K t ns a c dx ed r H' ρ i j f s cs done) (λσ H'=>ns.length-adH H' c) (x9_ #[yu] 0 0 ns.length SL cs0 ([]) none none (rfl,⟨(x8_ _ _ _ _ _ _ _ _ (heo.apw I)),by rw[bJ (X #[AC].1)];exact #[AC].2,s4 _ _ #[AC].1⟩,Y,ao,df,dR _,by rw[rZ];exact Zk,ha2,by omega,by rw[ha5];rfl,by show 1<=_;lia,by show 1<=_;solve_by_elim,dR _)) ?_ (akR (akQ (NY aga ew pO)))
 (intro σ H' YY;(let(Lk,i,j,f,R,cs,done,v4,v5,J):=9 YY;let(rfl,L):=20 J))
 have x:=L.sit.cu;have hle:=L.le;simp[-ah,-aa,-ai,-aR,au,x,mJ];refine(xy c dx a i _ rfl x L.giv.sq ?_);rw[1982];rw[aD];by_cases C:ns.length<=i
 ·rw[aq (by simp;exact C)];have Z:ns.drop i=[]:=vG C;have m:=L.cal;rw[Z]at m;have l:=L.ans;rw[af8 m]at l;have l:uU ns=done++[]:=l;rw[ah]at l;exact kk H' r (by rw[l];exact L.ano)
 ·rw[am #[md]];have y:ns.drop i=ns[i]'#[f]::ns.drop (i+1):=iY #[f];have hz:ns[i]?=some (ns[i]'#[f]):=aN #[f];generalize ns[i]'#[f]=z at y hz;have m:=L.cal;rw[y]at m;let(f',cc,tl,M,N,O,rfl):=44 (adF m);obtain⟨⟨de',d',lp',pt,pr,vl,g',rs,he⟩,Zb,_⟩:=L.sit;refine(c4 _ _ x bM (ou x L.giv.sq hz ?_));let(H2,eH,he2,hc2,o2,Y8):=81 (ov he Zb x L.giv.sq (i+1));rw[eH];have at3:=L.cnt;have Ut:=L.row;have at4:=L.chg;have ahz:=L.Af;rw[ak]at ahz;have P:NZ R.doc:=(by lia,by lia,by lia);have p:=L.ins;have p:(Dn uX cc&&M.all (Dn uX))=true:=p;rw[bK]at p
  (let(fa,k,i2,lv,fd,ps,sp,J):=7 (agb T ⟨(x8_ _ _ _ _ _ _ _ _ he2),Zb,hc2⟩ Y8 rfl P N p.1 #[f]);let(hv,hk,hco,htl,hi2,apx,F,hlv,hb,hsp):=180 J)
  have l:=L.ans;rw[aaY,af9,ajI hco]at l;dsimp only at l;have hlen:done.length+(1+((nu #[vT].2).length+(DQ (Dm kr #[vT].1 M)).length))<=10000000:=by
   have:=ha4;rw[l,aM,ak,aM]at this
   lia
  have q:=step_size he.good he.pk he.pat k;have g1:=q.cnt;have g2:=q.row;have g3:=q.chg;let(an2,apy):=20 (o2.R0 _ _ L.ano L.ann);refine(a7 #[q3] rfl _ hv (eU #[lr] rfl fa rfl hk (rV lv fd ps sp F #[De,hlv] hb (hsp _ #[f] λVl H3' p3 D apz hpn hrp hp3=> ?_))));let(an3,u):=20 (D.R0 _ _ an2 apy);have npa:p3≠r:=λe=>by rw[e,an2]at hpn;cases hpn
  obtain⟨⟨de3,d3,lp3,pt3,pr3,vl3,g3',rs3,he3⟩,A,apA⟩:=apz;have nca:c≠r:=λe=>by rw[e,u]at A;cases A
  refine(gU #[B8,an3] p3 rfl (aK _ #[Ce,hp3] (oZ _ an3 #[er] #[aV] (a7 p3 rfl _ ao (cX _ (by rw[aE npa];exact hp3) (by rw[aM,aD,aD];show _+1+_<=_;lia) ?_)))));rw[d8];have E:∀xs,upd H3' r #[ai] c=some (cur t dx a (i2:Int)):=λxs=>by rw[aE nca];exact apA
  refine⟨(x7_ Vl i2 (j+1) f' (#[vT].1) M (done++(((nu #[vT].2).length:Int)::nu #[vT].2)) (⟨(x8_ _ _ _ _ _ _ _ _ (he3.apv u)),A,E _⟩,?_,?_,u,apx,by rw[<-htl];exact O,p.2,by lia,?_,?_,?_,?_)),?_⟩
  ·have hg3:=(L.giv.out o2).out D;rcases hg3 with⟨e,n,n1,n2⟩|e
   ·left;have nae:a≠r:=λz=>by rw[z,u]at n;cases n
    rcases e with e|⟨ob,e⟩
    ·exact(o3 (.inl (by rw[aE nae];exact e)) n n1 n2)
    ·exact(o3 (.inr (ob,by rw[aE nae];exact e)) n n1 n2)
   ·exact .inr e
  ·rw[ao,bb,fz];simp
  ·rw[l];simp
  ·rcases g1 with g1|g1<;>lia
  ·lia
  ·lia
  ·rw[Zz (E _),Zz x];lia
#where
#print Pe
#where
section
namespace Pe
open PySem PySem.Spec PyProof.Rows L2
def ajJ{K:aA}{mg:Str->Option ax}{P:cj}{w:cY}{c:ae}(a:mg "answers"=some #[hu])(E:∃t,Txt K mg t/\∀(s:aL) (us:List ax),us.length=#[c6].length->Ar s #[r8] #[dE] #[rj]):∃d:jF,(∀(s:aL) (us:List ax),us.length=#[c6].length->Ar s d #[dE] #[rj])/\∀base:cZ,K.In base->base.Ns aC mg->ff P w K mg base tS 11 c d #[rR] (WK K):=by obtain⟨t,T,b⟩:=E;have e:=a.symm.trans T.U7;cases e;exact(_,b,λbase _ _=>amb (λT=>adI T) (P,w,K,mg,base,t) T)
#print Pe
open PySem PySem.W PyProof.Rows
end
theorem PySem.Challenge.cw_patternedits_s01_answers_holds : PySem.Challenge.rw_patternedits_s01_answers.Holds := by
 apply(h_ w_ b_).2
 dsimp only[h_]
 refine L2.acb (k:=11) (CX:=L2.tS) (ps:=["calls"]) (sp:=Pe.WK) w_ rfl rfl ⟨rfl,by decide,by decide⟩ (fun w h Y=>PySem.W.kIn_of Y) ?F ?S (fun _ _ _ _ z=>z)
 case F=>
  intro w mg fa h Y KX G hmg
  apply Pe.ajJ hmg
  apply Pe.akF KX G
  iterate 204 (k_is)
  iterate 24 (constructor;k_is;k_is;k_is;k_is)
  iterate 38 (constructor;k_is;k_is;k_is)
  iterate 125 (constructor;(iterate 9 apply Exists.intro);constructor;k_is;k_is;k_is)
  iterate 2 (k_is)
  iterate 4 (first|exact rfl|with_unfolding_all rfl)
 case S=>
  intro K H xs a hO hwi ahB hx
  cases hx with
  |cons h1 h2=>
   cases h2
   cases h1 with
   |lst hs ha=>
    have e:=L2.abo a.1 _ ha
    subst e
    have q:((Codec.inLen 0 17000 a.1&&a.1.all (Codec.inInt (-1000000000000000000) 1000000000000000000))&&true)=true:=hwi
    rw[bK,bK]at q
    exact⟨_,a.1,rfl,hs,(Codec.inNat_iff.mp q.1.1).2,ahB,fun H2 p hp=> .lst (L2.a8.of hp) (L2.abn _)⟩
end
