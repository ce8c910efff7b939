import PyProof.Rows.All
import Wide.All
import OpenK.AllK
import Wide.FinOn
import HandS.ForMost
import HandS.Codes
import HandS.Wide
import HandS.WideBits
import HandS.Defaults
import HandS.Walk
import PyProof.ReprRoads
import HandS.Text
import HandS.Iter
import HandS.Style
import KE.GoesMore
import KE.KRevSl
import PyProof.ReprLen
import PyProof.StrBlock2
import HandS.Ends
import HandS.TupMul
import HandS.TupAny
import HandS.IsInst
import PyProof.Rows.ReprOcc
import PyProof.EqKinds
import PyProof.FactsAll.dict
import PySem.Challenge.RW_pastenough_k02_schemes_and_counters_of_a
set_option Elab.async false
set_option linter.all false
set_option maxRecDepth 100000
set_option maxHeartbeats 4000000
/-! Defs that are run where no repr is under way; repr of data; further small rules. -/
namespace Gk
open PySem PySem.Spec PyProof.Rows L2

/-- a def's promise wherever nothing is being shown -/
structure FnG (P : Program) (w : World) (K : PySem.W.Frag) (mg : Str → Option Value) (base : Heap) (k : Nat)
    (f : Addr) (fd : FuncData) (ps : List Str) (sp : Sp) : Prop where
  len : ∀ vs H Q E, sp vs H Q E → vs.length = ps.length
  go : ∀ (A : Around) (outer : List Env) (s : Shared) (H : Hp) (args : Args) (us : List Value) (vs : List V) (Q : VK),
    Room k A → A.guards = some [] → Env0 P w K mg base A outer s H → BindsTo s fd args (ps.zip us) → Vals vs us → sp vs H Q L2.E0 →
    codeAny (model P w) A (.call (.ref f) args) (CR L2.CX0 outer P w H s Q L2.E0) s

section
variable {P : Program} {w : World} {K : PySem.W.Frag} {mg : Str → Option Value} {base : Heap}
theorem FnG.weak {j k : Nat} {f : Addr} {fd : FuncData} {ps : List Str} {sp : Sp} (F : FnG P w K mg base j f fd ps sp) (h : j ≤ k) : FnG P w K mg base k f fd ps sp :=
  ⟨F.len, fun A outer s H args us vs Q r g => F.go A outer s H args us vs Q (r.mono h) g⟩
theorem FnG.from {k : Nat} {f : Addr} {fd : FuncData} {ps : List Str} {sp : Sp} (F : FnOk P w K mg base L2.CX0 k f fd ps sp) : FnG P w K mg base k f fd ps sp :=
  ⟨F.len, fun A outer s H args us vs Q r _ e b v q => F.run A outer s H args us vs Q L2.E0 r e b v q⟩

theorem guards_deeper {A : Around} {env : Env} (h : A.guards = some []) : (A.deeper env).guards = some [] := by
  first | exact h | (unfold Around.deeper; exact h)

/-- THE RULE for a def, by its body -/
theorem fnG {x qual : Str} {st : Stmt} {f : Addr} {fd : FuncData} {N ps : List Str} {k : Nat} {sp : Sp} (F : L2.Fun K x qual st f fd) (S : FnScope N ps (defScope st))
    (len : ∀ vs H Q E, sp vs H Q E → vs.length = ps.length)
    (hbody : ∀ (cdv : Value) (A : Around) (outer : List Env) (s : Shared) (H : Hp) (vs : List V) (Q : VK),
      Room k (A.deeper (envOfC qual (defScope st) s.heap.objs.size f cdv)) → (A.deeper (envOfC qual (defScope st) s.heap.objs.size f cdv)).guards = some [] → sp vs H Q L2.E0 →
      ∃ t, PSs (cxOf L2.CX0 P w K mg base N qual (defScope st) f cdv A outer s H L2.E0).nox (defBody st) t ∧ t { nx := fun _ H' => Q .non H', rt := Q } (start N vs) H) :
    FnG P w K mg base (k + 1) f fd ps sp := by
  obtain ⟨oc, od, kV, doc, pm, an, cdv, ct, osl, rfl, lk, hcd⟩ := F.ex
  refine ⟨len, fun A outer s H args us vs Q room gd en bd rv want => ?_⟩
  have many := len _ _ _ _ want
  have KX : K.In s.heap := en.mod.kin.keeps (fun b o hbo => (en.bs b o hbo).1)
  have lim : s.heap.NoLimit := en.mod.nolimit.keeps (fun b o hbo => (en.bs b o hbo).1)
  have kinds : ∀ y ∈ ps.zip us, (defScope st).names.lookup y.1 = some .local ∨
      ((defScope st).names.lookup y.1 = some .cell ∧ ((cellsFrom (s.heap.objs.size + 1) (defScope st).names []).lookup y.1).isSome = true) := fun y hy =>
    (S.par y.1 (List.of_mem_zip (a := y.1) (b := y.2) hy).1).elim Or.inl fun q => .inr ⟨q, PySem.W.cellsFrom_some _ _ _ (.inl q)⟩
  refine codeAny_call_function room.depth (KX _ _ lk) rfl S.co S.gen rfl (PySem.W.codeRec_of KX hcd) (bd _ _ _ _ ?_)
  refine wpAny_newFunctionEnv_cells S.kind kinds fun env he st1 inC => ?_
  subst he
  refine ⟨lim.keeps inC.toInCall.keep, codeAny_func ?_⟩
  obtain ⟨t, ht, hq⟩ := hbody cdv A outer s H vs Q (room.deeper _) (guards_deeper gd) want
  have I := inv_start (CX := L2.CX0) (P := P) (w := w) (mg := mg) (E := L2.E0) S room.hd en many rv inC
  refine wpAny_mono (ht.nox.run [] st1 (start N vs) H _ I hq) (fun fl s' hs => ?_) fun e s' hs => hs
  cases fl with
  | brk => obtain ⟨_, _, _, z⟩ := hs; exact False.elim z
  | cont => obtain ⟨_, _, _, z⟩ := hs; exact False.elim z
  | next => obtain ⟨σ1, H1, J, z⟩ := hs; exact ⟨V.non, H1, J.os, J.bare, J.base, J.hok, rfl, z⟩
  | ret u => obtain ⟨v, σ1, H1, J, rv1, z⟩ := hs; exact ⟨v, H1, J.os, J.bare, J.base, J.hok, rv1, z⟩
end

section
variable {X : Cx} {k : Nat} {f : Addr} {fd : FuncData} {ps : List Str} {sp : Sp} {x : Str} {p pos : Pos} {e : Expr} {es : List Expr} {t : TA}
theorem go_fn {pins : List (Addr × Obj)} {σ : L2.St} {H : Hp} {s : Shared} {Q : VK} {us : List Value} {vs : List V} (F : FnG X.prog X.w X.K X.mg X.base k f fd ps sp)
    (hr : Room k X.A) (hg : X.A.guards = some []) (hb : Binds X.K fd ps []) (I : Inv X pins σ H s) (r : Vals vs us) (h : sp vs H Q L2.E0) : wpAny (model X.prog X.w) X.A (call (.ref f) us) (EP X pins σ Q) X.xe s := by
  have hl : (us ++ []).length = ps.length := by rw [List.append_nil, ← r.length]; exact F.len _ _ _ _ h
  have b := hb s us I.kIn hl
  rw [List.append_nil] at b
  refine wpAny_call (codeAny_mono (F.go X.A X.stack s H ⟨us, []⟩ us vs Q hr hg I.env0 b r h) fun res s' hq => ?_)
  cases res with
  | error er => exact False.elim hq
  | ok fl =>
    cases fl with
    | brk => exact False.elim hq
    | cont => exact False.elim hq
    | next => exact False.elim hq
    | ret u => exact I.after hq
def tG (sp : Sp) (t : TA) : TE := fun σ H Q => t σ H fun vs H1 => sp vs H1 Q L2.E0
/-- f(e, ..) -/
theorem pe_g (F : FnG X.prog X.w X.K X.mg X.base k f fd ps sp) (hr : Room k X.A) (hd : X.A.guards = some []) (hg : Gl X x) (hm : X.mg x = some (.ref f)) (hk : PySem.W.keepIn X.K (.ref f) = true) (hb : Binds X.K fd ps [])
    (ha : PA X (e :: es) t) (hdb : (x == ("__debug__" : Str)) = false := by decide) (he : starEach (e :: es) X.env = (false, eval e X.env) :: starEach es X.env := by rfl)
    (hpl : (backTo pos (starEach es X.env)).any (·.1) = false := by rfl) : PE X (.Call (.Name x p) (e :: es) [] pos) (tG sp t) :=
  ⟨fun pins s σ H Q I h => wpAny_Call_Name_kw (ld_glob I hg hm (PySem.W.callWith_K (h₀ := X.base) I.ok.mod.kin hk (thn (ha.run pos pins s σ H _ I h) fun us s1 ⟨vs, H1, I1, r, q⟩ => ⟨I1.kIn, go_fn F hr hd hb I1 r q⟩) he hpl) hdb)⟩
end

/-! ### keywords alone -/
section
variable {X : Cx} {k : Nat} {f : Addr} {fd : FuncData} {ps ks : List Str} {sp : Sp} {x : Str} {p pos : Pos} {kws : List Keyword} {tk : TA} {g : List Value → List Value → List Value} {gV : List V → List V → List V}
def tKw (n : Nat) (gV : List V → List V) (sp : Sp) (tk : TA) : TE := fun σ H Q => tk σ H fun zs H1 => zs.length = n ∧ sp (gV zs) H1 Q L2.E0
/-- f(k = v, ..) -/
theorem pe_kw (F : FnOk X.prog X.w X.K X.mg X.base L2.CX0 k f fd ps sp) (hr : Room k X.A) (hg : Gl X x) (hm : X.mg x = some (.ref f)) (hk : PySem.W.keepIn X.K (.ref f) = true) (hb : KBn X.K fd ps 0 ks g gV)
    (hkw : PK X kws tk) (hall : (backToKw pos (keywordEach kws X.env)).all (·.1.isSome) = true := by rfl) (hks : (backToKw pos (keywordEach kws X.env)).filterMap (·.1) = ks := by rfl) (hdb : (x == ("__debug__" : Str)) = false := by decide)
    (hpl : ((backTo pos (starEach [] X.env)).any (·.1) || (backToKw pos (keywordEach kws X.env)).any (·.1.isNone)) = false := by rfl) :
    PE X (.Call (.Name x p) [] kws pos) (tKw ks.length (gV []) sp tk) := by
  refine ⟨fun pins s σ H Q I h => wpAny_Call_Name_kw (ld_glob I hg hm ?_ hdb)⟩
  refine PySem.W.callWith_KW0 (h₀ := X.base) I.ok.mod.kin hk hall (thn (hkw.run pos pins s σ H _ I h) fun ws s2 ⟨zs, H2, I2, rz, l2, q2⟩ => ⟨I2.kIn, ?_⟩) hpl
  rw [hks]
  exact run_fnN (us := []) (vs := []) F hr hb L2.pass0 I2 .nil rz rfl l2 q2
end
end Gk
namespace Gk
open PySem PySem.Spec PyProof.Rows L2 PySem.Builtin.Str

/-! ### powers of great numbers -/
def CBigPow (i j : Int) : Prop := 0 ≤ j ∧ (Builtin.Int.intBits i : Int) * j ≤ 2 ^ 27
theorem op_bigpow {X : Cx} : OpR X (binaryOp .Pow) (rI CBigPow fun i j => .int (i ^ j.toNat)) := opI fun _ _ _ _ _ _ _ hc q => pow_int hc.1 hc.2 q

/-! ### repr of data -/
theorem call_reprD {X : Cx} {k : Nat} (hr : Room k X.A) (hg : X.A.guards = some []) : CallR X (.builtin "repr") (fun xs H Q => ∃ v d, xs = [v] ∧ Dp X.K H v d ∧ d.showable = true ∧ d.hasDict = false ∧
    d.depth ≤ 40 ∧ d.shown.length ≤ sizeLine ∧ Q (.str d.shown) H) := by
  intro pins s σ H xs us Q I r h
  obtain ⟨v, d, rfl, hd, hs, hn, hdep, hz, q⟩ := h
  obtain ⟨u, rfl, ru⟩ := vals1 r
  have hun := hr.units
  cases hd with
  | non =>
    cases ru
    exact PySem.P.repr_of_none ⟨.str _, H, I.tok _, ⟨_, rfl⟩, q⟩
  | bl b =>
    cases ru
    exact PySem.P.repr_of_bool ⟨.str _, H, I.tok _, ⟨_, rfl⟩, q⟩
  | int i =>
    obtain ⟨t, rfl⟩ := ru
    exact PySem.P.repr_of_int (of_decide_eq_true hs) ⟨.str _, H, I.tok _, ⟨_, rfl⟩, q⟩
  | str x =>
    obtain ⟨t, rfl⟩ := ru
    exact PySem.P.repr_of_str ⟨.str _, H, I.tok _, ⟨_, rfl⟩, q⟩ hz
  | lst h1 h2 =>
    rename_i a xs ds
    obtain ⟨as, rd⟩ := Dp.reads I (.list ds) (.ref a) u (.lst h1 h2) ru
    cases ru
    exact repr_of_reads' rd hs (PyData.noDict_hsm hn) hg (by omega) (fun _ _ e => e) (fun h' t tk hk => ⟨.str _, H, I.kept (t' := tk) hk, ⟨_, rfl⟩, q⟩) hz
  | tup h1 h2 =>
    rename_i a xs ds
    obtain ⟨as, rd⟩ := Dp.reads I (.tuple ds) (.ref a) u (.tup h1 h2) ru
    cases ru
    exact repr_of_reads' rd hs (PyData.noDict_hsm hn) hg (by omega) (fun _ _ e => e) (fun h' t tk hk => ⟨.str _, H, I.kept (t' := tk) hk, ⟨_, rfl⟩, q⟩) hz

/-! ### a text from behind -/
theorem rev_signs (z : Str) : ((strSliceIndices none none (-1) z.length).filterMap (z.cps[·]?)).toArray = z.cps.toList.reverse.toArray := by
  have e : strSliceIndices none none (-1) z.length = (List.range z.cps.size).reverse := by
    show sliceRange ((z.cps.size : Int) - 1) (-1) (-1) = _
    rw [PySem.W.krv_sliceRange, PySem.W.krv_range]
  rw [e, List.filterMap_reverse, PySem.W.krv_all]
def tRevT (te : TE) : TE := fun σ H Q => te σ H fun x H1 => ∃ z : Str, x = .str z ∧ z.length ≤ sizeLine ∧ Q (.str ⟨z.cps.toList.reverse.toArray⟩) H1
theorem pe_revT {X : Cx} {e : Expr} {te : TE} {k : Nat} {p1 p2 p3 pos : Pos} (he : PE X e te) : PE X (.Subscript e (.Slice none none (some (.UnaryOp .USub (.Constant (.int 1) k p1) p2)) p3) pos) (tRevT te) := by
  refine ⟨fun pins s σ H Q I h => Subscript_ (thn (he.run pins s σ H _ I h) fun v s1 ⟨x, H1, I1, r1, z, ex, hz, q⟩ => ?_)⟩
  subst ex
  obtain ⟨t, rfl⟩ := r1
  have step : PO X (some (.UnaryOp .USub (.Constant (.int 1) k p1) p2)) (tPart (tUn (rU fun i => .int (-i)) (tC (.int 1)))) := po_some (pe_un un_neg pe_int)
  refine wpAny_Slice (thn (po_none.run pins s1 σ H1 (fun o G => o = none ∧ G = H1) I1 ⟨rfl, rfl⟩) fun vl s2 ⟨l, H2, I2, pl, el, e2⟩ => ?_)
  subst e2 el
  refine thn (po_none.run pins s2 σ H2 (fun o G => o = none ∧ G = H2) I2 ⟨rfl, rfl⟩) fun vu s3 ⟨u, H3, I3, pu, eu, e3⟩ => ?_
  subst e3 eu
  refine thn (step.run pins s3 σ H3 (fun o G => o = some (-1) ∧ G = H3) I3 ⟨1, rfl, -1, rfl, rfl, rfl⟩) fun vs s4 ⟨o, H4, I4, ps, eo, e4⟩ => ?_
  subst e4 eo
  obtain ⟨l, rfl, el⟩ := IsPart.raw pl
  obtain ⟨u, rfl, eu⟩ := IsPart.raw pu
  obtain ⟨w, rfl, ew⟩ := IsPart.raw ps
  have I5 : Inv X pins σ H4 { s4 with heap := s4.heap.push { cls := .type "slice", data := .fields #[partValue l, partValue u, partValue w] } } :=
    I4.kept (t' := s4.toks) fun b ob g => Heap.get?_push_of_some _ g
  refine tail_any (T := "str") (ops := [.str z t, .ref s4.heap.objs.size]) (typeIs_str _ _ _) F.slot_str_getitem.lookup ?_ (by with_unfolding_all rfl)
  refine wpAny_getItem_str_slice (l := l) (u := u) (st := w) ⟨_, Heap.get?_push_size _ rfl, rfl, rfl⟩ (by rw [ew]; rfl) ?_
  unfold sliceMade slicePicked
  rw [el, eu, ew]
  show Made.post (if ((-1 : Int) == 1 && _) = true then _ else Made.str ⟨((strSliceIndices none none (-1) z.length).filterMap (z.cps[·]?)).toArray⟩) _ _
  rw [show ((-1 : Int) == 1) = false from rfl, Bool.false_and, if_neg Bool.false_ne_true, rev_signs]
  have hl : (⟨z.cps.toList.reverse.toArray⟩ : Str).length ≤ sizeLine := by
    show z.cps.toList.reverse.toArray.size ≤ sizeLine
    rw [List.size_toArray, List.length_reverse, Array.length_toList]
    exact hz
  exact ⟨hl, .str _, H4, I5.tok _, ⟨_, rfl⟩, q⟩

/-! ### enumerate of a text -/
def Iet (z : Str) : It := ⟨fun i _ => i < z.cps.size, fun i H v H' => ∃ T c, v = .ref T ∧ H T = none ∧ z.cps[i]? = some c ∧ H' = upd H T (.tup [.int (i : Nat), .str ⟨#[c]⟩]), fun i _ => z.cps.size ≤ i⟩
theorem turn_et {P : Program} {w : World} {K : PySem.W.Frag} {elts : List Expr} {kk : Nat} {tpos : Pos} (e it : Addr) (z : Str) (t : Tok) :
    Turn P w K (.Tuple elts kk tpos) (Iet z) [e, it] e (fun i h => ((∃ old, IsEnum h e it i old) ∧ h.IsStrIter it (strIterType z) z t i) ∧ e ≠ it ∧ i ≤ z.cps.size) where
  mem := List.mem_cons_self
  obj := fun i h st b hb => by
    obtain ⟨⟨⟨old, he⟩, ⟨o, ho, hc, hd⟩⟩, _⟩ := st
    rcases List.mem_cons.mp hb with rfl | hb
    · exact ⟨_, he, fun v g => nomatch g⟩
    · rw [List.mem_singleton.mp hb]
      exact ⟨o, ho, fun v g => by rw [hd] at g; cases g⟩
  keep := fun i h h' st k => by
    obtain ⟨⟨⟨old, he⟩, ⟨o, ho, hc, hd⟩⟩, hne⟩ := st
    exact ⟨⟨⟨old, k e List.mem_cons_self _ he⟩, o, k it (List.mem_cons_of_mem _ List.mem_cons_self) o ho, hc, hd⟩, hne⟩
  item := by
    intro X hP hw hK hc i pins s σ H E I hf st hg
    subst hP hw hK
    have hg' : i < z.cps.size := hg
    obtain ⟨st, hne, hi⟩ := st
    have D : Draws X.prog X.w X.A.in1 it [it] z.cps.size _ _ := Draws.text (show X.A.in1.handled = none from I.ok.hd hc) it z t
    have W := WalksT.enumerateD D e hne (fun q => hne (List.mem_singleton.mp q)) List.mem_cons_self
    have hel : e < s.heap.objs.size := by obtain ⟨⟨old, he⟩, _⟩ := st; exact Heap.lt_size he
    have hil : it < s.heap.objs.size := by obtain ⟨_, o, ho, _⟩ := st; exact Heap.lt_size ho
    refine W.item i s _ _ hg' st fun T vals h' tk hp hT isT mid hk => ?_
    obtain ⟨t1, x1, ⟨c, u1, hcx, rfl⟩, rfl⟩ := hp
    have nT := W.apart i T h' mid
    refine ⟨_, rfl, W.go elts kk tpos i T { s with heap := h', toks := tk } _ _ mid fun h2 st2 hk2 => ?_⟩
    obtain ⟨oT, gT, cT, nTT, dT⟩ := isT
    have gT2 := hk2 T oT nT gT
    have new : ObjOk X.prog X.w (upd H T (.tup [.int (i : Nat), .str ⟨#[c]⟩])) h2 T (.tup [.int (i : Nat), .str ⟨#[c]⟩]) :=
      ⟨by show 2 ≤ sizeLine; decide, [.int i t1, .str ⟨#[c]⟩ u1], .cons ⟨_, rfl⟩ (.cons ⟨_, rfl⟩ .nil), ⟨oT, gT2, cT, nTT, dT⟩⟩
    have I1 : Inv X pins σ (upd H T (.tup [.int (i : Nat), .str ⟨#[c]⟩])) { s with heap := h2, toks := tk } :=
      I.turnedNew (ch := [e, it]) (fun b ob hb g => hk2 b ob hb (hk b ob hb g)) hf hT new
    refine ⟨.ref T, _, I1, rfl, ⟨T, c, rfl, I.hok.fresh hT, hcx, rfl⟩, ⟨⟨?_, st2.2⟩, hne, hg'⟩, fun b hb => ?_⟩
    · exact st2.1
    · have hb' : b < s.heap.objs.size := by
        rcases List.mem_cons.mp hb with rfl | hb
        · exact hel
        · rw [List.mem_singleton.mp hb]; exact hil
      rw [upd_ne (Nat.ne_of_lt (Nat.lt_of_lt_of_le hb' hT))]
      exact (hf b hb).1
  done := by
    intro X hP hw hK hc i pins s σ H E I hf st hg
    subst hP hw hK
    obtain ⟨st, hne, hi⟩ := st
    have hg' : z.cps.size ≤ i := hg
    obtain rfl : i = z.cps.size := Nat.le_antisymm hi hg'
    have D : Draws X.prog X.w X.A.in1 it [it] z.cps.size _ _ := Draws.text (show X.A.in1.handled = none from I.ok.hd hc) it z t
    have W := WalksT.enumerateD D e hne (fun q => hne (List.mem_singleton.mp q)) List.mem_cons_self
    refine W.done s _ _ st fun h' tk hk => ⟨rfl, ?_⟩
    exact I.step (g' := s.gens) (d' := s.drawn) (ch := [e, it]) (fun b hb => ⟨(hf b hb).2.2.2.1, (hf b hb).2.1, (hf b hb).2.2.2.2.1, (hf b hb).2.2.2.2.2⟩) (fun b o _ _ hc g _ => hk b o hc g) (fun b o _ _ hc g _ => ⟨o.slots, hk b o hc g⟩)
      (fun _ _ _ _ n => n) (fun b o hc g => ⟨o, hk b o hc g⟩) (fun _ _ g => g) (fun _ _ _ g => g) (fun b ps g => ⟨#[], by rw [g]; simp⟩)
      (fun m hm => by
        obtain ⟨o, es, ep, ho, r⟩ := hm
        exact ⟨o, es, ep, hk _ o (fun q => (hf _ q).2.1 rfl) ho, r⟩)
      (fun b u g => by
        have nb : ∀ c v, H c = some v → c ∉ [e, it] := fun c v g q => by
          have g' := (hf c q).1
          rw [g'] at g; cases g
        refine (I.hok b u g).stay (fun c v hcv q => hk c v ?_ q) (fun _ q => q) fun _ _ q => q
        rcases hcv with rfl | hcv
        · exact nb _ _ g
        · exact nb _ _ hcv) I.bare
  self := fun A i s Q E st h => by
    obtain ⟨⟨⟨old, he⟩, _⟩, _⟩ := st
    exact wpAny_pyIter_enum he h
def iEnumT (ta : TA) : TI := fun σ H R => ta σ H fun vs H1 => ∃ z, vs = [.str z] ∧ R (Iet z) H1
theorem pi_enumT {X : Cx} {e : Expr} {ta : TA} {p pos tpos : Pos} {elts : List Expr} {kk : Nat} (hg : Gl X "enumerate") (hm : X.mg "enumerate" = none) (ha : PA X [e] ta) (hs : starEach [e] X.env = [(false, eval e X.env)] := by rfl) :
    PI X (.Tuple elts kk tpos) (.Call (.Name "enumerate" p) [e] [] pos) (iEnumT ta) := by
  refine ⟨fun pins s σ H R I h => Call_ (ld_blt I hg hm boot_enumerate (PyProof.Rows.callWith_type1 (thn (ha.run pos pins s σ H _ I h) fun us s1 ⟨vs, H1, I1, r1, z, ez, q⟩ => ?_) hs rfl))⟩
  subst ez
  obtain ⟨u, rfl, t, rfl⟩ := vals1 r1
  refine call_enumerate_str fun h' he hit hsz hk => wpAny_pyIter_enum he ?_
  refine ⟨s1.heap.objs.size + 1, [s1.heap.objs.size + 1, s1.heap.objs.size], _, _, H1, rfl, I1.kept (t' := s1.toks) hk, turn_et (s1.heap.objs.size + 1) s1.heap.objs.size z t, ⟨⟨⟨.none, he⟩, hit⟩, Nat.succ_ne_self _, Nat.zero_le _⟩, fun b hb => ?_, q⟩
  have hle : s1.heap.objs.size ≤ b := by
    rcases List.mem_cons.mp hb with rfl | hb
    · exact Nat.le_succ _
    · rw [List.mem_singleton.mp hb]
      exact Nat.le_refl _
  exact I1.fpOk hle (I1.hok.fresh hle)
theorem walk_et {z : Str} : Walk (Iet z) z.cps.size (fun _ => True) (fun i H v H' => ∃ T c, v = .ref T ∧ H T = none ∧ z.cps[i]? = some c ∧ H' = upd H T (.tup [.int (i : Nat), .str ⟨#[c]⟩])) :=
  ⟨fun _ _ hi _ => hi, fun _ _ => Nat.le_refl _, fun _ _ _ _ _ _ y => y⟩
end Gk
namespace Gk
open PySem PySem.Spec PyProof.Rows L2
/-! ### the box of draws -/
def Box (m : Nat) (H : Hp) (b : Addr) : Prop := ∃ x y s : Int, H b = some (.lst [.int x, .int y, .int s]) ∧ 0 ≤ s ∧ s ≤ m
theorem Box.up {m n : Nat} {H : Hp} {b : Addr} (h : Box m H b) (hn : m ≤ n) : Box n H b := by
  obtain ⟨x, y, s, e, h0, h1⟩ := h
  exact ⟨x, y, s, e, h0, by omega⟩
/-- all but the box is as it was -/
def But (b : Addr) (H H' : Hp) : Prop := ∀ a o, a ≠ b → H a = some o → H' a = some o
theorem But.refl (b : Addr) (H : Hp) : But b H H := fun _ _ _ h => h
theorem But.trans {b : Addr} {H H1 H2 : Hp} (x : But b H H1) (y : But b H1 H2) : But b H H2 := fun a o n h => y a o n (x a o n h)
theorem But.set {b : Addr} {H : Hp} {o : HO} : But b H (upd H b o) := fun a u n h => by rw [upd_ne n]; exact h
theorem But.new {b p : Addr} {H : Hp} {o : HO} (h : H p = none) : But b H (upd H p o) := fun a u _ e => by rw [upd_ne (ne_of_none e h)]; exact e
theorem But.of_same {b : Addr} {H H' : Hp} (h : Same H H') : But b H H' := fun a o _ e => h a o e
theorem same_new {H : Hp} {p : Addr} {o : HO} (h : H p = none) : Same H (upd H p o) := fun a u e => by rw [upd_ne (ne_of_none e h)]; exact e
theorem Box.same {m : Nat} {H H' : Hp} {b : Addr} (h : Box m H b) (s : Same H H') : Box m H' b := by
  obtain ⟨x, y, z, e, r⟩ := h
  exact ⟨x, y, z, s _ _ e, r⟩
theorem Box.ne {m : Nat} {H : Hp} {b p : Addr} (h : Box m H b) (hp : H p = none) : b ≠ p := by
  obtain ⟨x, y, z, e, r⟩ := h
  exact ne_of_none e hp
theorem But.seqL {b : Addr} {K : PySem.W.Frag} {H H' : Hp} {a : Addr} {xs : List V} (e : But b H H') (n : a ≠ b) (h : SqL K H a xs) : SqL K H' a xs := by
  rcases h with (h | ⟨o, h⟩) | h
  · exact .inl (.inl (e _ _ n h))
  · exact .inl (.inr ⟨o, e _ _ n h⟩)
  · exact .inr h
theorem But.seqT {b : Addr} {K : PySem.W.Frag} {H H' : Hp} {a : Addr} {xs : List V} (e : But b H H') (n : a ≠ b) (h : SqT K H a xs) : SqT K H' a xs := by
  rcases h with (h | ⟨o, h⟩) | h
  · exact .inl (.inl (e _ _ n h))
  · exact .inl (.inr ⟨o, e _ _ n h⟩)
  · exact .inr h
theorem Same.seqT {K : PySem.W.Frag} {H H' : Hp} {a : Addr} {xs : List V} (e : Same H H') (h : SqT K H a xs) : SqT K H' a xs := by
  rcases h with (h | ⟨o, h⟩) | h
  · exact .inl (.inl (e _ _ h))
  · exact .inl (.inr ⟨o, e _ _ h⟩)
  · exact .inr h
/-- what is read at an address that is not the box's -/
theorem box_not_tup {m : Nat} {K : PySem.W.Frag} {H : Hp} {b a : Addr} (h : Box m H b) {xs : List V} (t : H a = some (.tup xs)) : a ≠ b := by
  obtain ⟨x, y, z, e, r⟩ := h
  exact ne_of t e (fun q => HO.noConfusion q)

/-! ### defs with their names -/
structure Dfn (P : Program) (w : World) (K : PySem.W.Frag) (mg : Str → Option Value) (base : Heap) (k : Nat) (x : Str) (ps : List Str) (sp : Sp) : Prop where
  ex : ∃ (f : Addr) (fd : FuncData), FnOk P w K mg base L2.CX0 k f fd ps sp ∧ mg x = some (.ref f) ∧ PySem.W.keepIn K (.ref f) = true ∧ Binds K fd ps []
/-- .. where nothing is being shown -/
structure DfG (P : Program) (w : World) (K : PySem.W.Frag) (mg : Str → Option Value) (base : Heap) (k : Nat) (x : Str) (ps : List Str) (sp : Sp) : Prop where
  ex : ∃ (f : Addr) (fd : FuncData), FnG P w K mg base k f fd ps sp ∧ mg x = some (.ref f) ∧ PySem.W.keepIn K (.ref f) = true ∧ Binds K fd ps []
section
variable {X : Cx} {k j : Nat} {x : Str} {ps : List Str} {sp : Sp} {p pos : Pos} {e : Expr} {es : List Expr} {t : TA}
theorem pe_d (D : Dfn X.prog X.w X.K X.mg X.base k x ps sp) (hr : Room j X.A) (hk : k ≤ j) (hg : Gl X x) (ha : PA X (e :: es) t)
    (hdb : (x == ("__debug__" : Str)) = false := by decide) (he : starEach (e :: es) X.env = (false, eval e X.env) :: starEach es X.env := by rfl)
    (hpl : (backTo pos (starEach es X.env)).any (·.1) = false := by rfl) : PE X (.Call (.Name x p) (e :: es) [] pos) (tCall sp [] L2.E0 t) := by
  obtain ⟨f, fd, F, m, kp, b⟩ := D.ex
  exact L2.pe_call (F.mono hk) hr hg m kp b .nil L2.pass0 ha hdb he hpl
theorem pe_dg (D : DfG X.prog X.w X.K X.mg X.base k x ps sp) (hr : Room j X.A) (hd : X.A.guards = some []) (hk : k ≤ j) (hg : Gl X x) (ha : PA X (e :: es) t)
    (hdb : (x == ("__debug__" : Str)) = false := by decide) (he : starEach (e :: es) X.env = (false, eval e X.env) :: starEach es X.env := by rfl)
    (hpl : (backTo pos (starEach es X.env)).any (·.1) = false := by rfl) : PE X (.Call (.Name x p) (e :: es) [] pos) (tG sp t) := by
  obtain ⟨f, fd, F, m, kp, b⟩ := D.ex
  exact pe_g (F.weak hk) hr hd hg m kp b ha hdb he hpl
end
/-- an expression whose ways meet -/
def tMid (t : TE) : TE := fun σ H Q => ∃ Mid : V → Hp → Prop, t σ H Mid ∧ ∀ v H', Mid v H' → Q v H'
theorem pe_mid {X : Cx} {e : Expr} {t : TE} (h : PE X e t) : PE X e (tMid t) :=
  ⟨fun pins s σ H Q I ⟨M, h1, h2⟩ => thn (h.run pins s σ H M I h1) fun u s1 ⟨v, H1, I1, r, q⟩ => ⟨v, H1, I1, r, h2 v H1 q⟩⟩
/-- a test whose ways meet -/
def tMidT (t : TT) : TT := fun σ H Q => ∃ Mid : Bool → Hp → Prop, t σ H Mid ∧ ∀ b H', Mid b H' → Q b H'
/-- a def called by keywords alone -/
structure DfK (P : Program) (w : World) (K : PySem.W.Frag) (mg : Str → Option Value) (base : Heap) (k : Nat) (x : Str) (ps ks : List Str) (gV : List V → List V) (sp : Sp) : Prop where
  ex : ∃ (f : Addr) (fd : FuncData) (g : List Value → List Value → List Value), FnOk P w K mg base L2.CX0 k f fd ps sp ∧ mg x = some (.ref f) ∧ PySem.W.keepIn K (.ref f) = true ∧ KBn K fd ps 0 ks g (fun _ zs => gV zs)
theorem pe_dk {X : Cx} {k j : Nat} {x : Str} {ps ks : List Str} {sp : Sp} {gV : List V → List V} {p pos : Pos} {kws : List Keyword} {tk : TA} (D : DfK X.prog X.w X.K X.mg X.base k x ps ks gV sp) (hr : Room j X.A) (hk : k ≤ j) (hg : Gl X x)
    (hkw : PK X kws tk) (hall : (backToKw pos (keywordEach kws X.env)).all (·.1.isSome) = true := by rfl) (hks : (backToKw pos (keywordEach kws X.env)).filterMap (·.1) = ks := by rfl) (hdb : (x == ("__debug__" : Str)) = false := by decide)
    (hpl : ((backTo pos (starEach [] X.env)).any (·.1) || (backToKw pos (keywordEach kws X.env)).any (·.1.isNone)) = false := by rfl) :
    PE X (.Call (.Name x p) [] kws pos) (tKw ks.length gV sp tk) := by
  obtain ⟨f, fd, g, F, m, kp, b⟩ := D.ex
  exact pe_kw (F.mono hk) hr hg m kp b hkw hall hks hdb hpl
/-- text * n -/
theorem op_mulS {X : Cx} : OpR X (binaryOp .Mult) (fun x y H Q => ∃ z n, x = .str z ∧ y = .int n ∧ MulOk z n ∧ Q (.str (Txt.mul z n)) H) := by
  intro pins s σ H x y v u Q I rx ry h
  obtain ⟨z, n, rfl, rfl, hc, q⟩ := h
  obtain ⟨t, rfl⟩ := rx
  obtain ⟨t', rfl⟩ := ry
  exact SB.mul hc fun t2 k => ⟨.str _, H, I.tok _, ⟨_, rfl⟩, q⟩
/-- data that may be shown -/
structure Fine (d : PyData) : Prop where
  a : d.showable = true
  b : d.hasDict = false
  c : d.depth ≤ 40
  e : d.shown.length ≤ sizeLine
theorem Fine.of {d : PyData} (B : Nat) (hB : 8 ≤ B) (hB2 : B ≤ 1000) (a : d.showable = true) (b : d.hasDict = false) (c : d.depth ≤ 40) (l : d.leavesShort B = true) (w : d.weight ≤ 10000) : Fine d :=
  ⟨a, b, c, by
    have h := PyData.shown_le B hB d l
    have h2 : (B + 2) * d.weight ≤ 1002 * 10000 := Nat.mul_le_mul (by omega) w
    have h3 : sizeLine = 16777216 := sizeLine_eq
    omega⟩
theorem call_reprF {X : Cx} {k : Nat} (hr : Room k X.A) (hg : X.A.guards = some []) : CallR X (.builtin "repr") (fun xs H Q => ∃ v d, xs = [v] ∧ Dp X.K H v d ∧ Fine d ∧ Q (.str d.shown) H) :=
  fun pins s σ H xs us Q I r ⟨v, d, h1, h2, h3, q⟩ => call_reprD hr hg pins s σ H xs us Q I r ⟨v, d, h1, h2, h3.a, h3.b, h3.c, h3.e, q⟩
theorem fine_ints {a b : Int} (ha : a.natAbs < 10 ^ 20) (hb : b.natAbs < 10 ^ 20) : Fine (.list [.int a, .int b]) := by
  have len : ∀ c : Int, c.natAbs < 10 ^ 20 → (PyData.shown (.int c)).length ≤ 21 := fun c hc => by
    have h := int_text_length_le10 (a := c) (k := 20) (by decide) hc
    show (Str.ofString (toString c)).length ≤ 21
    rw [PySem.ofString_length]
    exact h
  have la := len a ha
  have lb := len b hb
  have ga : a.natAbs.log2 < 1920 := PySem.Flt.log2_lt_of (by decide) (Nat.lt_of_lt_of_le ha (by decide))
  have gb : b.natAbs.log2 < 1920 := PySem.Flt.log2_lt_of (by decide) (Nat.lt_of_lt_of_le hb (by decide))
  refine Fine.of 21 (by decide) (by decide) ?_ rfl (by simp [PyData.depth, PyData.depthAll]) ?_ (by simp only [PyData.weight, PyData.weightAll]; split <;> split <;> omega)
  · simp only [PyData.showable, PyData.showableAll, ga, gb, decide_true, Bool.and_self]
  · simp only [PyData.leavesShort, PyData.leavesShortAll, la, lb, decide_true, Bool.and_self]
/-- a promise that does not speak of what is raised, as a value -/
theorem sqL_at {K : PySem.W.Frag} {H : Hp} {a : Addr} {xs : List V} (h : H a = some (.lst xs)) : SqL K H a xs := SqL.of h
end Gk
namespace Gk
open PySem PySem.Spec PyProof.Rows L2
/-- the caller shows nothing -/
theorem caller_guards : callerA.guards = some [] := rfl
/-- the law's call, its promise told where nothing is being shown -/
theorem callG {P : Program} {w : World} {K : PySem.W.Frag} {mg mb : Str → Option Value} {k : Nat} {fa a : Addr} {fd : FuncData} {x : Str} {sp : Sp} {s1 : Shared} {vs : List Value} {ns : List Int}
    (KX : K.In s1.heap) (n1 : s1.heap.Ns mainGlobals mg) (n2 : s1.heap.Ns builtinsNs mb) (n3 : ∀ x : Str, x ≠ "__name__" → mb x = bootBuiltins x) (lim : s1.heap.NoLimit) (gen : s1.gens = #[])
    (at_ : s1.heap.get? a = some { cls := .type "list", data := .seq vs.toArray }) (iss : IntsAre vs ns) (few : ns.length ≤ sizeLine) (room : Room k callerA)
    (F : ∀ base : Heap, K.In base → base.Ns mainGlobals mg → FnG P w K mg base k fa fd [x] sp) (binds : ∀ (s : Shared) (u : Value), BindsTo s fd ⟨[u], []⟩ [(x, u)])
    (want : ∀ H : Hp, Only H → SqL K H a (ns.map V.int) → sp [.ref a] H (fun v _ => v = .bl true) L2.E0) :
    codeAny (model P w) callerA (.call (.ref fa) ⟨[.ref a], []⟩) (fun r s' => r = .ok (.ret (.bool true)) ∧ OldK s1.heap s'.heap ∧ s'.os = s1.os ∧ AllBare s'.gens) s1 := by
  have rv := L2.vals_ints iss
  have go : ∀ H : Hp, Only H → SqL K H a (ns.map V.int) → HOk P w H s1.heap → (∀ b, H b ≠ none → b = a) → (H a ≠ none → K.lookup a = none) →
      codeAny (model P w) callerA (.call (.ref fa) ⟨[.ref a], []⟩) (fun r s' => r = .ok (.ret (.bool true)) ∧ OldK s1.heap s'.heap ∧ s'.os = s1.os ∧ AllBare s'.gens) s1 := by
    intro H only there held alone apart
    have isA : ∀ {b : Addr} {u : HO}, H b = some u → b = a := fun {b u} e => alone b (fun z => by rw [e] at z; cases z)
    have free : ∀ {b : Addr} {o : Obj} {es : Array DictEntry} {ep : Nat}, s1.heap.get? b = some o → o.data = .dict es ep → H b = none := by
      intro b o es ep e d
      cases q : H b with
      | none => rfl
      | some u =>
        obtain rfl := isA q
        rw [at_] at e
        cases e
        exact Data.noConfusion (show Data.seq vs.toArray _ = Data.dict es ep from d)
    have nsB : ∀ {b : Addr} {m : Str → Option Value}, s1.heap.Ns b m → (hidT s1.heap H).Ns b m := by
      intro b m h
      obtain ⟨o, es, ep, e, d, r⟩ := h
      exact ⟨o, es, ep, hidT_get e (free e d), d, r⟩
    have KB : K.In (hidT s1.heap H) := by
      intro b o e
      refine hidT_get (KX b o e) ?_
      cases q : H b with
      | none => rfl
      | some u =>
        obtain rfl := isA q
        have z := apart (fun z => by rw [q] at z; cases z)
        rw [z] at e
        cases e
    obtain ⟨mc, c1, c2⟩ := lim
    have en : Env0 P w K mg (hidT s1.heap H) callerA [] s1 H :=
      { frames := rfl, mod := ⟨KB, nsB n1, ⟨mb, nsB n2, n3⟩, ⟨mc, nsB c1, c2⟩⟩, bs := fun b o e => of_hidT e, bsz := Nat.le_of_eq (hidT_size _ _), funs := trivial,
        frf := fun b hb => (nomatch (show b ∈ ([] : List Addr) from hb)), hok := held, bare := .of_eq gen }
    refine codeAny_mono ((F _ KB (nsB n1)).go callerA [] s1 H ⟨[.ref a], []⟩ [.ref a] [.ref a] _ room caller_guards en (binds s1 (.ref a)) (.cons rfl .nil) (want H only there)) fun r s' res => ?_
    match r, res with
    | .error _, res => exact False.elim res
    | .ok .next, res => exact False.elim res
    | .ok .brk, res => exact False.elim res
    | .ok .cont, res => exact False.elim res
    | .ok (.ret u), res =>
      obtain ⟨v, H1, os, bare, un, held1, rel, qv⟩ := res
      have qv : v = .bl true := qv
      subst qv
      obtain rfl : u = Value.bool true := rel
      refine ⟨rfl, OldK.of_keep fun b o e => ?_, os, bare⟩
      cases q : H b with
      | none => exact un.keep b o e q (fun z => (nomatch (show b ∈ ([] : List Addr) from z))) (fun z => (nomatch z))
      | some u =>
        rcases only b with z | ⟨ob, xs, z⟩
        · rw [q] at z
          cases z
        · have f1 := (held b _ z).1
          have f2 := (held1 b _ (un.frzs b ob _ z)).1
          rw [e] at f1
          cases f1
          exact f2
  cases kl : K.lookup a with
  | some o =>
    have e := KX a o kl
    rw [at_] at e
    cases e
    exact go (fun _ => none) (fun _ => .inl rfl) (.inr ⟨_, vs.toArray, _, kl, rfl, rfl, rfl, by rw [List.size_toArray, iss.length]; exact few, by simpa using rv⟩) (fun b u z => (nomatch (show (none : Option HO) = some u from z))) (fun b z => absurd rfl z) (fun z => absurd rfl z)
  | none =>
    refine go (fun b => if b = a then some (.frz { cls := .type "list", data := .seq vs.toArray } (.lst (ns.map V.int))) else none) ?_ (.inl (.inr ⟨_, if_pos rfl⟩)) ?_ ?_ (fun _ => kl)
    · intro b
      by_cases h : b = a
      · exact .inr ⟨_, _, if_pos h⟩
      · exact .inl (if_neg h)
    · intro b u z
      by_cases h : b = a
      · obtain rfl := Option.some.inj ((if_pos h).symm.trans z)
        subst h
        exact ⟨at_, by rw [List.length_map]; exact few, vs, _, rv, at_⟩
      · exact (nomatch ((if_neg h).symm.trans z))
    · intro b z
      by_cases h : b = a
      · exact h
      · exact absurd (if_neg h) z

/-- the goal behind the head -/
theorem walkG {l : PySem.W.OpenLaw} {n k : Nat} {q : Program} {loose : List Str} {XP : (Str → Option Value) → Heap → Prop} {YP : World → Heap → Prop} {d : DefRec} {K : Params → PySem.W.Frag} {sp : World → Sp} {x : Str}
    (h1 : l.most = some n) (h2 : n ≤ sizeLine) (h3 : d.params.defaults = []) (h4 : Room k callerA) (h5 : ∀ (w : World) (h : Heap), YP w h → (K w.params).In h)
    (F : ∀ (w : World) (mg : Str → Option Value) (fa : Addr) (h : Heap), (K w.params).In h → h.Ns mainGlobals mg → mg d.name = some (.ref fa) →
      ∃ fd : FuncData, (∀ (s : Shared) (u : Value), BindsTo s fd ⟨[u], []⟩ [(x, u)]) ∧ ∀ base : Heap, (K w.params).In base → base.Ns mainGlobals mg → FnG l.prog w (K w.params) mg base k fa fd [x] (sp w))
    (h6 : ∀ (w : World) (H : Hp) (a : Addr) (ns : List Int), ns.length ≤ n → Only H → SqL (K w.params) H a (ns.map V.int) → sp w [.ref a] H (fun v _ => v = .bl true) L2.E0) :
    PySem.W.WalkO q loose XP YP l.row.toRowW d [] (fun f vs => PySem.call f vs) :=
  Att.attach_call h1 h3 fun w s0 s1 mg mb fa o pm cd doc a vs ns G Y ho hd hcd hmg obj iss len gen => by
    obtain ⟨fd, hb, hF⟩ := F w mg fa _ (h5 w _ Y) G.T.g hmg
    exact callG (h5 w _ Y) G.T.g G.T.b G.T.builtins G.T.nolimit gen obj iss (Nat.le_trans len h2) h4 hF hb (fun H hO hS => h6 w H a ns len hO hS)
end Gk
namespace Gk
open PySem PySem.Spec PyProof.Rows L2
theorem mul_same (l : Addr) (its : Array Value) (n : Nat) (dd : Option Addr) (sl : Array (Option Value)) (u : Tok) :
    Meets (Builtin.«tuple.__mul__» ⟨[.ref l, .int 1 u], []⟩) (fun _ R s => s.heap.get? l = some { cls := .type "tuple", dict := dd, data := .seq its n, slots := sl } ∧ R (.ok (.ret (.ref l))) s) :=
  .of_wp fun prog w A R s h => by
    obtain ⟨hp, g, d, tk, os⟩ := s
    obtain ⟨hl, h⟩ := h
    have f1 := AutoSeq1.idx_int
    have c0 : (decide ((1 : Int) < -(2 ^ 63)) || decide ((1 : Int) ≥ 2 ^ 63)) = false := by decide
    have c1 : (its.isEmpty || (1 : Int) == 1) = true := by simp
    wp_walk using wpAny_loadPart' hl
    repeat (first
      | (refine wpAny_ite_false (decide_eq_false (by rw [c0]; exact Bool.false_ne_true)) ?_; wp_walk using wpAny_loadPart' hl)
      | (refine wpAny_ite_true (decide_eq_true (by rw [c1])) ?_; wp_walk using wpAny_loadPart' hl))
    all_goals first | exact ⟨_, rfl, h⟩ | skip
theorem mul_none (l : Addr) (its : Array Value) (n : Nat) (dd : Option Addr) (sl : Array (Option Value)) (x : Int) (u : Tok) (hx : x ≤ 0) (hx2 : -(2 ^ 63) ≤ x) (hi : its.isEmpty = false) :
    Meets (Builtin.«tuple.__mul__» ⟨[.ref l, .int x u], []⟩) (fun _ R s => s.heap.get? l = some { cls := .type "tuple", dict := dd, data := .seq its n, slots := sl } ∧
      R (.ok (.ret (Value.ref s.heap.objs.size))) { s with heap := s.heap.push { cls := Value.type "tuple", data := Data.seq #[] }, toks := s.toks }) :=
  .of_wp fun prog w A R s h => by
    obtain ⟨hp, g, d, tk, os⟩ := s
    obtain ⟨hl, h⟩ := h
    have f1 := AutoSeq1.idx_int
    have c0 : (decide (x < -(2 ^ 63)) || decide (x ≥ 2 ^ 63)) = false := by
      rw [decide_eq_false (by omega), decide_eq_false (by omega)] <;> rfl
    have c1 : (its.isEmpty || x == 1) = false := by
      rw [hi, Bool.false_or]
      exact beq_eq_false_iff_ne.mpr (by omega)
    have c2 : (decide (x ≤ 0) || its.isEmpty) = true := by
      rw [decide_eq_true hx] <;> rfl
    wp_walk using wpAny_loadPart' hl
    repeat (first
      | (refine wpAny_ite_false (decide_eq_false (by rw [c0]; exact Bool.false_ne_true)) ?_; wp_walk using wpAny_loadPart' hl)
      | (refine wpAny_ite_false (decide_eq_false (by rw [c1]; exact Bool.false_ne_true)) ?_; wp_walk using wpAny_loadPart' hl)
      | (refine wpAny_ite_true (decide_eq_true (by rw [c2])) ?_; wp_walk using wpAny_loadPart' hl))
    all_goals first | exact ⟨_, rfl, h⟩ | skip
/-- t * k, whatever object it is -/
def rRepU (K : PySem.W.Frag) : R2 := fun x y H Q => ∃ l k xs, x = .ref l ∧ y = .int k ∧ SqT K H l xs ∧ xs ≠ [] ∧ 0 ≤ k ∧ k ≤ 1000 ∧ xs.length ≤ 1000 ∧
  ∀ p H', Same H H' → SqT K H' p (List.replicate k.toNat xs).flatten → Q (.ref p) H'
section
variable {X : Cx}
theorem op_repU : OpR X (binaryOp .Mult) (rRepU X.K) := by
  intro pins s σ H x y v u Q I rx ry h
  obtain ⟨l, k, xs, rfl, rfl, hT, hne, h0, h1, hz, q⟩ := h
  by_cases h2 : 2 ≤ k
  · exact op_repT pins s σ H _ _ v u Q I rx ry ⟨l, k, xs, rfl, rfl, hT, hne, h2, h1, hz, fun p np => q p _ (same_new np) (.inl (.inl upd_same))⟩
  · cases rx
    obtain ⟨t, rfl⟩ := ry
    obtain ⟨its, r, ⟨⟨cls, dd, data, sl⟩, ho, hc, n, hd⟩, hs⟩ := I.tuple hT
    simp only at hc hd
    subst hc hd
    have many : its.length = xs.length := r.length.symm
    have full : its.toArray.isEmpty = false := by
      cases its with
      | nil => exact absurd (List.eq_nil_of_length_eq_zero many.symm) hne
      | cons a b => rfl
    by_cases h3 : k = 1
    · subst h3
      refine wpAny_binaryOp_repeat_ref (T := "tuple") (U := "int") (by decide) ⟨_, ho, rfl⟩ (fun s' => typeIs_int s' 1 t) noFill_tuple_mul F.fills_int_mul F.slot_int_rmul repeat_tuple F.slot_int_index.lookup
        (call_meets F.slot_int_rmul (typeIs_int s 1 t) F.entry_int_rmul (F.args_int_rmul_2 _ _) (int_rmul_tuple 1 t l its.toArray n dd sl)
          ⟨ho, rfl, ⟨_, ho, rfl⟩, call_meets F.slot_tuple_mul ⟨_, ho, rfl⟩ F.entry_tuple_mul (F.args_tuple_mul_2 _ _) (mul_same l its.toArray n dd sl t) ⟨ho, ?_⟩⟩)
      refine ⟨.ref l, H, I, rfl, q l H (Same.refl H) ?_⟩
      show SqT X.K H l ([xs].flatten)
      rw [List.flatten_cons, List.flatten_nil, List.append_nil]
      exact hT
    · have h4 : k = 0 := by omega
      subst h4
      refine wpAny_binaryOp_repeat_ref (T := "tuple") (U := "int") (by decide) ⟨_, ho, rfl⟩ (fun s' => typeIs_int s' 0 t) noFill_tuple_mul F.fills_int_mul F.slot_int_rmul repeat_tuple F.slot_int_index.lookup
        (call_meets F.slot_int_rmul (typeIs_int s 0 t) F.entry_int_rmul (F.args_int_rmul_2 _ _) (int_rmul_tuple 0 t l its.toArray n dd sl)
          ⟨ho, rfl, ⟨_, ho, rfl⟩, call_meets F.slot_tuple_mul ⟨_, ho, rfl⟩ F.entry_tuple_mul (F.args_tuple_mul_2 _ _) (mul_none l its.toArray n dd sl 0 t (by decide) (by decide) full) ⟨ho, ?_⟩⟩)
      have nf : H s.heap.objs.size = none := I.hok.fresh (Nat.le_refl _)
      exact ⟨.ref s.heap.objs.size, upd H s.heap.objs.size (.tup []), I.laid (t' := s.toks) (fun b ob g => Heap.get?_push_of_some _ g) (Nat.le_refl _) ⟨Nat.zero_le _, [], .nil, IsTup.new _ _⟩, rfl, q _ _ (same_new nf) (.inl (.inl upd_same))⟩
/-- t + u, whatever object it is -/
def rCatU (K : PySem.W.Frag) : R2 := fun x y H Q => ∃ a b xs ys, x = .ref a ∧ y = .ref b ∧ SqT K H a xs ∧ SqT K H b ys ∧ xs.length + ys.length ≤ sizeLine ∧ ∀ p H', Same H H' → SqT K H' p (xs ++ ys) → Q (.ref p) H'
theorem op_catU : OpR X (binaryOp .Add) (rCatU X.K) := by
  intro pins s σ H x y v u Q I rx ry h
  obtain ⟨a, b, xs, ys, rfl, rfl, ha, hb, hz, q⟩ := h
  refine op_catA pins s σ H _ _ v u Q I rx ry ⟨a, b, xs, ys, rfl, rfl, ha, hb, hz, fun e => ?_, fun _ e => ?_, fun _ _ p np => q p _ (same_new np) (.inl (.inl upd_same))⟩
  · subst e
    exact q b H (Same.refl H) hb
  · subst e
    exact q a H (Same.refl H) (by rw [List.append_nil]; exact ha)
theorem cut_whole {xs : List V} {lo hi : Option Int} (h : HT.sIx xs.length 0 lo = 0 ∧ HT.sIx xs.length xs.length hi = xs.length) : cutV xs lo hi = xs := by
  unfold cutV
  rw [h.1, h.2]
  simp
/-- t[lo:hi], whatever object it is -/
def rSlU (K : PySem.W.Frag) : V → Option Int → Option Int → Hp → VK → Prop := fun x lo hi H Q => ∃ a xs, x = .ref a ∧ SqT K H a xs ∧ ∀ p H', Same H H' → SqT K H' p (cutV xs lo hi) → Q (.ref p) H'
theorem sl_tupU : SlR X (rSlU X.K) := by
  intro pins s σ H x v vl vu lo hi sl Q I rx hs pl pu h
  obtain ⟨a, xs, rfl, hx, q⟩ := h
  exact sl_tupA pins s σ H _ v vl vu lo hi sl Q I rx hs pl pu ⟨a, xs, rfl, hx, fun e => q a H (Same.refl H) (by rw [cut_whole e]; exact hx), fun _ p np => q p _ (same_new np) (.inl (.inl upd_same))⟩
end
theorem cut_to {xs : List V} (n : Nat) : cutV xs none (some (n : Int)) = xs.take n := by
  unfold cutV
  rw [HT.sIx_none, HT.sIx_nat]
  show ((xs.drop 0).take (min n xs.length - 0)) = _
  rw [List.drop_zero, Nat.sub_zero, Nat.min_comm, List.take_eq_take_iff]
  omega
theorem cut_from {xs : List V} (n : Nat) : cutV xs (some (n : Int)) none = xs.drop n := by
  unfold cutV
  rw [HT.sIx_none, HT.sIx_nat]
  by_cases h : n ≤ xs.length
  · rw [Nat.min_eq_left h, List.take_of_length_le (by rw [List.length_drop]; exact Nat.le_refl _)]
  · rw [Nat.min_eq_right (by omega), List.drop_eq_nil_of_le (Nat.le_refl _), List.drop_eq_nil_of_le (by omega)]
    exact List.take_nil
end Gk
namespace Gk
open PySem PySem.Spec PyProof.Rows L2
/-! ### data that is easily shown and compared -/
mutual
def tame : PyData → Bool
  | .none | .bool _ => true
  | .int i => decide (i.natAbs < 10 ^ 20)
  | .str x => x.cps.all (· < 0x110000)
  | .list xs | .tuple xs => tameAll xs
  | .dict _ => false
def tameAll : List PyData → Bool
  | [] => true
  | x :: xs => tame x && tameAll xs
end
mutual
def cost : PyData → Nat
  | .none | .bool _ | .int _ => 70
  | .str x => x.cps.size + 1
  | .list xs | .tuple xs => costAll xs
  | .dict _ => 0
def costAll : List PyData → Nat
  | [] => 1
  | x :: xs => cost x + 1 + costAll xs
end
theorem int_len20 {c : Int} (hc : c.natAbs < 10 ^ 20) : (PyData.shown (.int c)).length ≤ 21 := by
  have h := int_text_length_le10 (a := c) (k := 20) (by decide) hc
  show (Str.ofString (toString c)).length ≤ 21
  rw [PySem.ofString_length]
  exact h
theorem int_log20 {c : Int} (hc : c.natAbs < 10 ^ 20) : c.natAbs.log2 < 68 := PySem.Flt.log2_lt_of (by decide) (Nat.lt_of_lt_of_le hc (by decide))
mutual
theorem tame_showable : ∀ d : PyData, tame d = true → d.showable = true
  | .none, _ => rfl
  | .bool _, _ => rfl
  | .int i, h => by
    have h1 := int_log20 (of_decide_eq_true (by simpa only [tame] using h))
    simp only [PyData.showable]
    exact decide_eq_true (by omega)
  | .str _, _ => rfl
  | .list xs, h => by simpa only [PyData.showable] using tame_showableAll xs (by simpa only [tame] using h)
  | .tuple xs, h => by simpa only [PyData.showable] using tame_showableAll xs (by simpa only [tame] using h)
  | .dict _, h => by simp [tame] at h
theorem tame_showableAll : ∀ ds : List PyData, tameAll ds = true → PyData.showableAll ds = true
  | [], _ => rfl
  | x :: xs, h => by
    simp only [tameAll, Bool.and_eq_true] at h
    simp only [PyData.showableAll, tame_showable x h.1, tame_showableAll xs h.2, Bool.and_self]
end
mutual
theorem tame_nodict : ∀ d : PyData, tame d = true → d.hasDict = false
  | .none, _ => rfl
  | .bool _, _ => rfl
  | .int _, _ => rfl
  | .str _, _ => rfl
  | .list xs, h => by simpa only [PyData.hasDict] using tame_nodictAll xs (by simpa only [tame] using h)
  | .tuple xs, h => by simpa only [PyData.hasDict] using tame_nodictAll xs (by simpa only [tame] using h)
  | .dict _, h => by simp [tame] at h
theorem tame_nodictAll : ∀ ds : List PyData, tameAll ds = true → PyData.hasDictAll ds = false
  | [], _ => rfl
  | x :: xs, h => by
    simp only [tameAll, Bool.and_eq_true] at h
    simp only [PyData.hasDictAll, tame_nodict x h.1, tame_nodictAll xs h.2, Bool.or_self]
end
mutual
theorem tame_short : ∀ d : PyData, tame d = true → d.leavesShort 21 = true
  | .none, _ => rfl
  | .bool _, _ => rfl
  | .int i, h => by
    have h1 := int_len20 (of_decide_eq_true (by simpa only [tame] using h))
    simp only [PyData.leavesShort]
    exact decide_eq_true h1
  | .str x, h => by
    have h1 : x.cps.all (· < 0x110000) = true := by simpa only [tame] using h
    simp only [PyData.leavesShort, List.all_eq_true, decide_eq_true_eq]
    intro c hc
    rw [Array.all_eq_true_iff_forall_mem] at h1
    have h2 := h1 c (Array.mem_toList_iff.mp hc)
    have h3 : c < 0x110000 := by simpa using h2
    exact Nat.lt_of_lt_of_le h3 (by decide)
  | .list xs, h => by simpa only [PyData.leavesShort] using tame_shortAll xs (by simpa only [tame] using h)
  | .tuple xs, h => by simpa only [PyData.leavesShort] using tame_shortAll xs (by simpa only [tame] using h)
  | .dict _, h => by simp [tame] at h
theorem tame_shortAll : ∀ ds : List PyData, tameAll ds = true → PyData.leavesShortAll 21 ds = true
  | [], _ => rfl
  | x :: xs, h => by
    simp only [tameAll, Bool.and_eq_true] at h
    simp only [PyData.leavesShortAll, tame_short x h.1, tame_shortAll xs h.2, Bool.and_self]
end
mutual
theorem tame_weight : ∀ d : PyData, tame d = true → d.weight ≤ cost d
  | .none, _ => Nat.zero_le _
  | .bool _, _ => Nat.zero_le _
  | .int i, h => by
    have h1 := int_log20 (of_decide_eq_true (by simpa only [tame] using h))
    simp only [PyData.weight, cost]
    split <;> omega
  | .str x, h => by
    simp only [PyData.weight, cost]
    omega
  | .list xs, h => by simpa only [PyData.weight, cost] using tame_weightAll xs (by simpa only [tame] using h)
  | .tuple xs, h => by simpa only [PyData.weight, cost] using tame_weightAll xs (by simpa only [tame] using h)
  | .dict _, h => by simp [tame] at h
theorem tame_weightAll : ∀ ds : List PyData, tameAll ds = true → PyData.weightAll ds ≤ costAll ds
  | [], _ => Nat.zero_le _
  | x :: xs, h => by
    simp only [tameAll, Bool.and_eq_true] at h
    have h1 := tame_weight x h.1
    have h2 := tame_weightAll xs h.2
    simp only [PyData.weightAll, costAll]
    omega
end
mutual
theorem tame_lay : ∀ d : PyData, tame d = true → d.canLay0 = true
  | .none, _ => rfl
  | .bool _, _ => rfl
  | .int _, _ => rfl
  | .str x, h => by
    have h1 : x.cps.all (· < 0x110000) = true := by simpa only [tame] using h
    simpa only [PyData.canLay0, PyData.strOk] using h1
  | .list xs, h => by simpa only [PyData.canLay0] using tame_layAll xs (by simpa only [tame] using h)
  | .tuple xs, h => by simpa only [PyData.canLay0] using tame_layAll xs (by simpa only [tame] using h)
  | .dict _, h => by simp [tame] at h
theorem tame_layAll : ∀ ds : List PyData, tameAll ds = true → PyData.canLayAll0 ds = true
  | [], _ => rfl
  | x :: xs, h => by
    simp only [tameAll, Bool.and_eq_true] at h
    simp only [PyData.canLayAll0, tame_lay x h.1, tame_layAll xs h.2, Bool.and_self]
end
theorem Fine.tame {d : PyData} (h : Gk.tame d = true) (hd : d.depth ≤ 40) (hc : cost d ≤ 500000) : Fine d :=
  ⟨tame_showable d h, tame_nodict d h, hd, by
    have h1 := PyData.shown_le 21 (by decide) d (tame_short d h)
    have h2 := tame_weight d h
    have h3 : sizeLine = 16777216 := sizeLine_eq
    omega⟩
theorem tame_shaped {d : PyData} (h : tame d = true) (hd : d.depth ≤ 40) : SeqAt.shaped d = true := by
  unfold SeqAt.shaped
  rw [tame_lay d h, Bool.true_and]
  exact decide_eq_true (by omega)

/-! ### data of tuples stays while other things change -/
def Keep (K : PySem.W.Frag) (H H' : Hp) : Prop := ∀ a xs, SqT K H a xs → SqT K H' a xs
theorem Keep.refl {K : PySem.W.Frag} {H : Hp} : Keep K H H := fun _ _ h => h
theorem Keep.trans {K : PySem.W.Frag} {H H1 H2 : Hp} (a : Keep K H H1) (b : Keep K H1 H2) : Keep K H H2 := fun x xs h => b x xs (a x xs h)
theorem Same.keep {K : PySem.W.Frag} {H H' : Hp} (e : Same H H') : Keep K H H' := fun _ _ h => Same.seqT e h
theorem But.keep {K : PySem.W.Frag} {H H' : Hp} {b : Addr} {m : Nat} (e : But b H H') (hb : Box m H b) : Keep K H H' := by
  intro a xs h
  obtain ⟨x, y, z, g, _⟩ := hb
  rcases h with (h | ⟨o, h⟩) | h
  · exact .inl (.inl (e _ _ (ne_of h g (fun q => HO.noConfusion q)) h))
  · exact .inl (.inr ⟨o, e _ _ (ne_of h g (fun q => HO.noConfusion q)) h⟩)
  · exact .inr h
/-- all but the box, read: a list or a tuple that is not the box -/
theorem But.keepL {K : PySem.W.Frag} {H H' : Hp} {b a : Addr} {xs : List V} (e : But b H H') (n : a ≠ b) (h : SqL K H a xs) : SqL K H' a xs := e.seqL n h
mutual
def tups : PyData → Bool
  | .none | .bool _ | .int _ | .str _ => true
  | .tuple xs => tupsAll xs
  | .list _ | .dict _ => false
def tupsAll : List PyData → Bool
  | [] => true
  | x :: xs => tups x && tupsAll xs
end
mutual
theorem Dp.keep {K : PySem.W.Frag} {H H' : Hp} (k : Keep K H H') : ∀ (d : PyData) (v : V), tups d = true → Dp K H v d → Dp K H' v d
  | .none, _, _, h => by cases h; exact .non
  | .bool _, _, _, h => by cases h; exact .bl _
  | .int _, _, _, h => by cases h; exact .int _
  | .str _, _, _, h => by cases h; exact .str _
  | .tuple ds, _, t, h => by
    cases h with
    | tup h1 h2 => exact .tup (k _ _ h1) (DpAll.keep k ds _ (by simpa only [tups] using t) h2)
  | .list _, _, t, _ => by simp [tups] at t
  | .dict _, _, t, _ => by simp [tups] at t
theorem DpAll.keep {K : PySem.W.Frag} {H H' : Hp} (k : Keep K H H') : ∀ (ds : List PyData) (vs : List V), tupsAll ds = true → DpAll K H vs ds → DpAll K H' vs ds
  | [], _, _, h => by cases h; exact .nil
  | d :: ds, _, t, h => by
    simp only [tupsAll, Bool.and_eq_true] at t
    cases h with
    | cons h1 h2 => exact .cons (Dp.keep k d _ t.1 h1) (DpAll.keep k ds _ t.2 h2)
end
section
variable {K : PySem.W.Frag} {H : Hp}
theorem DpAll.len : ∀ {vs : List V} {ds : List PyData}, DpAll K H vs ds → vs.length = ds.length
  | _, _, .nil => rfl
  | _, _, .cons _ t => by rw [List.length_cons, List.length_cons, DpAll.len t]
theorem DpAll.take : ∀ {vs : List V} {ds : List PyData} (n : Nat), DpAll K H vs ds → DpAll K H (vs.take n) (ds.take n)
  | _, _, 0, _ => .nil
  | _, _, _ + 1, .nil => .nil
  | _, _, n + 1, .cons h t => .cons h (DpAll.take n t)
theorem DpAll.drop : ∀ {vs : List V} {ds : List PyData} (n : Nat), DpAll K H vs ds → DpAll K H (vs.drop n) (ds.drop n)
  | _, _, 0, h => h
  | _, _, _ + 1, .nil => .nil
  | _, _, n + 1, .cons _ t => DpAll.drop n t
theorem DpAll.app : ∀ {vs us : List V} {ds es : List PyData}, DpAll K H vs ds → DpAll K H us es → DpAll K H (vs ++ us) (ds ++ es)
  | _, _, _, _, .nil, h => h
  | _, _, _, _, .cons h t, h2 => .cons h (DpAll.app t h2)
theorem DpAll.rep {vs : List V} {ds : List PyData} (h : DpAll K H vs ds) : ∀ n : Nat, DpAll K H (List.replicate n vs).flatten (List.replicate n ds).flatten
  | 0 => .nil
  | n + 1 => by
    rw [List.replicate_succ, List.replicate_succ, List.flatten_cons, List.flatten_cons]
    exact DpAll.app h (DpAll.rep h n)
theorem DpAll.at : ∀ {vs : List V} {ds : List PyData} {i : Nat} {v : V} {d : PyData}, DpAll K H vs ds → vs[i]? = some v → ds[i]? = some d → Dp K H v d
  | _, _, _, _, _, .nil, h, _ => by simp at h
  | _, _, 0, _, _, .cons h _, e1, e2 => by
    obtain rfl := Option.some.inj e1
    obtain rfl := Option.some.inj e2
    exact h
  | _, _, i + 1, _, _, .cons _ t, e1, e2 => DpAll.at (i := i) t (by simpa using e1) (by simpa using e2)
theorem DpAll.ints : ∀ l : List Int, DpAll K H (l.map V.int) (l.map PyData.int)
  | [] => .nil
  | i :: l => .cons (.int i) (DpAll.ints l)
end
end Gk
namespace Pf
open PySem PySem.Spec PyProof.Rows L2 Gk
def topS (i : Nat) : Stmt := PySem.Challenge.pw_pastenough_k02_schemes_and_counters_of_a.main.body.getD i (.Pass ⟨0, 0, 0, 0⟩)
abbrev sTake : Stmt := topS 12
abbrev sOf : Stmt := topS 13
abbrev sBox : Stmt := topS 11
theorem scOf : FnScope ["_law_box_here", "_law_some"] ["_law_box_here", "_law_some"] (defScope sOf) := ⟨rfl, rfl, rfl, by decide +kernel, rfl, by decide +kernel, by decide +kernel⟩
theorem scBox : FnScope ["_law_script", "_law_k", "_law_digits", "_law_own"] ["_law_script", "_law_k"] (defScope sBox) := ⟨rfl, rfl, rfl, by decide +kernel, rfl, by decide +kernel, by decide +kernel⟩
theorem scTake : FnScope ["_law_box_here", "_law_many", "_law_digit", "_law_drawn"] ["_law_box_here", "_law_many"] (defScope sTake) := ⟨rfl, rfl, rfl, by decide +kernel, rfl, by decide +kernel, by decide +kernel⟩
def spTake : Sp := fun vs H Q _ => ∃ (b : Addr) (n : Int) (m : Nat), vs = [.ref b, .int n] ∧ 0 < n ∧ n < 1073741824 ∧ Box m H b ∧ m < 1000000000 ∧
  ∀ (d : Int) (H' : Hp), 0 ≤ d → d < n → But b H H' → Box (m + 1) H' b → (∀ p, p ≠ b → H' p = H p) → Q (.int d) H'

section
variable {P : Program} {w : World} {K : PySem.W.Frag} {mg : Str → Option Value} {base : Heap}
theorem ok_take {f : Addr} {fd : FuncData} {k : Nat} (F : L2.Fun K "_law_take" "_law_take" sTake f fd) : FnOk P w K mg base L2.CX0 (k + 1) f fd ["_law_box_here", "_law_many"] spTake := by
  refine F.ok scTake (fun vs H Q E h => ?_) (fun cdv A outer s H vs Q E hr h => ?_)
  · obtain ⟨b, n, m, rfl, _⟩ := h
    rfl
  · obtain ⟨b, n, m, rfl, n0, n1, ⟨x, y, z, hb, z0, z1⟩, hm, q⟩ := h
    refine ⟨_, pss_cons (ps_if (pt_cmpR op_gt (pe_ix ix_list (pv 0) pe_int (fun _ _ => rfl)) pe_int (nomark _))
        (pss_cons (ps_set (i := 2) scTake.nd rfl (.inl rfl) (pe_op op_mod (pe_ix ix_list (pv 0) pe_int (fun _ _ => rfl)) (pv 1)))
        (pss_cons (ps_asg (pe_op op_fdiv (pe_ix ix_list (pv 0) pe_int (fun _ _ => rfl)) (pv 1)) (pg_sub (pv 0) pe_int set_list))
        (pss_one (ps_ret (pv 2))))) pss_nil)
      (pss_cons (ps_asg (pe_op op_add (pe_ix ix_list (pv 0) pe_int (fun _ _ => rfl)) pe_int) (pg_sub (pv 0) pe_int set_list))
      (pss_cons (ps_set (i := 3) scTake.nd rfl (.inl rfl) (pe_op op_mod (pe_op op_mul (pe_op op_add (pe_op op_add (pe_ix ix_list (pv 0) pe_int (fun _ _ => rfl))
          (pe_op op_mul (pe_op op_mul pe_int (pe_ix ix_list (pv 0) pe_int (fun _ _ => rfl))) (pe_ix ix_list (pv 0) pe_int (fun _ _ => rfl)))) pe_int) pe_int) pe_int))
      (pss_cons (ps_set (i := 3) scTake.nd rfl (.inl rfl) (pe_op op_mod (pe_op op_mul (pv 3) (pe_op op_add (pe_op op_mod (pv 3) pe_int) (pe_op op_mul pe_int (pe_ix ix_list (pv 0) pe_int (fun _ _ => rfl))))) pe_int))
      (pss_one (ps_ret (pe_op op_mod (pe_op op_add (pe_op op_fdiv (pv 3) pe_int) (pe_op op_fdiv (pv 3) pe_int)) (pv 1))))))), ?_⟩
    refine ⟨.ref b, rfl, b, _, 0, .int x, rfl, rfl, SqL.of hb, rfl, x, 0, rfl, rfl, _, rfl, ite2 (fun e => ?_) (fun e => ?_)⟩
    · refine ⟨.ref b, rfl, b, _, 0, .int x, rfl, rfl, SqL.of hb, rfl, .int n, rfl, x, n, rfl, rfl, n0, ?_⟩
      refine ⟨.ref b, rfl, b, _, 0, .int x, rfl, rfl, SqL.of hb, rfl, .int n, rfl, x, n, rfl, rfl, ⟨n0, n1⟩, ?_⟩
      refine ⟨.ref b, rfl, b, _, _, 0, rfl, rfl, hb, rfl, ?_⟩
      refine ⟨.int (x % n), rfl, q _ _ (Int.emod_nonneg _ (by omega)) (Int.emod_lt_of_pos _ n0) But.set ⟨_, _, _, upd_same, z0, by omega⟩ fun p hp => upd_ne hp⟩
    · have hz : (z + 1 : Int) < 2 ^ 64 := by omega
      refine ⟨.ref b, rfl, b, _, 2, .int z, rfl, rfl, SqL.of hb, rfl, z, 1, rfl, rfl, ?_⟩
      refine ⟨.ref b, rfl, b, _, _, 2, rfl, rfl, hb, rfl, ?_⟩
      have h1 : upd H b (.lst [.int x, .int y, .int (z + 1)]) b = some (.lst [.int x, .int y, .int (z + 1)]) := upd_same
      refine ⟨.ref b, rfl, b, _, 1, .int y, rfl, rfl, SqL.of h1, rfl, .ref b, rfl, b, _, 2, .int (z + 1), rfl, rfl, SqL.of h1, rfl, _, _, rfl, rfl, .inl ⟨by decide, by decide⟩,
        .ref b, rfl, b, _, 2, .int (z + 1), rfl, rfl, SqL.of h1, rfl, _, _, rfl, rfl, .inr ⟨by omega, hz⟩, _, _, rfl, rfl, _, _, rfl, rfl, _, _, rfl, rfl, .inr ⟨by decide, by decide⟩, _, _, rfl, rfl, by show (0 : Int) < 2305843009213693921; decide, ?_⟩
      refine ⟨_, rfl, _, rfl, _, _, rfl, rfl, by show (0 : Int) < 1000033; decide, .ref b, rfl, b, _, 2, .int (z + 1), rfl, rfl, SqL.of h1, rfl, _, _, rfl, rfl, .inl ⟨by decide, by decide⟩, _, _, rfl, rfl, _, _, rfl, rfl,
        .inl ⟨Int.lt_of_lt_of_le (by decide) (Int.emod_nonneg _ (by decide)), Int.lt_trans (Int.emod_lt_of_pos _ (by decide)) (by decide)⟩, _, _, rfl, rfl, by show (0 : Int) < 2305843009213693907; decide, ?_⟩
      refine ⟨_, rfl, _, _, rfl, rfl, ⟨by decide, by decide⟩, _, rfl, _, _, rfl, rfl, ⟨by decide, by decide⟩, _, _, rfl, rfl, .int n, rfl, _, n, rfl, rfl, n0, ?_⟩
      exact q _ _ (Int.emod_nonneg _ (by omega)) (Int.emod_lt_of_pos _ n0) But.set ⟨_, _, _, h1, by omega, by omega⟩ fun p hp => upd_ne hp
def spOf (K : PySem.W.Frag) : Sp := fun vs H Q _ => ∃ (b a : Addr) (xs : List V) (m : Nat), vs = [.ref b, .ref a] ∧ SqL K H a xs ∧ a ≠ b ∧ 0 < xs.length ∧ xs.length ≤ 1000 ∧ Box m H b ∧ m < 1000000000 ∧
  ∀ (i : Nat) (v : V) (H' : Hp), xs[i]? = some v → But b H H' → Box (m + 1) H' b → (∀ p, p ≠ b → H' p = H p) → Q v H'
theorem ok_of {f : Addr} {fd : FuncData} {k : Nat} (D : Dfn P w K mg base k "_law_take" ["_law_box_here", "_law_many"] spTake) (ml : mg "len" = none)
    (F : L2.Fun K "_law_of" "_law_of" sOf f fd) : FnOk P w K mg base L2.CX0 (k + 1) f fd ["_law_box_here", "_law_some"] (spOf K) := by
  refine F.ok scOf (fun vs H Q E h => ?_) (fun cdv A outer s H vs Q E hr h => ?_)
  · obtain ⟨b, a, xs, m, rfl, _⟩ := h
    rfl
  · obtain ⟨b, a, xs, m, rfl, hS, hne, hl, hl2, hb, hm, q⟩ := h
    refine ⟨_, pss_one (ps_ret (pe_ix ix_list (pv 1) (pe_d D hr (Nat.le_refl _) (by rfl) (pa_cons (pv 0) (pa_cons (pe_callB call_len_seq (by rfl) ml PySem.boot_len (pa_cons (pv 1) pa_nil)) pa_nil))) (fun _ _ => rfl))), ?_⟩
    refine ⟨.ref a, rfl, .ref b, rfl, .ref a, rfl, a, xs, rfl, .inl hS, b, _, m, rfl, by omega, by omega, hb, hm, fun d H' d0 d1 bt bx same => ?_⟩
    have hi : d.toNat < xs.length := by omega
    have g : xs[d.toNat]? = some xs[d.toNat] := List.getElem?_eq_getElem hi
    have ga : atI xs d = some xs[d.toNat] := by
      have := atI_nat g
      rwa [Int.toNat_of_nonneg d0] at this
    exact ⟨a, xs, d, _, rfl, rfl, bt.seqL hne hS, ga, q _ _ H' g bt bx same⟩
def spBox (K : PySem.W.Frag) : Sp := fun vs H Q _ => ∃ (a : Addr) (ns : List Int) (k : Int), vs = [.ref a, .int k] ∧ SqL K H a (ns.map V.int) ∧ ns.length ≤ 63 ∧ 0 ≤ k ∧ k ≤ 1000 ∧
  ∀ p x y, H p = none → Q (.ref p) (upd H p (.lst [.int x, .int y, .int 0]))
theorem flag_small (c : Bool) : -(2 ^ 64) < (if c = true then (1 : Int) else 0) ∧ (if c = true then (1 : Int) else 0) < 2 ^ 64 := by cases c <;> decide
theorem bits60 : CBigPow 10 60 := ⟨by decide, by decide +kernel⟩
theorem bits300 : CBigPow (10 ^ (60 : Int).toNat) 5 := ⟨by decide, by decide +kernel⟩
theorem ok_box {f : Addr} {fd : FuncData} (ml : mg "len" = none) (ma : mg "abs" = none) (mi : mg "int" = none)
    (F : L2.Fun K "_law_box" "_law_box" sBox f fd) : FnOk P w K mg base L2.CX0 1 f fd ["_law_script", "_law_k"] (spBox K) := by
  refine F.ok scBox (fun vs H Q E h => ?_) (fun cdv A outer s H vs Q E hr h => ?_)
  · obtain ⟨a, ns, k, rfl, _⟩ := h
    rfl
  · obtain ⟨a, ns, k, rfl, hS, hl, k0, k1, q⟩ := h
    refine ⟨_, C8.pss_cut (ps_set (i := 2) scBox.nd rfl (.inl rfl) (pe_ifExp (pt_cmpR op_lt (pv 1) (pe_callB call_len_seq (by rfl) ml PySem.boot_len (pa_cons (pv 0) pa_nil)) (nomark _))
        (pe_ix ix_list (pv 0) (pv 1) (fun _ _ => rfl)) (pe_op op_add (pe_op op_mul pe_int (pv 1)) pe_int)))
      (pss_cons (ps_set (i := 3) scBox.nd rfl (.inl rfl) (pe_op op_mul (pe_op op_mod (pe_callB call_abs (by rfl) ma (by decide +kernel) (pa_cons (pv 2) pa_nil)) (pe_op op_bigpow (pe_op op_bigpow pe_int pe_int) pe_int))
          (pe_callTy call_int1 (by rfl) mi (by decide +kernel) (pa_cons (pe_cmpR op_ge (pe_callB call_abs (by rfl) ma (by decide +kernel) (pa_cons (pv 2) pa_nil)) (pe_op op_bigpow pe_int pe_int) (nomark _)) pa_nil))))
      (pss_one (ps_ret (pe_lst (pa_cons (pv 3) (pa_cons (pe_op op_mod (pe_op op_add (pe_op op_add (pe_op op_mul (pe_op op_mod (pv 2) pe_int) pe_int) (pe_op op_mul (pe_op op_mul pe_int (pv 1)) (pv 1))) pe_int) pe_int) (pa_cons pe_int pa_nil))))))), ?_⟩
    refine ⟨fun σ H' => H' = H ∧ ∃ d : Int, σ = [some (.ref a), some (.int k), some (.int d), none], ?_, fun σ' H' hM => ?_⟩
    · refine ⟨.int k, rfl, .ref a, rfl, a, _, rfl, .inl hS, _, _, rfl, rfl, _, rfl, ite2 (fun e => ?_) (fun e => ?_)⟩
      · have hk : k < (ns.map V.int).length := of_decide_eq_true e
        rw [List.length_map] at hk
        have g : (ns.map V.int)[k.toNat]? = some (.int ns[k.toNat]) := by
          rw [List.getElem?_map, List.getElem?_eq_getElem (by omega)]; rfl
        have ga := atI_nat g
        rw [Int.toNat_of_nonneg k0] at ga
        exact ⟨.ref a, rfl, .int k, rfl, a, _, k, _, rfl, rfl, hS, ga, rfl, _, rfl⟩
      · exact ⟨.int k, rfl, _, _, rfl, rfl, .inl ⟨by decide, by decide⟩, _, _, rfl, rfl, rfl, _, rfl⟩
    · obtain ⟨rfl, d, rfl⟩ := hM
      refine ⟨.int d, rfl, d, rfl, _, _, rfl, rfl, bits60, _, _, rfl, rfl, bits300, _, _, rfl, rfl, by show (0 : Int) < (10 ^ (60 : Int).toNat) ^ (5 : Int).toNat; decide +kernel, ?_⟩
      refine ⟨.int d, rfl, d, rfl, _, _, rfl, rfl, ⟨by decide, by decide +kernel⟩, _, _, rfl, rfl, .inr ⟨_, rfl, _, _, rfl, rfl, .inr ?_, ?_⟩⟩
      · exact flag_small _
      · refine ⟨_, rfl, .int d, rfl, _, _, rfl, rfl, by show (0 : Int) < 2305843009213693951; decide, _, _, rfl, rfl, .inr ⟨by decide, by decide⟩, .int k, rfl, _, _, rfl, rfl, .inl ⟨by decide, by decide⟩, .int k, rfl, _, _, rfl, rfl, .inr ⟨by omega, by omega⟩,
          _, _, rfl, rfl, _, _, rfl, rfl, _, _, rfl, rfl, by show (0 : Int) < 2305843009213693921; decide, by show 3 ≤ sizeLine; decide, fun p hp => q p _ _ hp⟩
end
end Pf
namespace Pf
open PySem PySem.Spec PyProof.Rows L2 Gk
theorem but_local {b D : Addr} {H H1 H2 : Hp} (nD : H D = none) (h : But b H H1) (g : ∀ a o, a ≠ b → a ≠ D → H1 a = some o → H2 a = some o) : But b H H2 := fun a o n e => g a o n (fun z => by rw [z, nD] at e; cases e) (h a o n e)
end Pf
namespace Gk
open PySem PySem.Spec PyProof.Rows L2 PySem.Builtin.Str
/-! ### enumerate of a tuple -/
theorem enum_newT (l : Addr) (its : Array Value) :
    Meets (Builtin.«enumerate.__new__» ⟨[.type "enumerate", .ref l], []⟩) (fun _ R s => Heap.IsTuple s.heap l its ∧
      R (.ok (.ret (.ref (s.heap.push { cls := .type "tuple_iterator", data := .fields #[.ref l, .int 0 0] }).objs.size)))
        { s with heap := (s.heap.push { cls := .type "tuple_iterator", data := .fields #[.ref l, .int 0 0] }).push { cls := .type "enumerate", data := .fields #[.none, .bool false, .ref s.heap.objs.size, rawInt 0, .none, .none] } }) :=
  .of_wp fun prog w A R s h => by
    obtain ⟨hp, g, d, tk, os⟩ := s
    obtain ⟨hL, h⟩ := h
    have hsub := sub_enumerate
    obtain ⟨⟨oc, od, dt, sl⟩, hl, hcl, n, hdt⟩ := id hL
    replace hcl : oc = .type "tuple" := hcl
    replace hdt : dt = .seq its n := hdt
    subst hcl hdt
    wp_walk using wpAny_loadPart' hl
    refine wpAny_stack_any fun st => wpAny_pure ?_
    split
    · rename_i c _ _ _ _ _
      cases (c == Value.type "enumerate") <;>
      · wp_walk using wpAny_loadPart' hl, wpAny_pyIter_tuple hL
        exact ⟨_, rfl, h⟩
    · wp_walk using wpAny_loadPart' hl, wpAny_pyIter_tuple hL
      exact ⟨_, rfl, h⟩
section
variable {prog : Program} {w : World} {A : Around} {E : Value → Shared → Prop} {s : Shared}
theorem enumT {l : Addr} {its : Array Value} {Q : Value → Shared → Prop} (hL : s.heap.IsTuple l its)
    (h : ∀ h', IsEnum h' (s.heap.objs.size + 1) s.heap.objs.size 0 .none → h'.IsTupleIter s.heap.objs.size l 0 → (∀ b o, s.heap.get? b = some o → h'.get? b = some o) → Q (.ref (s.heap.objs.size + 1)) { s with heap := h' }) :
    wpAny (model prog w) A (call (.type "enumerate") [.ref l]) Q E s := by
  refine callType_new F.called_enumerate (by decide) (F.typeCall_enumerate_1 _) (F.newCall_enumerate_1 _) (fun obj => F.args_object_init_2 obj _) F.entry_enumerate_new (enum_newT l its) ⟨hL, ?_⟩
  have hz : (s.heap.push { cls := .type "tuple_iterator", data := .fields #[.ref l, .int 0 0] }).objs.size = s.heap.objs.size + 1 := Heap.size_push ..
  show _ ∧ _
  rw [hz]
  have he : IsEnum ((s.heap.push { cls := .type "tuple_iterator", data := .fields #[.ref l, .int 0 0] }).push { cls := .type "enumerate", data := .fields #[.none, .bool false, .ref s.heap.objs.size, rawInt 0, .none, .none] }) (s.heap.objs.size + 1) s.heap.objs.size 0 .none := by
    have g := Heap.get?_push_size (s.heap.push { cls := .type "tuple_iterator", data := .fields #[.ref l, .int 0 0] }) (o := { cls := .type "enumerate", data := .fields #[.none, .bool false, .ref s.heap.objs.size, rawInt 0, .none, .none] }) rfl
    rw [hz] at g
    exact g
  exact ⟨⟨_, he, rfl⟩, h _ he ⟨_, Heap.get?_push_of_some _ (Heap.get?_push_size _ rfl), rfl, rfl⟩ fun b o x => Heap.get?_push_of_some _ (Heap.get?_push_of_some _ x)⟩
end
def Ient (K : PySem.W.Frag) (a : Addr) (N : Nat) : It := ⟨fun i H => i < N ∧ ∃ xs : List V, SqT K H a xs ∧ xs.length = N,
  fun i H v H' => ∃ T x, v = .ref T ∧ H T = none ∧ (∀ xs, SqT K H a xs → xs[i]? = some x) ∧ H' = upd H T (.tup [.int (i : Nat), x]), fun i H => N ≤ i ∧ ∃ xs : List V, SqT K H a xs ∧ xs.length = N⟩
theorem turn_ent {P : Program} {w : World} {K : PySem.W.Frag} {elts : List Expr} {kk : Nat} {tpos : Pos} (e it a : Addr) (N : Nat) :
    Turn P w K (.Tuple elts kk tpos) (Ient K a N) [e, it] e (fun i h => ((∃ old, IsEnum h e it i old) ∧ h.IsTupleIter it a i) ∧ e ≠ it ∧ i ≤ N) where
  mem := List.mem_cons_self
  obj := fun i h st b hb => by
    obtain ⟨⟨⟨old, he⟩, ⟨o, ho, hc, hd⟩⟩, _⟩ := st
    rcases List.mem_cons.mp hb with rfl | hb
    · exact ⟨_, he, fun v g => nomatch g⟩
    · rw [List.mem_singleton.mp hb]
      exact ⟨o, ho, fun v g => by rw [hd] at g; cases g⟩
  keep := fun i h h' st k => by
    obtain ⟨⟨⟨old, he⟩, ⟨o, ho, hc, hd⟩⟩, hne⟩ := st
    exact ⟨⟨⟨old, k e List.mem_cons_self _ he⟩, o, k it (List.mem_cons_of_mem _ List.mem_cons_self) o ho, hc, hd⟩, hne⟩
  item := by
    intro X hP hw hK hc i pins s σ H E I hf st hg
    subst hP hw hK
    obtain ⟨hlt, xs, hq, hN⟩ := hg
    obtain ⟨st, hne, hi⟩ := st
    obtain ⟨its, rv, tup, hz⟩ := I.tuple hq
    have hlen : its.toArray.size = N := by rw [List.size_toArray, ← hN]; exact rv.length.symm
    have nat : a ≠ it := fun z => by
      obtain ⟨o1, g1, c1, _⟩ := tup
      obtain ⟨_, o2, g2, c2, _⟩ := st
      rw [z, g2] at g1
      cases g1
      rw [c2] at c1
      exact absurd c1 (by decide)
    have D : Draws X.prog X.w X.A.in1 it [it, a] its.toArray.size _ _ := Draws.tuple (show X.A.in1.handled = none from I.ok.hd hc) it a nat its.toArray
    have nea : e ≠ a := fun z => by
      obtain ⟨o1, g1, c1, _⟩ := tup
      obtain ⟨⟨old, g2⟩, _⟩ := st
      rw [z] at g2
      rw [g2] at g1
      cases g1
      exact absurd (show Value.type "enumerate" = Value.type "tuple" from c1) (by decide)
    have W := WalksT.enumerateD D e hne (fun q => (List.mem_cons.mp q).elim hne fun q => nea (List.mem_singleton.mp q)) List.mem_cons_self
    have hel : e < s.heap.objs.size := by obtain ⟨⟨old, he⟩, _⟩ := st; exact Heap.lt_size he
    have hil : it < s.heap.objs.size := by obtain ⟨_, o, ho, _⟩ := st; exact Heap.lt_size ho
    refine W.item i s _ _ (by rw [hlen]; exact hlt) ⟨st.1, st.2, tup⟩ fun T vals h' tk hp hT isT mid hk => ?_
    obtain ⟨t1, x1, hx1, rfl⟩ := hp
    have nT := W.apart i T h' mid
    obtain ⟨y, hy⟩ : ∃ y, xs[i]? = some y := ⟨xs[i]'(by omega), List.getElem?_eq_getElem (by omega)⟩
    obtain ⟨u, hu, ru⟩ := rv.get hy
    have hx1 : its.toArray[i]? = some x1 := hx1
    rw [List.getElem?_toArray, hu] at hx1
    obtain rfl := Option.some.inj hx1
    refine ⟨_, rfl, W.go elts kk tpos i T { s with heap := h', toks := tk } _ _ mid fun h2 st2 hk2 => ?_⟩
    obtain ⟨oT, gT, cT, nTT, dT⟩ := isT
    have gT2 := hk2 T oT nT gT
    have new : ObjOk X.prog X.w (upd H T (.tup [.int (i : Nat), y])) h2 T (.tup [.int (i : Nat), y]) :=
      ⟨by show 2 ≤ sizeLine; decide, [.int i t1, u], .cons ⟨_, rfl⟩ (.cons ru .nil), ⟨oT, gT2, cT, nTT, dT⟩⟩
    have I1 : Inv X pins σ (upd H T (.tup [.int (i : Nat), y])) { s with heap := h2, toks := tk } :=
      I.turnedNew (ch := [e, it]) (fun b ob hb g => hk2 b ob hb (hk b ob hb g)) hf hT new
    refine ⟨.ref T, _, I1, rfl, ⟨T, y, rfl, I.hok.fresh hT, fun ys hys => ?_, rfl⟩, ⟨⟨st2.1, st2.2.1⟩, hne, hlt⟩, fun b hb => ?_⟩
    · rw [I.tuple_inj hys hq]
      exact hy
    · have hb' : b < s.heap.objs.size := by
        rcases List.mem_cons.mp hb with rfl | hb
        · exact hel
        · rw [List.mem_singleton.mp hb]; exact hil
      rw [upd_ne (Nat.ne_of_lt (Nat.lt_of_lt_of_le hb' hT))]
      exact (hf b hb).1
  done := by
    intro X hP hw hK hc i pins s σ H E I hf st hg
    subst hP hw hK
    obtain ⟨hge, xs, hq, hN⟩ := hg
    obtain ⟨st, hne, hi⟩ := st
    obtain ⟨its, rv, tup, hz⟩ := I.tuple hq
    have hlen : its.toArray.size = N := by rw [List.size_toArray, ← hN]; exact rv.length.symm
    obtain rfl : i = N := Nat.le_antisymm hi hge
    have nat : a ≠ it := fun z => by
      obtain ⟨o1, g1, c1, _⟩ := tup
      obtain ⟨_, o2, g2, c2, _⟩ := st
      rw [z, g2] at g1
      cases g1
      rw [c2] at c1
      exact absurd c1 (by decide)
    have nea : e ≠ a := fun z => by
      obtain ⟨o1, g1, c1, _⟩ := tup
      obtain ⟨⟨old, g2⟩, _⟩ := st
      rw [z] at g2
      rw [g2] at g1
      cases g1
      exact absurd (show Value.type "enumerate" = Value.type "tuple" from c1) (by decide)
    have D : Draws X.prog X.w X.A.in1 it [it, a] its.toArray.size _ _ := Draws.tuple (show X.A.in1.handled = none from I.ok.hd hc) it a nat its.toArray
    have W := WalksT.enumerateD D e hne (fun q => (List.mem_cons.mp q).elim hne fun q => nea (List.mem_singleton.mp q)) List.mem_cons_self
    rw [← hlen] at st
    refine W.done s _ _ ⟨st.1, st.2, tup⟩ fun h' tk hk => ⟨rfl, ?_⟩
    exact I.step (g' := s.gens) (d' := s.drawn) (ch := [e, it]) (fun b hb => ⟨(hf b hb).2.2.2.1, (hf b hb).2.1, (hf b hb).2.2.2.2.1, (hf b hb).2.2.2.2.2⟩) (fun b o _ _ hc g _ => hk b o hc g) (fun b o _ _ hc g _ => ⟨o.slots, hk b o hc g⟩)
      (fun _ _ _ _ n => n) (fun b o hc g => ⟨o, hk b o hc g⟩) (fun _ _ g => g) (fun _ _ _ g => g) (fun b ps g => ⟨#[], by rw [g]; simp⟩)
      (fun m hm => by
        obtain ⟨o, es, ep, ho, r⟩ := hm
        exact ⟨o, es, ep, hk _ o (fun q => (hf _ q).2.1 rfl) ho, r⟩)
      (fun b u g => by
        have nb : ∀ c v, H c = some v → c ∉ [e, it] := fun c v g q => by
          have g' := (hf c q).1
          rw [g'] at g; cases g
        refine (I.hok b u g).stay (fun c v hcv q => hk c v ?_ q) (fun _ q => q) fun _ _ q => q
        rcases hcv with rfl | hcv
        · exact nb _ _ g
        · exact nb _ _ hcv) I.bare
  self := fun A i s Q E st h => by
    obtain ⟨⟨⟨old, he⟩, _⟩, _⟩ := st
    exact wpAny_pyIter_enum he h
def iEnumU (K : PySem.W.Frag) (ta : TA) : TI := fun σ H R => ta σ H fun vs H1 => ∃ a xs, vs = [.ref a] ∧ SqT K H1 a xs ∧ R (Ient K a xs.length) H1
theorem pi_enumU {X : Cx} {e : Expr} {ta : TA} {p pos tpos : Pos} {elts : List Expr} {kk : Nat} (hg : Gl X "enumerate") (hm : X.mg "enumerate" = none) (ha : PA X [e] ta) (hs : starEach [e] X.env = [(false, eval e X.env)] := by rfl) :
    PI X (.Tuple elts kk tpos) (.Call (.Name "enumerate" p) [e] [] pos) (iEnumU X.K ta) := by
  refine ⟨fun pins s σ H R I h => Call_ (ld_blt I hg hm boot_enumerate (PyProof.Rows.callWith_type1 (thn (ha.run pos pins s σ H _ I h) fun us s1 ⟨vs, H1, I1, r1, a, xs, ez, hq, q⟩ => ?_) hs rfl))⟩
  subst ez
  obtain ⟨u, rfl, r2⟩ := vals1 r1
  cases r2
  obtain ⟨its, rv, tup, hz⟩ := I1.tuple hq
  refine enumT tup fun h' he hit hk => wpAny_pyIter_enum he ?_
  refine ⟨s1.heap.objs.size + 1, [s1.heap.objs.size + 1, s1.heap.objs.size], _, _, H1, rfl, I1.kept (t' := s1.toks) hk, turn_ent (s1.heap.objs.size + 1) s1.heap.objs.size a xs.length, ⟨⟨⟨.none, he⟩, hit⟩, Nat.succ_ne_self _, Nat.zero_le _⟩, fun b hb => ?_, q⟩
  have hle : s1.heap.objs.size ≤ b := by
    rcases List.mem_cons.mp hb with rfl | hb
    · exact Nat.le_succ _
    · rw [List.mem_singleton.mp hb]
      exact Nat.le_refl _
  exact I1.fpOk hle (I1.hok.fresh hle)
theorem walk_ent {K : PySem.W.Frag} {a : Addr} {xs : List V} : Walk (Ient K a xs.length) xs.length (fun H => SqT K H a xs) (fun i H v H' => ∃ T x, v = .ref T ∧ H T = none ∧ xs[i]? = some x ∧ H' = upd H T (.tup [.int (i : Nat), x])) :=
  ⟨fun i _ hi g => ⟨hi, xs, g, rfl⟩, fun _ g => ⟨Nat.le_refl _, xs, g, rfl⟩, fun i H v H' _ g y => by
    obtain ⟨T, x, h1, h2, h3, h4⟩ := y
    exact ⟨T, x, h1, h2, h3 xs g, h4⟩⟩
end Gk
namespace Gk
open PySem PySem.Spec PyProof.Rows L2
/-- a pair (branch, outcome) -/
def pd (x : Int × Int) : PyData := .tuple [.int x.1, .int x.2]
def PairsAt (K : PySem.W.Frag) (H : Hp) (p : Addr) (l : List (Int × Int)) : Prop := Dp K H (.ref p) (.tuple (l.map pd))
theorem tups_pd : ∀ l : List (Int × Int), tupsAll (l.map pd) = true
  | [] => rfl
  | x :: l => by
    show (tups (pd x) && tupsAll (l.map pd)) = true
    rw [tups_pd l]
    rfl
theorem PairsAt.keep {K : PySem.W.Frag} {H H' : Hp} {p : Addr} {l : List (Int × Int)} (h : PairsAt K H p l) (k : Keep K H H') : PairsAt K H' p l :=
  Dp.keep k _ _ (by simpa only [tups] using tups_pd l) h
theorem pairs_keep {K : PySem.W.Frag} {H H' : Hp} {as : List V} {l : List (Int × Int)} (h : DpAll K H as (l.map pd)) (k : Keep K H H') : DpAll K H' as (l.map pd) := DpAll.keep k _ _ (tups_pd l) h
theorem keep_lst {K : PySem.W.Frag} {H : Hp} {D : Addr} {xs : List V} {o : HO} (h : H D = some (.lst xs)) : Keep K H (upd H D o) := by
  intro a ys g
  rcases g with (g | ⟨u, g⟩) | g
  · exact .inl (.inl (by rw [upd_ne (ne_of g h (fun q => HO.noConfusion q))]; exact g))
  · exact .inl (.inr ⟨u, by rw [upd_ne (ne_of g h (fun q => HO.noConfusion q))]; exact g⟩)
  · exact .inr g
/-- one pair more in the list at D -/
theorem pairs_snoc {K : PySem.W.Frag} {H : Hp} {D T : Addr} {as : List V} {l : List (Int × Int)} {x y : Int} {o : HO} (h : DpAll K H as (l.map pd)) (hD : H D = some (.lst as)) (nT : H T = none) :
    DpAll K (upd (upd H T (.tup [.int x, .int y])) D o) (as ++ [.ref T]) ((l ++ [(x, y)]).map pd) := by
  have nd : D ≠ T := ne_of_none hD nT
  have hD2 : (upd H T (.tup [.int x, .int y])) D = some (.lst as) := by rw [upd_ne nd]; exact hD
  have k := (Same.keep (K := K) (same_new (o := HO.tup [V.int x, V.int y]) nT)).trans (keep_lst (o := o) hD2)
  rw [List.map_append]
  refine DpAll.app (pairs_keep h k) (.cons (.tup (.inl (.inl ?_)) (.cons (.int x) (.cons (.int y) .nil))) .nil)
  rw [upd_ne nd.symm, upd_same]
theorem pair_at {K : PySem.W.Frag} {H : Hp} {v : V} {x : Int × Int} (h : Dp K H v (pd x)) : ∃ a, v = .ref a ∧ SqT K H a [.int x.1, .int x.2] := by
  cases h with
  | tup h1 h2 =>
    cases h2 with
    | cons a b =>
      cases a
      cases b with
      | cons c d =>
        cases c
        cases d
        exact ⟨_, rfl, h1⟩
theorem DpAll.set {K : PySem.W.Frag} {H : Hp} {v : V} {d : PyData} (hv : Dp K H v d) : ∀ {vs : List V} {ds : List PyData} (i : Nat), DpAll K H vs ds → DpAll K H (vs.set i v) (ds.set i d)
  | _, _, _, .nil => .nil
  | _, _, 0, .cons _ t => .cons hv t
  | _, _, i + 1, .cons h t => .cons h (DpAll.set hv i t)
theorem lc_len {K : PySem.W.Frag} {H : Hp} {as : List V} {l : List (Int × Int)} (h : DpAll K H as (l.map pd)) : as.length = l.length := by
  have := DpAll.len h
  rwa [List.length_map] at this
/-- branches and outcomes -/
def Fair (l : List (Int × Int)) : Prop := ∀ x ∈ l, (0 ≤ x.1 ∧ x.1 ≤ 7) ∧ (x.2 = 0 ∨ x.2 = 1)
theorem Fair.nil : Fair [] := fun _ h => (nomatch h)
theorem Fair.snoc {l : List (Int × Int)} {x y : Int} (h : Fair l) (a : 0 ≤ x) (b : x ≤ 7) (c : y = 0 ∨ y = 1) : Fair (l ++ [(x, y)]) := fun z hz => by
  rcases List.mem_append.mp hz with g | g
  · exact h z g
  · rw [List.mem_singleton.mp g]
    exact ⟨⟨a, b⟩, c⟩
theorem Fair.take {l : List (Int × Int)} (h : Fair l) (n : Nat) : Fair (l.take n) := fun x hx => h x (List.mem_of_mem_take hx)
theorem tame_pd : ∀ {l : List (Int × Int)}, Fair l → tameAll (l.map pd) = true
  | [], _ => rfl
  | x :: l, h => by
    have h1 := h x List.mem_cons_self
    show (tame (pd x) && tameAll (l.map pd)) = true
    rw [tame_pd fun z hz => h z (List.mem_cons_of_mem _ hz), Bool.and_true]
    simp only [pd, tame, tameAll, Bool.and_true, Bool.and_eq_true, decide_eq_true_eq]
    omega
theorem cost_pd : ∀ l : List (Int × Int), costAll (l.map pd) = 1 + 144 * l.length
  | [] => rfl
  | x :: l => by
    show cost (pd x) + 1 + costAll (l.map pd) = _
    rw [cost_pd l, List.length_cons]
    simp only [pd, cost, costAll]
    omega
theorem depth_pd : ∀ l : List (Int × Int), PyData.depthAll (l.map pd) ≤ 1
  | [] => by decide
  | x :: l => by
    show max (PyData.depth (pd x)) (PyData.depthAll (l.map pd)) ≤ 1
    have h := depth_pd l
    have h2 : PyData.depth (pd x) = 1 := by simp [pd, PyData.depth, PyData.depthAll]
    omega
end Gk
namespace Gk
open PySem PySem.Spec PyProof.Rows L2
/-! ### data whose equality is being the same -/
mutual
def exa : PyData → Bool
  | .none | .int _ | .str _ => true
  | .list xs | .tuple xs => exaAll xs
  | .bool _ | .dict _ => false
def exaAll : List PyData → Bool
  | [] => true
  | x :: xs => exa x && exaAll xs
end
mutual
theorem eqv_exa : ∀ d e : PyData, exa d = true → exa e = true → PyData.eqv d e = true → d = e
  | .none, .none, _, _, _ => rfl
  | .int i, .int j, _, _, h => by
    simp only [PyData.eqv, beq_iff_eq] at h
    rw [h]
  | .str x, .str y, _, _, h => by
    simp only [PyData.eqv, beq_iff_eq] at h
    rw [h]
  | .list xs, .list ys, a, b, h => by
    simp only [PyData.eqv] at h
    rw [eqv_exaAll xs ys (by simpa only [exa] using a) (by simpa only [exa] using b) h]
  | .tuple xs, .tuple ys, a, b, h => by
    simp only [PyData.eqv] at h
    rw [eqv_exaAll xs ys (by simpa only [exa] using a) (by simpa only [exa] using b) h]
  | .none, .int _, _, _, h | .none, .str _, _, _, h | .none, .list _, _, _, h | .none, .tuple _, _, _, h => by simp [PyData.eqv] at h
  | .int _, .none, _, _, h | .int _, .str _, _, _, h | .int _, .list _, _, _, h | .int _, .tuple _, _, _, h => by simp [PyData.eqv] at h
  | .str _, .none, _, _, h | .str _, .int _, _, _, h | .str _, .list _, _, _, h | .str _, .tuple _, _, _, h => by simp [PyData.eqv] at h
  | .list _, .none, _, _, h | .list _, .int _, _, _, h | .list _, .str _, _, _, h | .list _, .tuple _, _, _, h => by simp [PyData.eqv] at h
  | .tuple _, .none, _, _, h | .tuple _, .int _, _, _, h | .tuple _, .str _, _, _, h | .tuple _, .list _, _, _, h => by simp [PyData.eqv] at h
  | .bool _, _, a, _, _ | .dict _, _, a, _, _ => by simp [exa] at a
  | .none, .bool _, _, b, _ | .none, .dict _, _, b, _ | .int _, .bool _, _, b, _ | .int _, .dict _, _, b, _ | .str _, .bool _, _, b, _ | .str _, .dict _, _, b, _ => by simp [exa] at b
  | .list _, .bool _, _, b, _ | .list _, .dict _, _, b, _ | .tuple _, .bool _, _, b, _ | .tuple _, .dict _, _, b, _ => by simp [exa] at b
theorem eqv_exaAll : ∀ xs ys : List PyData, exaAll xs = true → exaAll ys = true → PyData.eqvAll xs ys = true → xs = ys
  | [], [], _, _, _ => rfl
  | x :: xs, y :: ys, a, b, h => by
    simp only [exaAll, Bool.and_eq_true] at a b
    simp only [PyData.eqvAll, Bool.and_eq_true] at h
    rw [eqv_exa x y a.1 b.1 h.1, eqv_exaAll xs ys a.2 b.2 h.2]
  | [], _ :: _, _, _, h => by simp [PyData.eqvAll] at h
  | _ :: _, [], _, _, h => by simp [PyData.eqvAll] at h
end
theorem eqv_same {d : PyData} (h : tame d = true) : PyData.eqv d d = true := SeqAt.eqv_refl d (tame_lay d h)
/-- an item of a row or of a loop -/
structure Item (d : PyData) : Prop where
  e : exa d = true
  t : tups d = true
  m : tame d = true
  dp : d.depth ≤ 1
  c : cost d ≤ 143
def Plain (ds : List PyData) : Prop := ∀ d ∈ ds, Item d
theorem Plain.exa : ∀ {ds : List PyData}, Plain ds → exaAll ds = true
  | [], _ => rfl
  | x :: xs, h => by
    simp only [exaAll, (h x List.mem_cons_self).e, Plain.exa fun z hz => h z (List.mem_cons_of_mem _ hz), Bool.and_self]
theorem Plain.tups : ∀ {ds : List PyData}, Plain ds → tupsAll ds = true
  | [], _ => rfl
  | x :: xs, h => by
    simp only [tupsAll, (h x List.mem_cons_self).t, Plain.tups fun z hz => h z (List.mem_cons_of_mem _ hz), Bool.and_self]
theorem Plain.tame : ∀ {ds : List PyData}, Plain ds → tameAll ds = true
  | [], _ => rfl
  | x :: xs, h => by
    simp only [tameAll, (h x List.mem_cons_self).m, Plain.tame fun z hz => h z (List.mem_cons_of_mem _ hz), Bool.and_self]
theorem Plain.depth : ∀ {ds : List PyData}, Plain ds → PyData.depthAll ds ≤ 1
  | [], _ => Nat.zero_le _
  | x :: xs, h => by
    have h1 := (h x List.mem_cons_self).dp
    have h2 := Plain.depth fun z hz => h z (List.mem_cons_of_mem _ hz)
    simp only [PyData.depthAll]
    omega
theorem Plain.cost : ∀ {ds : List PyData}, Plain ds → costAll ds ≤ 1 + 144 * ds.length
  | [], _ => by decide
  | x :: xs, h => by
    have h1 := (h x List.mem_cons_self).c
    have h2 := Plain.cost fun z hz => h z (List.mem_cons_of_mem _ hz)
    simp only [costAll, List.length_cons]
    omega
theorem Plain.sub {ds es : List PyData} (h : Plain ds) (s : ∀ d ∈ es, d ∈ ds) : Plain es := fun d hd => h d (s d hd)
theorem Plain.take {ds : List PyData} (h : Plain ds) (n : Nat) : Plain (ds.take n) := h.sub fun _ g => List.mem_of_mem_take g
theorem Plain.drop {ds : List PyData} (h : Plain ds) (n : Nat) : Plain (ds.drop n) := h.sub fun _ g => List.mem_of_mem_drop g
theorem Plain.app {ds es : List PyData} (h : Plain ds) (g : Plain es) : Plain (ds ++ es) := fun d hd => (List.mem_append.mp hd).elim (h d) (g d)
theorem Plain.rep {ds : List PyData} (h : Plain ds) (n : Nat) : Plain (List.replicate n ds).flatten := fun x hx => by
  obtain ⟨m, hm, hx⟩ := List.mem_flatten.mp hx
  rw [(List.mem_replicate.mp hm).2] at hx
  exact h x hx
theorem plain_pd {l : List (Int × Int)} (h : Fair l) : Plain (l.map pd) := fun d hd => by
  obtain ⟨x, hx, rfl⟩ := List.mem_map.mp hd
  have g := h x hx
  refine ⟨rfl, rfl, ?_, by simp [pd, PyData.depth, PyData.depthAll], by simp only [pd, Gk.cost, costAll]; omega⟩
  simp only [pd, Gk.tame, tameAll, Bool.and_true, Bool.and_eq_true, decide_eq_true_eq]
  omega
theorem plain_bits {l : List Int} (h : ∀ o ∈ l, o = 0 ∨ o = 1) : Plain (l.map PyData.int) := fun d hd => by
  obtain ⟨x, hx, rfl⟩ := List.mem_map.mp hd
  have g := h x hx
  refine ⟨rfl, rfl, ?_, by simp [PyData.depth], by simp only [Gk.cost]; omega⟩
  simp only [Gk.tame, decide_eq_true_eq]
  omega
theorem Plain.fine {ds : List PyData} (h : Plain ds) (hl : ds.length ≤ 1000) : Fine (.tuple ds) := by
  have h1 := h.depth
  have h2 := h.cost
  refine Fine.tame (by simpa only [Gk.tame] using h.tame) ?_ ?_
  · simp only [PyData.depth]
    omega
  · simp only [Gk.cost]
    omega
theorem Plain.shaped {ds : List PyData} (h : Plain ds) : SeqAt.shaped (.tuple ds) = true := by
  have h1 := h.depth
  refine tame_shaped (by simpa only [Gk.tame] using h.tame) ?_
  simp only [PyData.depth]
  omega
def ItsAt (K : PySem.W.Frag) (H : Hp) (p : Addr) (ds : List PyData) : Prop := Dp K H (.ref p) (.tuple ds)
theorem ItsAt.keep {K : PySem.W.Frag} {H H' : Hp} {p : Addr} {ds : List PyData} (h : ItsAt K H p ds) (hp : Plain ds) (k : Keep K H H') : ItsAt K H' p ds :=
  Dp.keep k _ _ (by simpa only [Gk.tups] using hp.tups) h
theorem ItsAt.out {K : PySem.W.Frag} {H : Hp} {p : Addr} {ds : List PyData} (h : ItsAt K H p ds) : ∃ xs, SqT K H p xs ∧ DpAll K H xs ds ∧ xs.length = ds.length := by
  cases h with
  | tup a b => exact ⟨_, a, b, DpAll.len b⟩
theorem plain_eq {ds es : List PyData} (h : Plain ds) (g : Plain es) : PyData.eqv (.tuple ds) (.tuple es) = true ↔ ds = es :=
  ⟨fun e => PyData.tuple.inj (eqv_exa _ _ (by simpa only [Gk.exa] using h.exa) (by simpa only [Gk.exa] using g.exa) e), fun e => by
    rw [e]
    exact eqv_same (by simpa only [Gk.tame] using g.tame)⟩

/-! ### roots -/
def Rep {α : Type} (l : List α) (s : Nat) : Prop := (List.replicate (l.length / s) (l.take s)).flatten = l
structure RootIs {α : Type} (l : List α) (s : Nat) : Prop where
  lo : 1 ≤ s
  hi : s ≤ l.length
  rep : Rep l s
  least : ∀ t, 1 ≤ t → t < s → ¬ Rep l t
theorem flat_len {α : Type} (n : Nat) (l : List α) : ((List.replicate n l).flatten).length = n * l.length := by
  induction n with
  | zero => simp
  | succ n ih => rw [List.replicate_succ, List.flatten_cons, List.length_append, ih, Nat.succ_mul, Nat.add_comm]
theorem Rep.many {α : Type} {l : List α} {s : Nat} (h : Rep l s) (hs : s ≤ l.length) : s * (l.length / s) = l.length := by
  have e := congrArg List.length h
  rw [flat_len, List.length_take, Nat.min_eq_left hs, Nat.mul_comm] at e
  exact e
theorem RootIs.one {α : Type} {l : List α} {s t : Nat} (a : RootIs l s) (b : RootIs l t) : s = t := by
  by_cases h : s < t
  · exact absurd a.rep (b.least s a.lo h)
  · by_cases g : t < s
    · exact absurd b.rep (a.least t b.lo g)
    · omega
theorem rep_all {α : Type} {l : List α} (h : 1 ≤ l.length) : Rep l l.length := by
  unfold Rep
  rw [Nat.div_self h, List.take_length]
  show [l].flatten = l
  simp
theorem flat_mul {α : Type} (x : List α) (k : Nat) : ∀ m : Nat, (List.replicate m (List.replicate k x).flatten).flatten = (List.replicate (m * k) x).flatten
  | 0 => by simp
  | m + 1 => by
    rw [List.replicate_succ, List.flatten_cons, flat_mul x k m, Nat.succ_mul, Nat.add_comm (m * k) k, ← List.replicate_append_replicate, List.flatten_append]
theorem root_again {α : Type} {l : List α} {s t : Nat} (a : RootIs l s) (b : RootIs (l.take s) t) : t = s := by
  have hl : (l.take s).length = s := by rw [List.length_take]; exact Nat.min_eq_left a.hi
  have ht : t ≤ s := by have := b.hi; rwa [hl] at this
  by_cases h : t < s
  · refine absurd ?_ (a.least t b.lo h)
    have r1 := a.rep
    have r2 := b.rep
    have m1 := Rep.many a.rep a.hi
    have m2 := Rep.many b.rep b.hi
    rw [hl] at m2
    unfold Rep at r1 r2 ⊢
    rw [hl] at r2
    have e1 : l.length / t = l.length / s * (s / t) := by
      have : l.length = t * (l.length / s * (s / t)) := by
        have h2 : t * (s / t) * (l.length / s) = l.length := by
          rw [m2]
          exact m1
        rw [Nat.mul_comm (l.length / s) (s / t), ← Nat.mul_assoc]
        exact h2.symm
      exact Nat.div_eq_of_eq_mul_right b.lo this
    have e2 : (l.take s).take t = l.take t := by rw [List.take_take, Nat.min_eq_left ht]
    rw [e2] at r2
    rw [e1, ← flat_mul, r2, r1]
  · omega
/-! ### turned -/
def rot {α : Type} (l : List α) (k : Nat) : List α := l.drop k ++ l.take k
theorem rot_len {α : Type} (l : List α) (k : Nat) : (rot l k).length = l.length := by
  unfold rot
  rw [List.length_append, List.length_drop, List.length_take]
  omega
theorem rot_at {α : Type} {l : List α} {k i : Nat} (hk : k < l.length) (hi : i < l.length) : (rot l k)[i]? = l[(i + k) % l.length]? := by
  unfold rot
  by_cases h : i < l.length - k
  · rw [List.getElem?_append_left (by rw [List.length_drop]; exact h), List.getElem?_drop, Nat.mod_eq_of_lt (by omega), Nat.add_comm]
  · rw [List.getElem?_append_right (by rw [List.length_drop]; omega), List.length_drop, List.getElem?_take_of_lt (by omega)]
    have : (i + k) % l.length = i - (l.length - k) := by
      rw [Nat.mod_eq_sub_mod (by omega), Nat.mod_eq_of_lt (by omega)]
      omega
    rw [this]
theorem rot_back {α : Type} {l : List α} {j k : Nat} (hk : k < l.length) (h : (j = 0 ∧ k = 0) ∨ j + k = l.length) : rot (rot l k) j = l := by
  rcases h with ⟨rfl, rfl⟩ | h
  · unfold rot
    simp
  · have hj : (l.drop k).length = j := by rw [List.length_drop]; omega
    show (rot l k).drop j ++ (rot l k).take j = l
    unfold rot
    rw [← hj, List.drop_left, List.take_left, List.take_append_drop]
/-! ### rules whose written part is named -/
def rLen2 (K : PySem.W.Frag) : List V → Hp → VK → Prop := fun xs H Q => ∃ p ys, xs = [.ref p] ∧ (SqL K H p ys ∨ SqT K H p ys) ∧ Q (.int ys.length) H
theorem call_lenK {X : Cx} (K : PySem.W.Frag) (h : X.K = K := by rfl) : CallR X (.builtin "len") (rLen2 K) := by
  subst h
  exact call_len_seq
theorem ix_tupK {X : Cx} (K : PySem.W.Frag) (h : X.K = K := by rfl) : IxR X (rIxT K) := by
  subst h
  exact ix_tup
theorem ix_listK {X : Cx} (K : PySem.W.Frag) (h : X.K = K := by rfl) : IxR X (rIxL K) := by
  subst h
  exact ix_list
end Gk
namespace Gk
open PySem PySem.Spec PyProof.Rows L2
/-! ### values of any kind: data with lists and dicts, away from what changes -/
mutual
inductive Dv (M : Addr → Prop) (K : PySem.W.Frag) (H : Hp) : V → PyData → Prop
  | non : Dv M K H .non .none
  | bl (b : Bool) : Dv M K H (.bl b) (.bool b)
  | int (i : Int) : Dv M K H (.int i) (.int i)
  | str (x : Str) : Dv M K H (.str x) (.str x)
  | lst {a : Addr} {xs : List V} {ds : List PyData} : H a = some (.lst xs) → ¬ M a → (a == sysModules) = false → DvAll M K H xs ds → Dv M K H (.ref a) (.list ds)
  | tup {a : Addr} {xs : List V} {ds : List PyData} : Rd H a (.tup xs) → ¬ M a → DvAll M K H xs ds → Dv M K H (.ref a) (.tuple ds)
  | tupK {a : Addr} {xs : List V} {ds : List PyData} : (∃ (o : Obj) (its : Array Value) (n : Nat), K.lookup a = some o ∧ o.cls = .type "tuple" ∧ o.data = .seq its n ∧ its.size ≤ sizeLine ∧ Vals xs its.toList) → DvAll M K H xs ds → Dv M K H (.ref a) (.tuple ds)
  | dct {a : Addr} {kvs : List (Key × V)} {ks : List Str} {xs : List V} {ds : List PyData} : H a = some (.dK kvs) → ¬ M a → kvs = (ks.map Sum.inr).zip xs → ks.length = ds.length → DvAll M K H xs ds →
      Dv M K H (.ref a) (.dict ((ks.map PyData.str).zip ds))
inductive DvAll (M : Addr → Prop) (K : PySem.W.Frag) (H : Hp) : List V → List PyData → Prop
  | nil : DvAll M K H [] []
  | cons {v : V} {vs : List V} {d : PyData} {ds : List PyData} : Dv M K H v d → DvAll M K H vs ds → DvAll M K H (v :: vs) (d :: ds)
end
/-- what does not belong to M stays -/
def Off (M : Addr → Prop) (H H' : Hp) : Prop := ∀ a o, ¬ M a → H a = some o → H' a = some o
theorem Off.refl {M : Addr → Prop} {H : Hp} : Off M H H := fun _ _ _ h => h
theorem Off.trans {M : Addr → Prop} {H H1 H2 : Hp} (x : Off M H H1) (y : Off M H1 H2) : Off M H H2 := fun a o n h => y a o n (x a o n h)
theorem Off.same {M : Addr → Prop} {H H' : Hp} (s : Same H H') : Off M H H' := fun a o _ h => s a o h
theorem Off.but {M : Addr → Prop} {H H' : Hp} {b : Addr} (s : But b H H') (hb : M b) : Off M H H' := fun a o n h => s a o (fun z => n (by rw [z]; exact hb)) h
theorem Off.mut {M : Addr → Prop} {H : Hp} {D : Addr} {o : HO} (hb : M D) : Off M H (upd H D o) := fun a u n h => by
  rw [upd_ne (fun z => n (by rw [z]; exact hb))]
  exact h
theorem Off.rd {M : Addr → Prop} {H H' : Hp} {a : Addr} {o : HO} (k : Off M H H') (n : ¬ M a) (h : Rd H a o) : Rd H' a o := h.elim (fun h => .inl (k _ _ n h)) fun ⟨ob, h⟩ => .inr ⟨ob, k _ _ n h⟩
theorem rd_some {H : Hp} {a : Addr} {o : HO} (h : Rd H a o) : ∃ u, H a = some u := h.elim (fun h => ⟨_, h⟩) fun ⟨ob, h⟩ => ⟨_, h⟩
mutual
theorem Dv.keep {M M' : Addr → Prop} {K : PySem.W.Frag} {H H' : Hp} (k : Off M H H') (m : ∀ a o, H a = some o → ¬ M a → ¬ M' a) : ∀ {v : V} {d : PyData}, Dv M K H v d → Dv M' K H' v d
  | _, _, .non => .non
  | _, _, .bl b => .bl b
  | _, _, .int i => .int i
  | _, _, .str x => .str x
  | _, _, .lst h n s r => .lst (k _ _ n h) (m _ _ h n) s (DvAll.keep k m r)
  | _, _, .tup h n r => .tup (k.rd n h) (let ⟨_, e⟩ := rd_some h; m _ _ e n) (DvAll.keep k m r)
  | _, _, .tupK h r => .tupK h (DvAll.keep k m r)
  | _, _, .dct h n e l r => .dct (k _ _ n h) (m _ _ h n) e l (DvAll.keep k m r)
theorem DvAll.keep {M M' : Addr → Prop} {K : PySem.W.Frag} {H H' : Hp} (k : Off M H H') (m : ∀ a o, H a = some o → ¬ M a → ¬ M' a) : ∀ {vs : List V} {ds : List PyData}, DvAll M K H vs ds → DvAll M' K H' vs ds
  | _, _, .nil => .nil
  | _, _, .cons h t => .cons (Dv.keep k m h) (DvAll.keep k m t)
end
section
variable {M : Addr → Prop} {K : PySem.W.Frag} {H H' : Hp}
theorem Dv.off {v : V} {d : PyData} (h : Dv M K H v d) (k : Off M H H') : Dv M K H' v d := h.keep k fun _ _ _ n => n
theorem DvAll.off {vs : List V} {ds : List PyData} (h : DvAll M K H vs ds) (k : Off M H H') : DvAll M K H' vs ds := h.keep k fun _ _ _ n => n
theorem DvAll.len : ∀ {vs : List V} {ds : List PyData}, DvAll M K H vs ds → vs.length = ds.length
  | _, _, .nil => rfl
  | _, _, .cons _ t => by rw [List.length_cons, List.length_cons, DvAll.len t]
theorem DvAll.take : ∀ {vs : List V} {ds : List PyData} (n : Nat), DvAll M K H vs ds → DvAll M K H (vs.take n) (ds.take n)
  | _, _, 0, _ => .nil
  | _, _, _ + 1, .nil => .nil
  | _, _, n + 1, .cons h t => .cons h (DvAll.take n t)
theorem DvAll.drop : ∀ {vs : List V} {ds : List PyData} (n : Nat), DvAll M K H vs ds → DvAll M K H (vs.drop n) (ds.drop n)
  | _, _, 0, h => h
  | _, _, _ + 1, .nil => .nil
  | _, _, n + 1, .cons _ t => DvAll.drop n t
theorem DvAll.app : ∀ {vs us : List V} {ds es : List PyData}, DvAll M K H vs ds → DvAll M K H us es → DvAll M K H (vs ++ us) (ds ++ es)
  | _, _, _, _, .nil, h => h
  | _, _, _, _, .cons h t, h2 => .cons h (DvAll.app t h2)
theorem DvAll.rev : ∀ {vs : List V} {ds : List PyData}, DvAll M K H vs ds → DvAll M K H vs.reverse ds.reverse
  | _, _, .nil => .nil
  | _, _, .cons h t => by
    rw [List.reverse_cons, List.reverse_cons]
    exact DvAll.app (DvAll.rev t) (.cons h .nil)
theorem DvAll.at : ∀ {vs : List V} {ds : List PyData} {i : Nat} {v : V}, DvAll M K H vs ds → vs[i]? = some v → ∃ d, ds[i]? = some d ∧ Dv M K H v d
  | _, _, _, _, .nil, h => by simp at h
  | _, _, 0, _, .cons h _, e => by
    obtain rfl := Option.some.inj e
    exact ⟨_, rfl, h⟩
  | _, _, i + 1, _, .cons _ t, e => DvAll.at (i := i) t (by simpa using e)
end
/-- the keys and the values of a dict's entries, as they are read -/
theorem pairs_reads {P : Program} {w : World} {h : Heap} : ∀ {es : List DictEntry} {ks : List Str} {xs : List V} {vs : List (Key × Value)} {us : List Value}, ks.length = xs.length → KV ((ks.map Sum.inr).zip xs) vs → Pairs (mixKind P w) es vs →
    (∃ us, Vals xs us ∧ es.map (·.val) = us) ∧ ReadsAll h (es.map (·.key)) (ks.map PyData.str) []
  | es, [], [], vs, us, _, r, p => by
    cases r
    cases p
    exact ⟨⟨[], .nil, rfl⟩, .nil⟩
  | es, k :: ks, x :: xs, vs, us, l, r, p => by
    cases r with
    | cons r1 r2 =>
      cases p with
      | cons p1 p2 p3 =>
        obtain ⟨⟨us', v', e'⟩, rd⟩ := pairs_reads (us := []) (by simpa using l) r2 p3
        obtain ⟨r1a, r1b⟩ := r1
        refine ⟨⟨_ :: us', .cons r1b v', by rw [List.map_cons, e', p2]⟩, ?_⟩
        rw [← r1a] at p1
        have p1' : Value.isStrOf k _ = true := p1
        obtain ⟨t, et⟩ := Value.isStrOf_shape p1'
        rw [List.map_cons, List.map_cons, et]
        exact ReadsAll.cons (as := []) (bs := []) (Reads.str k t) rd
  | _, [], _ :: _, _, _, l, _, _ => by simp at l
  | _, _ :: _, [], _, _, l, _, _ => by simp at l
section
variable {X : Cx} {M : Addr → Prop} {pins : List (Addr × Obj)} {σ : L2.St} {H : Hp} {s : Shared}
mutual
theorem Dv.reads (I : Inv X pins σ H s) : ∀ {v : V} {d : PyData} {u : Value}, Dv M X.K H v d → RelV v u → ∃ as, Reads s.heap u d as ∧ sysModules ∉ as
  | _, _, u, .non, r => by cases r; exact ⟨[], .none, fun z => nomatch z⟩
  | _, _, u, .bl b, r => by cases r; exact ⟨[], .bool b, fun z => nomatch z⟩
  | _, _, u, .int i, r => by obtain ⟨t, rfl⟩ := r; exact ⟨[], .int i t, fun z => nomatch z⟩
  | _, _, u, .str x, r => by obtain ⟨t, rfl⟩ := r; exact ⟨[], .str x t, fun z => nomatch z⟩
  | _, _, u, .lst (a := a) h n sm ra, r => by
    cases r
    obtain ⟨hz, its, k, rv, ho⟩ := I.hok _ _ h
    obtain ⟨as, rd, na⟩ := DvAll.reads I ra rv
    refine ⟨a :: as, .list ho rfl rfl (by simpa using rd), fun z => ?_⟩
    rcases List.mem_cons.mp z with z | z
    · rw [z] at sm
      exact absurd sm (by simp)
    · exact na z
  | _, _, u, .tup h n ra, r => by
    cases r
    obtain ⟨its, rv, ⟨o, ho, hc, k, hd⟩, _⟩ := I.tuple (.inl h)
    obtain ⟨as, rd, na⟩ := DvAll.reads I ra rv
    exact ⟨as, .tuple ho hc hd (by simpa using rd), na⟩
  | _, _, u, .tupK h ra, r => by
    cases r
    obtain ⟨its, rv, ⟨o, ho, hc, k, hd⟩, _⟩ := I.tuple (.inr h)
    obtain ⟨as, rd, na⟩ := DvAll.reads I ra rv
    exact ⟨as, .tuple ho hc hd (by simpa using rd), na⟩
  | _, _, u, .dct (a := a) (ks := ks) (xs := xs) h n e l ra, r => by
    cases r
    obtain ⟨hz, sm, vs, kv, o, es, ep, ho, ex, hd, _, ps, _⟩ := I.hok _ _ h
    rw [e] at kv
    have hl := DvAll.len ra
    obtain ⟨⟨us, vu, eu⟩, rk⟩ := pairs_reads (P := X.prog) (w := X.w) (h := s.heap) (us := []) (l.trans hl.symm) kv ps
    obtain ⟨as, rd, na⟩ := DvAll.reads I ra vu
    rw [← eu] at rd
    refine ⟨a :: [] ++ as, .dict ho ex.1 hd ?_ ?_, fun z => ?_⟩
    · rw [List.map_fst_zip (by rw [List.length_map]; omega)]
      exact rk
    · rw [List.map_snd_zip (by rw [List.length_map]; omega)]
      exact rd
    · rcases List.mem_cons.mp z with z | z
      · rw [z] at sm
        exact absurd sm (by simp)
      · exact na z
theorem DvAll.reads (I : Inv X pins σ H s) : ∀ {vs : List V} {ds : List PyData} {us : List Value}, DvAll M X.K H vs ds → Vals vs us → ∃ as, ReadsAll s.heap us ds as ∧ sysModules ∉ as
  | _, _, _, .nil, r => by cases r; exact ⟨[], .nil, fun z => nomatch z⟩
  | _, _, _, .cons h t, r => by
    cases r with
    | cons r1 r2 =>
      obtain ⟨as, q1, n1⟩ := Dv.reads I h r1
      obtain ⟨bs, q2, n2⟩ := DvAll.reads I t r2
      exact ⟨as ++ bs, .cons q1 q2, fun z => (List.mem_append.mp z).elim n1 n2⟩
end
end
end Gk
namespace Gk
open PySem PySem.Spec PyProof.Rows L2
mutual
def fin : PyData → Nat → Bool
  | .none, _ | .bool _, _ => true
  | .int i, B => decide (i.natAbs ≤ B)
  | .str x, _ => x.cps.all (· < 0x110000)
  | .list xs, B | .tuple xs, B => finAll xs B
  | .dict kvs, B => finKv kvs B
def finAll : List PyData → Nat → Bool
  | [], _ => true
  | x :: xs, B => fin x B && finAll xs B
def finKv : List (PyData × PyData) → Nat → Bool
  | [], _ => true
  | (k, v) :: r, B => fin k B && fin v B && finKv r B
end
mutual
def big : PyData → Nat
  | .none | .bool _ | .int _ => 70
  | .str x => x.cps.size + 1
  | .list xs | .tuple xs => bigAll xs
  | .dict kvs => bigKv kvs
def bigAll : List PyData → Nat
  | [] => 1
  | x :: xs => big x + 1 + bigAll xs
def bigKv : List (PyData × PyData) → Nat
  | [] => 1
  | (k, v) :: r => big k + big v + 2 + bigKv r
end
mutual
theorem fin_facts {B : Nat} (hB : B < 10 ^ 20) : ∀ d : PyData, fin d B = true → d.showable = true ∧ d.leavesShort 21 = true ∧ d.weight ≤ big d
  | .none, _ => ⟨rfl, rfl, Nat.zero_le _⟩
  | .bool _, _ => ⟨rfl, rfl, Nat.zero_le _⟩
  | .int i, h => by
    simp only [fin, decide_eq_true_eq] at h
    have h1 := int_log20 (c := i) (by omega)
    have h2 := int_len20 (c := i) (by omega)
    refine ⟨?_, ?_, ?_⟩
    · simp only [PyData.showable]
      exact decide_eq_true (by omega)
    · simp only [PyData.leavesShort]
      exact decide_eq_true h2
    · simp only [PyData.weight, big]
      split <;> omega
  | .str x, h => by
    have h1 : tame (.str x) = true := by simpa only [fin, tame] using h
    exact ⟨rfl, tame_short _ h1, by simp only [PyData.weight, big]; omega⟩
  | .list xs, h => by
    have := fin_factsAll hB xs (by simpa only [fin] using h)
    simpa only [PyData.showable, PyData.leavesShort, PyData.weight, big] using this
  | .tuple xs, h => by
    have := fin_factsAll hB xs (by simpa only [fin] using h)
    simpa only [PyData.showable, PyData.leavesShort, PyData.weight, big] using this
  | .dict kvs, h => by
    have := fin_factsKv hB kvs (by simpa only [fin] using h)
    simpa only [PyData.showable, PyData.leavesShort, PyData.weight, big] using this
theorem fin_factsAll {B : Nat} (hB : B < 10 ^ 20) : ∀ ds : List PyData, finAll ds B = true → PyData.showableAll ds = true ∧ PyData.leavesShortAll 21 ds = true ∧ PyData.weightAll ds ≤ bigAll ds
  | [], _ => ⟨rfl, rfl, Nat.zero_le _⟩
  | x :: xs, h => by
    simp only [finAll, Bool.and_eq_true] at h
    obtain ⟨a1, a2, a3⟩ := fin_facts hB x h.1
    obtain ⟨b1, b2, b3⟩ := fin_factsAll hB xs h.2
    refine ⟨by simp only [PyData.showableAll, a1, b1, Bool.and_self], by simp only [PyData.leavesShortAll, a2, b2, Bool.and_self], ?_⟩
    simp only [PyData.weightAll, bigAll]
    omega
theorem fin_factsKv {B : Nat} (hB : B < 10 ^ 20) : ∀ kvs : List (PyData × PyData), finKv kvs B = true → PyData.showableKv kvs = true ∧ PyData.leavesShortKv 21 kvs = true ∧ PyData.weightKv kvs ≤ bigKv kvs
  | [], _ => ⟨rfl, rfl, Nat.zero_le _⟩
  | (k, v) :: r, h => by
    simp only [finKv, Bool.and_eq_true] at h
    obtain ⟨a1, a2, a3⟩ := fin_facts hB k h.1.1
    obtain ⟨c1, c2, c3⟩ := fin_facts hB v h.1.2
    obtain ⟨b1, b2, b3⟩ := fin_factsKv hB r h.2
    refine ⟨by simp only [PyData.showableKv, a1, b1, c1, Bool.and_self], by simp only [PyData.leavesShortKv, a2, b2, c2, Bool.and_self], ?_⟩
    simp only [PyData.weightKv, bigKv]
    omega
end
/-- data that may be shown, of any kind -/
structure Show (d : PyData) : Prop where
  a : d.showable = true
  c : d.depth ≤ 40
  e : d.shown.length ≤ sizeLine
theorem Show.of {d : PyData} {B : Nat} (hB : B < 10 ^ 20) (h : fin d B = true) (hd : d.depth ≤ 40) (hc : big d ≤ 500000) : Show d := by
  obtain ⟨a1, a2, a3⟩ := fin_facts hB d h
  refine ⟨a1, hd, ?_⟩
  have h1 := PyData.shown_le 21 (by decide) d a2
  have h3 : sizeLine = 16777216 := sizeLine_eq
  omega
theorem call_reprV {X : Cx} {k : Nat} (M : Addr → Prop) (hr : Room k X.A) (hg : X.A.guards = some []) : CallR X (.builtin "repr") (fun xs H Q => ∃ v d, xs = [v] ∧ Dv M X.K H v d ∧ Show d ∧ Q (.str d.shown) H) := by
  intro pins s σ H xs us Q I r h
  obtain ⟨v, d, rfl, hd, sh, q⟩ := h
  obtain ⟨u, rfl, ru⟩ := vals1 r
  have hun := hr.units
  have hc := sh.c
  obtain ⟨as, rd, na⟩ := Dv.reads I hd ru
  cases hd with
  | non =>
    cases ru
    exact PySem.P.repr_of_none ⟨.str _, H, I.tok _, ⟨_, rfl⟩, q⟩
  | bl b =>
    cases ru
    exact PySem.P.repr_of_bool ⟨.str _, H, I.tok _, ⟨_, rfl⟩, q⟩
  | int i =>
    obtain ⟨t, rfl⟩ := ru
    exact PySem.P.repr_of_int (of_decide_eq_true sh.a) ⟨.str _, H, I.tok _, ⟨_, rfl⟩, q⟩
  | str x =>
    obtain ⟨t, rfl⟩ := ru
    exact PySem.P.repr_of_str ⟨.str _, H, I.tok _, ⟨_, rfl⟩, q⟩ sh.e
  | lst _ _ _ _ =>
    cases ru
    exact repr_of_reads' rd sh.a (fun _ => na) hg (by omega) (fun _ _ e => e) (fun h' t tk hk => ⟨.str _, H, I.kept (t' := tk) hk, ⟨_, rfl⟩, q⟩) sh.e
  | tupK _ _ =>
    cases ru
    exact repr_of_reads' rd sh.a (fun _ => na) hg (by omega) (fun _ _ e => e) (fun h' t tk hk => ⟨.str _, H, I.kept (t' := tk) hk, ⟨_, rfl⟩, q⟩) sh.e
  | tup _ _ _ =>
    cases ru
    exact repr_of_reads' rd sh.a (fun _ => na) hg (by omega) (fun _ _ e => e) (fun h' t tk hk => ⟨.str _, H, I.kept (t' := tk) hk, ⟨_, rfl⟩, q⟩) sh.e
  | dct _ _ _ _ _ =>
    cases ru
    exact repr_of_reads' rd sh.a (fun _ => na) hg (by omega) (fun _ _ e => e) (fun h' t tk hk => ⟨.str _, H, I.kept (t' := tk) hk, ⟨_, rfl⟩, q⟩) sh.e
/-- a list of written items, its place told apart from the table of modules -/
def tLstN (t : TA) : TE := fun σ H Q => t σ H fun xs H1 => xs.length ≤ sizeLine ∧ ∀ p, H1 p = none → (p == sysModules) = false → Q (.ref p) (upd H1 p (.lst xs))
theorem not_modules {X : Cx} {pins : List (Addr × Obj)} {σ : L2.St} {H : Hp} {s : Shared} (I : Inv X pins σ H s) : (s.heap.objs.size == sysModules) = false := beq_eq_false_iff_ne.mpr (Nat.ne_of_gt I.big)
theorem pe_lstN {X : Cx} {es : List Expr} {t : TA} {pos : Pos} (h : PA X es t) : PE X (.List es pos) (tLstN t) :=
  ⟨fun pins s σ H Q I hq => wpAny_List_spliced (thn (h.run pos pins s σ H _ I hq) fun us s1 ⟨xs, H1, I1, r, z, q⟩ => ⟨by rw [← r.length]; exact z, .ref s1.heap.objs.size, upd H1 s1.heap.objs.size (.lst xs),
    I1.laid (t' := s1.toks) (fun b u e => Heap.get?_push_of_some _ e) (Nat.le_refl _) ⟨z, us, 0, r, Heap.get?_push_size _ rfl⟩, rfl, q _ (I1.hok.fresh (Nat.le_refl _)) (not_modules I1)⟩)⟩
/-- what isinstance says of such a value -/
def tyD : PyData → Value
  | .none => .type "NoneType"
  | .bool _ => .type "bool"
  | .int _ => .type "int"
  | .str _ => .type "str"
  | .list _ => .type "list"
  | .tuple _ => .type "tuple"
  | .dict _ => .type "dict"
theorem Dv.ty {M : Addr → Prop} {K : PySem.W.Frag} {H : Hp} {v : V} {d : PyData} (h : Dv M K H v d) : TyX K H v (tyD d) := by
  cases h with
  | non => exact .base .non
  | bl b => exact .base (.bl b)
  | int i => exact .base (.int i)
  | str x => exact .base (.str x)
  | lst h _ _ _ => exact .base (.lst h)
  | tup h _ _ =>
    rcases h with h | ⟨o, h⟩
    · exact .base (.tup h)
    · exact .fTuple h
  | tupK h _ =>
    obtain ⟨o, _, _, e, c, _⟩ := h
    exact .kTuple e c
  | dct h _ _ _ _ => exact .base (.dK h)
def isTup : PyData → Bool
  | .tuple _ => true
  | _ => false
def isIn : PyData → Bool
  | .int _ | .bool _ => true
  | _ => false
def isBo : PyData → Bool
  | .bool _ => true
  | _ => false
theorem kit_tup {K : PySem.W.Frag} (d : PyData) : PySem.W.kitOne K (tyD d) (.type "tuple") = some (isTup d) := by
  have t : ∀ x ∈ ["NoneType", "bool", "int", "str", "list", "dict"], kitB x "tuple" = some false := by decide +kernel
  cases d with
  | none => exact L2.kit_ty (t "NoneType" (by decide))
  | bool _ => exact L2.kit_ty (t "bool" (by decide))
  | int _ => exact L2.kit_ty (t "int" (by decide))
  | str _ => exact L2.kit_ty (t "str" (by decide))
  | list _ => exact L2.kit_ty (t "list" (by decide))
  | dict _ => exact L2.kit_ty (t "dict" (by decide))
  | tuple _ => exact L2.kit_ty (show kitB "tuple" "tuple" = some true by decide +kernel)
theorem kit_int {K : PySem.W.Frag} (d : PyData) : PySem.W.kitOne K (tyD d) (.type "int") = some (isIn d) := by
  have t : ∀ x ∈ ["NoneType", "str", "list", "tuple", "dict"], kitB x "int" = some false := by decide +kernel
  have u : ∀ x ∈ ["bool", "int"], kitB x "int" = some true := by decide +kernel
  cases d with
  | none => exact L2.kit_ty (t "NoneType" (by decide))
  | bool _ => exact L2.kit_ty (u "bool" (by decide))
  | int _ => exact L2.kit_ty (u "int" (by decide))
  | str _ => exact L2.kit_ty (t "str" (by decide))
  | list _ => exact L2.kit_ty (t "list" (by decide))
  | dict _ => exact L2.kit_ty (t "dict" (by decide))
  | tuple _ => exact L2.kit_ty (t "tuple" (by decide))
theorem kit_bool {K : PySem.W.Frag} (d : PyData) : PySem.W.kitOne K (tyD d) (.type "bool") = some (isBo d) := by
  have t : ∀ x ∈ ["NoneType", "int", "str", "list", "tuple", "dict"], kitB x "bool" = some false := by decide +kernel
  cases d with
  | none => exact L2.kit_ty (t "NoneType" (by decide))
  | int _ => exact L2.kit_ty (t "int" (by decide))
  | str _ => exact L2.kit_ty (t "str" (by decide))
  | list _ => exact L2.kit_ty (t "list" (by decide))
  | dict _ => exact L2.kit_ty (t "dict" (by decide))
  | tuple _ => exact L2.kit_ty (t "tuple" (by decide))
  | bool _ => exact L2.kit_ty (show kitB "bool" "bool" = some true by decide +kernel)
end Gk
namespace Gk
open PySem PySem.Spec PyProof.Rows L2
/-! ### expressions that make data -/
theorem same_new2 {H : Hp} {p : Addr} {o o' : HO} (h : H p = none) : Same H (upd (upd H p o) p o') := fun a u e => by
  rw [upd_ne (ne_of_none e h), upd_ne (ne_of_none e h)]; exact e
/-- what M speaks of stands on the heap -/
def Stands (M : Addr → Prop) (H : Hp) : Prop := ∀ a, M a → ∃ o, H a = some o
theorem Stands.same {M : Addr → Prop} {H H' : Hp} (h : Stands M H) (s : Same H H') : Stands M H' := fun a m => by
  obtain ⟨o, e⟩ := h a m
  exact ⟨o, s _ _ e⟩
theorem Stands.new {M : Addr → Prop} {H : Hp} {p : Addr} (h : Stands M H) (n : H p = none) : ¬ M p := fun m => by
  obtain ⟨o, e⟩ := h p m
  rw [n] at e; cases e
def Mk (M : Addr → Prop) (K : PySem.W.Frag) (t : TE) (σ : L2.St) (H0 : Hp) (d : PyData) : Prop :=
  ∀ (H : Hp) (M' : Addr → Prop) (Q : VK), Same H0 H → (∀ a, M a → M' a) → (∀ a, M' a → M a ∨ H0 a = none) → Stands M' H → (∀ v H', Same H H' → Dv M' K H' v d → Q v H') → t σ H Q
def MkA (M : Addr → Prop) (K : PySem.W.Frag) (t : TA) (σ : L2.St) (H0 : Hp) (ds : List PyData) : Prop :=
  ∀ (H : Hp) (M' : Addr → Prop) (Q : List V → Hp → Prop), Same H0 H → (∀ a, M a → M' a) → (∀ a, M' a → M a ∨ H0 a = none) → Stands M' H → (∀ vs H', Same H H' → DvAll M' K H' vs ds → Q vs H') → t σ H Q
theorem none_of {H H' : Hp} {p : Addr} (s : Same H H') (n : H' p = none) : H p = none := by
  cases e : H p with
  | none => rfl
  | some o => rw [s _ _ e] at n; cases n
section
variable {M : Addr → Prop} {K : PySem.W.Frag} {σ : L2.St} {H0 : Hp}
theorem mk_c {v : V} {d : PyData} (h : ∀ M H, Dv M K H v d) : Mk M K (tC v) σ H0 d := fun H M' Q s u w z q => q _ _ (Same.refl _) (h M' H)
theorem mk_int {i : Int} : Mk M K (tC (.int i)) σ H0 (.int i) := mk_c fun _ _ => .int i
theorem mk_str {x : Str} : Mk M K (tC (.str x)) σ H0 (.str x) := mk_c fun _ _ => .str x
theorem mk_non : Mk M K (tC .non) σ H0 .none := mk_c fun _ _ => .non
theorem mk_bl {b : Bool} : Mk M K (tC (.bl b)) σ H0 (.bool b) := mk_c fun _ _ => .bl b
theorem mk_neg {i : Int} : Mk M K (tUn (rU fun i => .int (-i)) (tC (.int i))) σ H0 (.int (-i)) := fun H M' Q s u w z q => ⟨_, rfl, q _ _ (Same.refl _) (.int _)⟩
theorem mk_pow {i j : Int} (c : CPow i j) : Mk M K (tOp (rI CPow fun i j => .int (i ^ j.toNat)) (tC (.int i)) (tC (.int j))) σ H0 (.int (i ^ j.toNat)) :=
  fun H M' Q s u w z q => ⟨_, _, rfl, rfl, c, q _ _ (Same.refl _) (.int _)⟩
theorem mk_var {i : Nat} {v : V} {d : PyData} (e : σ[i]? = some (some v)) (h : Dv M K H0 v d) : Mk M K (tVar i) σ H0 d := fun H M' Q s u w z q =>
  ⟨v, e, q _ _ (Same.refl _) (h.keep (Off.same s) fun a o ea na ma => (w a ma).elim na fun en => by rw [ea] at en; cases en)⟩
theorem mkA_nil : MkA M K tNil σ H0 [] := fun H M' Q s u w z q => q _ _ (Same.refl _) .nil
theorem mkA_cons {t : TE} {r : TA} {d : PyData} {ds : List PyData} (h : Mk M K t σ H0 d) (hr : MkA M K r σ H0 ds) : MkA M K (tCons t r) σ H0 (d :: ds) := fun H M' Q s u w z q =>
  h H M' _ s u w z fun v H1 s1 e1 => hr H1 M' _ (s.trans s1) u w (z.same s1) fun vs H2 s2 e2 => q _ _ (s1.trans s2) (.cons (e1.off (Off.same s2)) e2)
theorem mk_tup {t : TA} {ds : List PyData} (h : MkA M K t σ H0 ds) (l : ds.length ≤ 1000) : Mk M K (tTup t) σ H0 (.tuple ds) := fun H M' Q s u w z q =>
  h H M' _ s u w z fun vs H1 s1 e1 => ⟨by rw [e1.len, sizeLine_eq]; omega, fun p n => q _ _ (s1.trans (same_new n)) (.tup (.inl upd_same) ((z.same s1).new n) (e1.off (Off.same (same_new n))))⟩
theorem mk_lst {t : TA} {ds : List PyData} (h : MkA M K t σ H0 ds) (l : ds.length ≤ 1000) : Mk M K (tLstN t) σ H0 (.list ds) := fun H M' Q s u w z q =>
  h H M' _ s u w z fun vs H1 s1 e1 => ⟨by rw [e1.len, sizeLine_eq]; omega, fun p n y => q _ _ (s1.trans (same_new n)) (.lst upd_same ((z.same s1).new n) y (e1.off (Off.same (same_new n))))⟩
theorem mk_dct {t : TE} {k : Str} {d : PyData} (h : Mk M K t σ H0 d) : Mk M K (tDisp [(tC (.str k), t)]) σ H0 (.dict [(.str k, d)]) := fun H M' Q s u w z q => by
  intro p n
  show t σ _ _
  refine h _ (fun a => M' a ∨ a = p) _ (s.trans (same_new n)) (fun a ma => .inl (u a ma)) (fun a ma => ma.elim (w a) fun e => .inr (by rw [e]; exact none_of s n)) (fun a ma => ?_) fun v H1 s1 e1 => ?_
  · rcases ma with ma | rfl
    · obtain ⟨o, e⟩ := z a ma
      exact ⟨o, same_new n _ _ e⟩
    · exact ⟨_, upd_same⟩
  · have hp : H1 p = some (.dK []) := s1 _ _ upd_same
    have sm : Same H (upd H1 p (.dK [(Sum.inr k, v)])) := fun a o e => by
      rw [upd_ne (ne_of_none e n)]
      exact s1 _ _ (same_new n _ _ e)
    refine ⟨hp, [(Sum.inr k, v)], rfl, by show 1 ≤ 15; decide, q _ _ sm ?_⟩
    exact Dv.dct (ks := [k]) (xs := [v]) (ds := [d]) upd_same (z.new n) rfl rfl (.cons (e1.keep (Off.mut (.inr rfl)) fun a o _ na ma => na (.inl ma)) .nil)
theorem mk_dct0 : Mk M K tDNewK σ H0 (.dict []) := fun H M' Q s u w z q => by
  intro p n
  exact q _ _ (same_new n) (.dct (ks := []) (xs := []) (ds := []) upd_same (z.new n) rfl rfl .nil)
/-- a list of made things -/
theorem mk_some {t : TA} {ds : List PyData} {Q : VK} (h : MkA M K t σ H0 ds) (z : Stands M H0) (l : ds.length ≤ 1000) (q : ∀ p xs H', Same H0 H' → H0 p = none → H' p = some (.lst xs) → DvAll M K H' xs ds → xs.length = ds.length → Q (.ref p) H') : tLst t σ H0 Q :=
  h H0 M _ (Same.refl _) (fun _ m => m) (fun _ m => .inl m) z fun vs H1 s1 e1 => ⟨by rw [e1.len, sizeLine_eq]; omega, fun p n => q p vs _ (s1.trans (same_new n)) (none_of s1 n) upd_same (e1.off (Off.same (same_new n))) e1.len⟩
end
end Gk
namespace Gk
open PySem PySem.Spec PyProof.Rows L2 HT
/-! ### a tuple from behind -/
section
variable {prog : Program} {w : World} {A : Around} {E : Value → Shared → Prop} {s : Shared}
theorem adjust_rev (n : Nat) : Builtin.Slice.sliceAdjust none none (-1) (n : Int) = ((n : Int) - 1, -1) := by
  have h1 : ((-1 : Int) < 0) := by decide
  unfold Builtin.Slice.sliceAdjust
  simp only [h1, if_true]
theorem places_rev (n : Nat) : Builtin.Slice.slicePlaces ((n : Int) - 1) (-1) (-1) = n := by
  unfold Builtin.Slice.slicePlaces
  have h1 : ¬ ((-1 : Int) > 0) := by decide
  have h2 : (-(-1) : Int) = 1 := by decide
  simp only [h1, if_false, h2, Int.ediv_one]
  split <;> omega
theorem applied_rev {sl : Addr} {vs : Value} {n : Nat} {Q : Int × Int × Nat → Shared → Prop} (hs : s.heap.IsSliceOf sl .none .none vs) (ps : IsPart vs (some (-1)))
    (h : Q ((n : Int) - 1, -1, n) s) : wpAny (model prog w) A (Builtin.Slice.sliceApplied (.ref sl) (pure (n : Int))) Q E s := by
  obtain ⟨os, hos, hcs, hds⟩ := id hs
  unfold Builtin.Slice.sliceApplied Builtin.Slice.sliceFields
  refine wpAny_bind (wpAny_bind (wpAny_field hos hds (x := .none) rfl (wpAny_bind (wpAny_field hos hds (x := .none) rfl (wpAny_bind (wpAny_field hos hds (x := vs) rfl (wpAny_pure ?_)))))))
  refine wpAny_bind (slicePart_ ps ?_)
  show wpAny _ _ (if ((-1 : Int) == 0) = true then _ else _) _ _ s
  rw [if_neg (by decide)]
  refine wpAny_bind (slicePart_none (wpAny_bind (slicePart_none (wpAny_bind (wpAny_pure ?_)))))
  show wpAny _ _ (match Builtin.Slice.sliceAdjust none none (-1) (n : Int) with | (lo, hi) => pure (lo, (-1 : Int), Builtin.Slice.slicePlaces lo hi (-1))) _ _ s
  rw [adjust_rev n]
  show wpAny _ _ (pure ((n : Int) - 1, (-1 : Int), Builtin.Slice.slicePlaces ((n : Int) - 1) (-1) (-1))) _ _ s
  rw [places_rev]
  exact wpAny_pure h
theorem fm_congr {α β : Type} {f g : α → Option β} : ∀ l : List α, (∀ m ∈ l, f m = g m) → l.filterMap f = l.filterMap g
  | [], _ => rfl
  | a :: l, h => by
    rw [List.filterMap_cons, List.filterMap_cons, h a List.mem_cons_self, fm_congr l fun m hm => h m (List.mem_cons_of_mem _ hm)]
theorem pick_rev (xs : Array Value) : ((List.range xs.size).filterMap fun (m : Nat) => xs[(((xs.size : Int) - 1) + (m : Int) * (-1)).toNat]?).toArray = xs.toList.reverse.toArray := by
  have e : ((List.range xs.size).filterMap fun (m : Nat) => xs[(((xs.size : Int) - 1) + (m : Int) * (-1)).toNat]?) = ((List.range xs.size).map fun k => xs.size - 1 - k).filterMap (xs[·]?) := by
    rw [List.filterMap_map]
    refine fm_congr _ fun m hm => ?_
    have hm := List.mem_range.mp hm
    show xs[(((xs.size : Int) - 1) + (m : Int) * (-1)).toNat]? = xs[xs.size - 1 - m]?
    have : (((xs.size : Int) - 1) + (m : Int) * (-1)).toNat = xs.size - 1 - m := by omega
    rw [this]
  rw [e, PySem.W.krv_range, List.filterMap_reverse, PySem.W.krv_all]
theorem getItem_tuple_rev {t sl : Addr} {items : Array Value} {vs : Value} {Q : Value → Shared → Prop} (ht : IsTup s.heap t items) (hs : s.heap.IsSliceOf sl .none .none vs) (ps : IsPart vs (some (-1)))
    (h : Q (.ref s.heap.objs.size) { s with heap := s.heap.push { cls := .type "tuple", data := .seq items.toList.reverse.toArray } })
    (hsz : items.size ≤ sizeLine) : wpAny (model prog w) A (getItem (.ref t) (.ref sl)) Q E s := by
  have htake : sizeOk (.seq items.toList.reverse.toArray) := by
    show items.toList.reverse.toArray.size ≤ sizeLine
    rw [List.size_toArray, List.length_reverse, Array.length_toList]
    exact hsz
  obtain ⟨os, hos, hcs, hds⟩ := id hs
  have hTs : s.TypeIs (.ref sl) "slice" := ⟨os, hos, hcs⟩
  unfold getItem
  try with_reducible refine wpAny_holding ?_
  first | refine wpAny_bind (wpAny_pure ?_) | skip
  refine wpAny_bind (wpAny_sequenceKey ht.typeIs (by decide) ?_)
  refine wpAny_bind (wpAny_callSpecial?_slot (name := Str.ofString "__getitem__") ht.typeIs PyProof.Rows.slot_tuple_getitem
    (wpAny_call_entry PyProof.Rows.slot_tuple_getitem ht.typeIs entry_tuple_getitem ?_ (args_tuple_getitem _ _)))
  show wpAny _ _ (Builtin.Tuple.tupleItemsOf (.ref t) >>= _) _ _ s
  refine wpAny_bind (tupleItemsOf_ ht ?_)
  refine wpAny_bind (wpAny_typeOf hTs ?_)
  rw [if_pos (by decide)]
  refine wpAny_bind (applied_rev hs ps ?_)
  have hno : ¬ (((((items.size : Int) - 1) : Int) == 0 && (-1 : Int) == 1 && items.size == items.size) = true) := by simp
  show wpAny _ _ (if ((((items.size : Int) - 1) : Int) == 0 && (-1 : Int) == 1 && items.size == items.size) = true then _ else _) _ _ s
  rw [if_neg hno, pick_rev]
  first
    | exact wpAny_bind (m := Builtin.Tuple.tupleExact _) (wpAny_newObj_type (wpAny_pure ⟨_, rfl, wpAny_pure h⟩) htake)
    | exact wpAny_bind (m := Builtin.Tuple.tupleExact _) (wpAny_newObj_type (wpAny_bind (wpAny_pure (wpAny_pure ⟨_, rfl, wpAny_pure h⟩))) htake)
    | exact wpAny_bind (wpAny_bind (m := Builtin.Tuple.tupleExact _) (wpAny_newObj_type (wpAny_pure (wpAny_pure ⟨_, rfl, wpAny_pure h⟩)) htake))
    | exact wpAny_bind (wpAny_bind (m := Builtin.Tuple.tupleExact _) (wpAny_newObj_type (wpAny_pure ⟨_, rfl, wpAny_pure h⟩) htake))
end
def tRevU (K : PySem.W.Frag) (te : TE) : TE := fun σ H Q => te σ H fun x H1 => ∃ a xs, x = .ref a ∧ SqT K H1 a xs ∧ ∀ p, H1 p = none → Q (.ref p) (upd H1 p (.tup xs.reverse))
theorem pe_revU {X : Cx} {e : Expr} {te : TE} {k : Nat} {p1 p2 p3 pos : Pos} (he : PE X e te) : PE X (.Subscript e (.Slice none none (some (.UnaryOp .USub (.Constant (.int 1) k p1) p2)) p3) pos) (tRevU X.K te) := by
  refine ⟨fun pins s σ H Q I h => ?_⟩
  refine Subscript_ (thn (he.run pins s σ H _ I h) fun v s1 ⟨x, H1, I1, r1, q1⟩ => ?_)
  obtain ⟨a, xs, ex, hx, q⟩ := q1
  subst ex
  cases r1
  have hst : PO X (some (.UnaryOp .USub (.Constant (.int 1) k p1) p2)) (tPart (tUn (rU fun i => .int (-i)) (tC (.int 1)))) := po_some (pe_un un_neg pe_int)
  refine wpAny_Slice (thn (po_none.run pins s1 σ H1 (fun o H2 => o = none ∧ H2 = H1) I1 ⟨rfl, rfl⟩) fun vl s2 ⟨l, H2, I2, pl, el, e2⟩ => ?_)
  subst el e2
  refine thn (po_none.run pins s2 σ H2 (fun o H3 => o = none ∧ H3 = H2) I2 ⟨rfl, rfl⟩) fun vu s3 ⟨u, H3, I3, pu, eu, e3⟩ => ?_
  subst eu e3
  refine thn (hst.run pins s3 σ H3 (fun o H4 => o = some (-1) ∧ H4 = H3) I3 ⟨1, rfl, -1, rfl, rfl, rfl⟩) fun vs s4 ⟨o, H4, I4, ps, eo, e4⟩ => ?_
  subst eo e4
  cases pl
  cases pu
  have I5 : Inv X pins σ H4 { s4 with heap := s4.heap.push { cls := .type "slice", data := .fields #[.none, .none, vs] } } := I4.kept (t' := s4.toks) fun b ob q => Heap.get?_push_of_some _ q
  obtain ⟨its, r, ht, hz⟩ := I5.tuple hx
  have hlen := r.length
  refine tail_any (ops := [.ref a, .ref s4.heap.objs.size]) ht.typeIs (PyProof.Rows.slot_tuple_getitem.lookup) ?_ (by with_unfolding_all rfl)
  refine getItem_tuple_rev ht (Heap.IsSliceOf.new _ .none .none vs) ps ?_ (by rw [List.size_toArray]; omega)
  refine ⟨.ref _, _, I5.laid (t' := s4.toks) (o := .tup xs.reverse) (fun b ob q => Heap.get?_push_of_some _ q) (Nat.le_refl _) ?_, rfl, q _ (I5.hok.fresh (Nat.le_refl _))⟩
  exact ⟨by rw [List.length_reverse]; exact hz, _, r.reverse, IsTup.new _ _⟩
/-! ### whether a tuple is not () -/
def rNe0 (K : PySem.W.Frag) : R2 := fun x y H Q => ∃ a b xs, x = .ref a ∧ y = .ref b ∧ SqT K H a xs ∧ SqT K H b [] ∧ Q (.bl (!decide (xs = []))) H
theorem op_ne0 {X : Cx} (hu : X.A.units < cLine) : OpR X (compareOp .NotEq) (rNe0 X.K) := by
  intro pins s σ H x y v u Q I rx ry h
  obtain ⟨a, b, xs, rfl, rfl, ha, hb, q⟩ := h
  cases rx
  cases ry
  obtain ⟨its, r1, p1, _⟩ := I.tuple ha
  obtain ⟨its2, r2, p2, _⟩ := I.tuple hb
  cases r2
  have t1 : s.heap.IsTuple a its.toArray := by
    obtain ⟨o, ho, hc, n, hd⟩ := p1
    exact ⟨o, ho, hc, n, hd⟩
  have t2 : s.heap.IsTuple b ([] : List Value).toArray := by
    obtain ⟨o, ho, hc, n, hd⟩ := p2
    exact ⟨o, ho, hc, n, hd⟩
  refine SeqAt.RcNeAt.tuples (e := fun _ => true) t1 t2 hu (fun j h1 h2 => absurd h2 (Nat.not_lt_zero _)) X.prog X.w X.xe (EP X pins σ Q) ⟨.bl _, H, I, ?_, q⟩
  have hl := r1.length
  show Value.bool _ = Value.bool _
  congr 1
  cases xs with
  | nil =>
    cases r1
    rfl
  | cons x xs =>
    cases r1
    simp
end Gk
namespace Gk
open PySem PySem.Spec PyProof.Rows L2
/-! ### a list from a tuple, its place told apart from the table of modules -/
def rLstN (K : PySem.W.Frag) : List V → Hp → VK → Prop := fun xs H Q => ∃ p ys, xs = [.ref p] ∧ SqT K H p ys ∧ ∀ l, H l = none → (l == sysModules) = false → Q (.ref l) (upd H l (.lst ys))
theorem call_listN {X : Cx} : CallR X (.type "list") (rLstN X.K) := by
  intro pins s σ H xs us Q I r h
  obtain ⟨p, ys, rfl, hq, q⟩ := h
  obtain ⟨u, rfl, rx⟩ := vals1 r
  cases rx
  obtain ⟨its, r', pl, hz⟩ := I.tuple hq
  have hlen := r'.length
  obtain ⟨o, ho, hc, n, hd⟩ := pl
  refine call_list_seq p (.inr rfl) ho hc hd (fun h' c' kp e => ?_) (by simp only [List.size_toArray] <;> omega)
  exact ⟨.ref s.heap.objs.size, _, I.laid (t' := s.toks) kp (Nat.le_refl _) (show ObjOk X.prog X.w _ h' _ (.lst ys) from ⟨hz, its, c', r', e⟩), rfl, q _ (I.hok.fresh (Nat.le_refl _)) (not_modules I)⟩
/-! ### readings, taken apart -/
theorem go_op {r : R2} {ta tb : TE} {σ : L2.St} {H : Hp} {Q : VK} (h : ta σ H fun x H1 => tb σ H1 fun y H2 => r x y H2 Q) : tOp r ta tb σ H Q := h
theorem go_ret {te : TE} {D : Ends} {σ : L2.St} {H : Hp} (h : te σ H D.rt) : tRet te D σ H := h
theorem go_asg {te : TE} {g : TG} {u : TS} {D : Ends} {σ : L2.St} {H : Hp} (h : te σ H fun v H' => g v σ H' (u D)) : tSeq (tAsg te g) u D σ H := h
theorem go_as {te : TE} {g : TG} {D : Ends} {σ : L2.St} {H : Hp} (h : te σ H fun v H' => g v σ H' D.nx) : tAsg te g D σ H := h
theorem go_name {i : Nat} {v : V} {σ : L2.St} {H : Hp} {Q : L2.St → Hp → Prop} (h : Q (σ.set i (some v)) H) : gName i v σ H Q := h
section
variable {M : Addr → Prop} {K : PySem.W.Frag} {σ : L2.St} {H H0 : Hp}
theorem tup_of {v : V} {ds : List PyData} (h : Dv M K H v (.tuple ds)) : ∃ a xs, v = .ref a ∧ SqT K H a xs ∧ (∀ H', Off M H H' → SqT K H' a xs) ∧ DvAll M K H xs ds := by
  cases h with
  | tup h n r => exact ⟨_, _, rfl, .inl h, fun H' k => .inl (k.rd n h), r⟩
  | tupK h r => exact ⟨_, _, rfl, .inr h, fun _ _ => .inr h, r⟩
theorem sq_tup {a : Addr} {xs : List V} (h : H a = some (.tup xs)) : SqT K H a xs := .inl (.inl h)
/-- a tuple that other rules made, as data -/
theorem dv_sq {a : Addr} {xs : List V} {ds : List PyData} (h : SqT K H a xs) (n : ¬ M a) (r : DvAll M K H xs ds) : Dv M K H (.ref a) (.tuple ds) := h.elim (fun h => .tup h n r) fun h => .tupK h r
/-- two tuples joined -/
theorem cat_go {x y : V} {ds es : List PyData} {Q : VK} (hx : Dv M K H x (.tuple ds)) (hy : Dv M K H y (.tuple es)) (l : ds.length + es.length ≤ 1000000) (z : Stands M H)
    (q : ∀ v H', Same H H' → Dv M K H' v (.tuple (ds ++ es)) → Q v H') : rCatA K x y H Q := by
  obtain ⟨a, xs, rfl, ha, na, da⟩ := tup_of hx
  obtain ⟨b, ys, rfl, hb, nb, db⟩ := tup_of hy
  have l1 := da.len
  have l2 := db.len
  refine ⟨a, b, xs, ys, rfl, rfl, ha, hb, by rw [sizeLine_eq]; omega, fun e => ?_, fun _ e => ?_, fun _ _ p n => q _ _ (same_new n) (.tup (.inl upd_same) (z.new n) ((da.app db).off (Off.same (same_new n))))⟩
  · subst e
    cases da
    exact q _ _ (Same.refl _) hy
  · subst e
    cases db
    rw [List.append_nil] at q
    exact q _ _ (Same.refl _) hx
theorem mk_cat {t u : TE} {ds es : List PyData} (h : Mk M K t σ H0 (.tuple ds)) (g : Mk M K u σ H0 (.tuple es)) (l : ds.length + es.length ≤ 1000000) : Mk M K (tOp (rCatA K) t u) σ H0 (.tuple (ds ++ es)) := fun H M' Q s u' w z q =>
  h H M' _ s u' w z fun v1 H1 s1 d1 => g H1 M' _ (s.trans s1) u' w (z.same s1) fun v2 H2 s2 d2 => cat_go (d1.off (Off.same s2)) d2 l ((z.same s1).same s2) fun v H' s3 d3 => q _ _ ((s1.trans s2).trans s3) d3
/-- a bound that is read -/
def Pt (tl : TO) (σ : L2.St) (o : Option Int) : Prop := ∀ H Q, Q o H → tl σ H Q
theorem pt_none : Pt tNoPart σ none := fun _ _ q => q
theorem pt_v {i : Nat} {n : Int} (e : σ[i]? = some (some (.int n))) : Pt (tPart (tVar i)) σ (some n) := fun _ _ q => ⟨_, e, n, rfl, q⟩
theorem pt_v1 {i : Nat} {n : Int} (e : σ[i]? = some (some (.int n))) : Pt (tPart (tOp (rI0 fun i j => .int (i + j)) (tVar i) (tC (.int 1)))) σ (some (n + 1)) := fun _ _ q => ⟨_, e, n, 1, rfl, rfl, _, rfl, q⟩
def cutD {α : Type} (xs : List α) (lo hi : Option Int) : List α := (xs.drop (HT.sIx xs.length 0 lo)).take (HT.sIx xs.length xs.length hi - HT.sIx xs.length 0 lo)
theorem cutD_to {α : Type} {xs : List α} (n : Nat) : cutD xs none (some (n : Int)) = xs.take n := by
  unfold cutD
  rw [HT.sIx_none, HT.sIx_nat]
  show ((xs.drop 0).take (min n xs.length - 0)) = _
  rw [List.drop_zero, Nat.sub_zero, Nat.min_comm, List.take_eq_take_iff]
  omega
theorem cutD_from {α : Type} {xs : List α} (n : Nat) : cutD xs (some (n : Int)) none = xs.drop n := by
  unfold cutD
  rw [HT.sIx_none, HT.sIx_nat]
  by_cases h : n ≤ xs.length
  · rw [Nat.min_eq_left h, List.take_of_length_le (by rw [List.length_drop]; exact Nat.le_refl _)]
  · rw [Nat.min_eq_right (by omega), List.drop_eq_nil_of_le (Nat.le_refl _), List.drop_eq_nil_of_le (by omega)]
    exact List.take_nil
theorem mk_cut {t : TE} {tl th : TO} {lo hi : Option Int} {ds : List PyData} (h : Mk M K t σ H0 (.tuple ds)) (pl : Pt tl σ lo) (ph : Pt th σ hi) : Mk M K (tSl (rSlA K) t tl th) σ H0 (.tuple (cutD ds lo hi)) := fun H M' Q s u w z q =>
  h H M' _ s u w z fun v1 H1 s1 d1 => pl _ _ (ph _ _ (by
    obtain ⟨a, xs, rfl, ha, na, da⟩ := tup_of d1
    have l1 := da.len
    refine ⟨a, xs, rfl, ha, fun e => ?_, fun _ p n => q _ _ (s1.trans (same_new n)) (.tup (.inl upd_same) ((z.same s1).new n) ?_)⟩
    · have : cutD ds lo hi = ds := by
        unfold cutD
        rw [← l1, e.1, e.2, List.drop_zero, Nat.sub_zero]
        exact List.take_of_length_le (Nat.le_of_eq l1.symm)
      rw [this] at q
      exact q _ _ s1 d1
    · refine DvAll.off ?_ (Off.same (same_new n))
      unfold cutV cutD
      rw [l1]
      exact (da.drop _).take _))
theorem mk_to {t : TE} {tl th : TO} {n : Nat} {ds : List PyData} (h : Mk M K t σ H0 (.tuple ds)) (pl : Pt tl σ none) (ph : Pt th σ (some (n : Int))) : Mk M K (tSl (rSlA K) t tl th) σ H0 (.tuple (ds.take n)) := by
  have := mk_cut h pl ph
  rwa [cutD_to] at this
theorem mk_from {t : TE} {tl th : TO} {n : Nat} {ds : List PyData} (h : Mk M K t σ H0 (.tuple ds)) (pl : Pt tl σ (some (n : Int))) (ph : Pt th σ none) : Mk M K (tSl (rSlA K) t tl th) σ H0 (.tuple (ds.drop n)) := by
  have := mk_cut h pl ph
  rwa [cutD_from] at this
theorem mk_rev {t : TE} {ds : List PyData} (h : Mk M K t σ H0 (.tuple ds)) : Mk M K (tRevU K t) σ H0 (.tuple ds.reverse) := fun H M' Q s u w z q =>
  h H M' _ s u w z fun v1 H1 s1 d1 => by
    obtain ⟨a, xs, rfl, ha, na, da⟩ := tup_of d1
    exact ⟨a, xs, rfl, ha, fun p n => q _ _ (s1.trans (same_new n)) (.tup (.inl upd_same) ((z.same s1).new n) (da.rev.off (Off.same (same_new n))))⟩
theorem mk_list {t : TE} {ds : List PyData} (h : Mk M K t σ H0 (.tuple ds)) : Mk M K (tCB (rLstN K) (tCons t tNil)) σ H0 (.list ds) := fun H M' Q s u w z q =>
  h H M' _ s u w z fun v1 H1 s1 d1 => by
    obtain ⟨a, xs, rfl, ha, na, da⟩ := tup_of d1
    exact ⟨a, xs, rfl, ha, fun p n y => q _ _ (s1.trans (same_new n)) (.lst upd_same ((z.same s1).new n) y (da.off (Off.same (same_new n))))⟩
/-- a plain value that is read -/
theorem mk_gv {t : TE} {v : V} {d : PyData} (g : ∀ H Q, Q v H → t σ H Q) (h : ∀ M H, Dv M K H v d) : Mk M K t σ H0 d := fun H M' Q s u w z q => g _ _ (q _ _ (Same.refl _) (h M' H))
end
/-! ### sizes -/
theorem int_cps (i : Int) : fin (.str (Str.ofString (toString i))) 0 = true := by
  simp only [fin, Array.all_eq_true', decide_eq_true_eq]
  intro c hc
  refine Nat.lt_of_not_le fun h => int_text_free' c ⟨by omega, .inr (by omega)⟩ i ?_
  exact Array.mem_toList_iff.mpr hc
mutual
theorem fin_mono {B C : Nat} (h : B ≤ C) : ∀ d : PyData, fin d B = true → fin d C = true
  | .none, _ => rfl
  | .bool _, _ => rfl
  | .int i, g => by
    simp only [fin, decide_eq_true_eq] at g ⊢
    omega
  | .str x, g => by simpa only [fin] using g
  | .list xs, g => by
    simp only [fin] at g ⊢
    exact fin_monoAll h xs g
  | .tuple xs, g => by
    simp only [fin] at g ⊢
    exact fin_monoAll h xs g
  | .dict kvs, g => by
    simp only [fin] at g ⊢
    exact fin_monoKv h kvs g
theorem fin_monoAll {B C : Nat} (h : B ≤ C) : ∀ ds : List PyData, finAll ds B = true → finAll ds C = true
  | [], _ => rfl
  | x :: xs, g => by
    simp only [finAll, Bool.and_eq_true] at g ⊢
    exact ⟨fin_mono h x g.1, fin_monoAll h xs g.2⟩
theorem fin_monoKv {B C : Nat} (h : B ≤ C) : ∀ kvs : List (PyData × PyData), finKv kvs B = true → finKv kvs C = true
  | [], _ => rfl
  | (k, v) :: r, g => by
    simp only [finKv, Bool.and_eq_true] at g ⊢
    exact ⟨⟨fin_mono h k g.1.1, fin_mono h v g.1.2⟩, fin_monoKv h r g.2⟩
end
theorem finAll_iff {B : Nat} : ∀ {ds : List PyData}, finAll ds B = true ↔ ∀ d ∈ ds, fin d B = true
  | [] => by simp [finAll]
  | x :: xs => by
    simp only [finAll, Bool.and_eq_true, List.mem_cons, forall_eq_or_imp]
    rw [finAll_iff]
theorem bigAll_app : ∀ ds es : List PyData, bigAll (ds ++ es) + 1 = bigAll ds + bigAll es
  | [], es => by simp only [List.nil_append, bigAll]; omega
  | d :: ds, es => by
    have := bigAll_app ds es
    simp only [List.cons_append, bigAll]
    omega
theorem bigAll_rev : ∀ ds : List PyData, bigAll ds.reverse = bigAll ds
  | [] => rfl
  | d :: ds => by
    have := bigAll_app ds.reverse [d]
    have h := bigAll_rev ds
    rw [List.reverse_cons]
    simp only [bigAll] at this ⊢
    omega
theorem bigAll_len : ∀ ds : List PyData, ds.length + 1 ≤ bigAll ds
  | [] => Nat.le_refl _
  | d :: ds => by
    have := bigAll_len ds
    simp only [List.length_cons, bigAll]
    omega
theorem bigAll_split (ds : List PyData) (n : Nat) : bigAll (ds.take n) + bigAll (ds.drop n) = bigAll ds + 1 := by
  have := bigAll_app (ds.take n) (ds.drop n)
  rw [List.take_append_drop] at this
  omega
theorem depthAll_iff {n : Nat} : ∀ {ds : List PyData}, PyData.depthAll ds ≤ n ↔ ∀ d ∈ ds, d.depth ≤ n
  | [] => by simp [PyData.depthAll]
  | x :: xs => by
    simp only [PyData.depthAll, List.mem_cons, forall_eq_or_imp]
    rw [← depthAll_iff (ds := xs)]
    omega
end Gk
namespace Gk
open PySem PySem.Spec PyProof.Rows L2
/-! ### what is bent stays small -/
theorem depth_tup (ds : List PyData) : (PyData.tuple ds).depth = PyData.depthAll ds + 1 := by simp only [PyData.depth]
theorem depth_lst (ds : List PyData) : (PyData.list ds).depth = PyData.depthAll ds + 1 := by simp only [PyData.depth]
theorem el_ok {ds : List PyData} {d : PyData} {B : Nat} (f : fin (.tuple ds) B = true) (h : d ∈ ds) : fin d B = true ∧ d.depth + 1 ≤ (PyData.tuple ds).depth := by
  simp only [fin] at f
  refine ⟨finAll_iff.mp f d h, ?_⟩
  rw [depth_tup]
  exact Nat.succ_le_succ (depthAll_iff.mp (Nat.le_refl _) d h)
theorem drop_at {α : Type} {ds : List α} {i : Nat} {d : α} (g : ds[i]? = some d) : ds.drop i = d :: ds.drop (i + 1) := by
  obtain ⟨hi, e⟩ := List.getElem?_eq_some_iff.mp g
  rw [List.drop_eq_getElem_cons hi, e]
theorem el_big {ds : List PyData} {i : Nat} {d : PyData} (g : ds[i]? = some d) : bigAll (ds.take i) + big d + bigAll (ds.drop (i + 1)) = bigAll ds := by
  have h := bigAll_split ds i
  rw [drop_at g] at h
  simp only [bigAll] at h
  omega
theorem el_le {ds : List PyData} {i : Nat} {d : PyData} (g : ds[i]? = some d) : big d ≤ big (.tuple ds) := by
  have h := el_big g
  simp only [big]
  omega
/-- one item put for another -/
theorem put_ok {ds : List PyData} {i : Nat} {d e : PyData} {B : Nat} (g : ds[i]? = some d) (f : fin (.tuple ds) B = true) (f1 : fin e (B + 1) = true) (f2 : e.depth ≤ d.depth + 9) (f3 : big e ≤ 2 * big d + 1100) :
    fin (.tuple (ds.take i ++ [e] ++ ds.drop (i + 1))) (B + 1) = true ∧ (PyData.tuple (ds.take i ++ [e] ++ ds.drop (i + 1))).depth ≤ (PyData.tuple ds).depth + 9 ∧ big (.tuple (ds.take i ++ [e] ++ ds.drop (i + 1))) ≤ 2 * big (.tuple ds) + 1100 := by
  have hm := List.mem_of_getElem? g
  have ok := el_ok f hm
  refine ⟨?_, ?_, ?_⟩
  · simp only [fin]
    refine finAll_iff.mpr fun x hx => ?_
    simp only [List.mem_append, List.mem_cons, List.not_mem_nil, or_false] at hx
    rcases hx with (hx | rfl) | hx
    · exact fin_mono (Nat.le_succ B) _ (el_ok f (List.mem_of_mem_take hx)).1
    · exact f1
    · exact fin_mono (Nat.le_succ B) _ (el_ok f (List.mem_of_mem_drop hx)).1
  · rw [depth_tup (ds.take i ++ [e] ++ ds.drop (i + 1))]
    have : PyData.depthAll (ds.take i ++ [e] ++ ds.drop (i + 1)) ≤ (PyData.tuple ds).depth + 8 := depthAll_iff.mpr fun x hx => by
      simp only [List.mem_append, List.mem_cons, List.not_mem_nil, or_false] at hx
      rcases hx with (hx | rfl) | hx
      · have := (el_ok f (List.mem_of_mem_take hx)).2
        omega
      · omega
      · have := (el_ok f (List.mem_of_mem_drop hx)).2
        omega
    omega
  · have h1 := bigAll_app (ds.take i ++ [e]) (ds.drop (i + 1))
    have h2 := bigAll_app (ds.take i) [e]
    have h3 := el_big g
    simp only [bigAll] at h2
    simp only [big]
    omega
/-- items left out, twice, turned round, as a list -/
theorem sub_ok {ds : List PyData} {i : Nat} {e : PyData} {B : Nat} (f : fin (.tuple ds) B = true) (h : e ∈ [PyData.tuple (ds.take i ++ ds.drop (i + 1)), .tuple (ds.take (i + 1) ++ ds.drop i), .tuple ds.reverse, .list ds]) :
    fin e (B + 1) = true ∧ e.depth ≤ (PyData.tuple ds).depth + 9 ∧ big e ≤ 2 * big (.tuple ds) + 1100 := by
  have go : ∀ es : List PyData, (∀ x ∈ es, x ∈ ds) → finAll es (B + 1) = true ∧ PyData.depthAll es ≤ PyData.depthAll ds := fun es s =>
    ⟨finAll_iff.mpr fun x hx => fin_mono (Nat.le_succ B) _ (el_ok f (s x hx)).1, depthAll_iff.mpr fun x hx => depthAll_iff.mp (Nat.le_refl _) x (s x hx)⟩
  have a1 := bigAll_app (ds.take i) (ds.drop (i + 1))
  have a2 := bigAll_app (ds.take (i + 1)) (ds.drop i)
  have b1 := bigAll_split ds i
  have b2 := bigAll_split ds (i + 1)
  have c1 := bigAll_len (ds.take i)
  have c2 := bigAll_len (ds.drop i)
  have c3 := bigAll_len (ds.take (i + 1))
  have c4 := bigAll_len (ds.drop (i + 1))
  have mono : bigAll (ds.drop (i + 1)) ≤ bigAll (ds.drop i) := by
    cases g : ds[i]? with
    | some d =>
      rw [drop_at g]
      simp only [bigAll]
      omega
    | none =>
      have := List.getElem?_eq_none_iff.mp g
      rw [List.drop_eq_nil_of_le this, List.drop_eq_nil_of_le (by omega)]
      exact Nat.le_refl _
  simp only [List.mem_cons, List.not_mem_nil, or_false] at h
  rcases h with rfl | rfl | rfl | rfl
  · obtain ⟨g1, g2⟩ := go (ds.take i ++ ds.drop (i + 1)) fun x hx => (List.mem_append.mp hx).elim List.mem_of_mem_take List.mem_of_mem_drop
    refine ⟨by simpa only [fin] using g1, by rw [depth_tup, depth_tup]; omega, by simp only [big]; omega⟩
  · obtain ⟨g1, g2⟩ := go (ds.take (i + 1) ++ ds.drop i) fun x hx => (List.mem_append.mp hx).elim List.mem_of_mem_take List.mem_of_mem_drop
    refine ⟨by simpa only [fin] using g1, by rw [depth_tup, depth_tup]; omega, by simp only [big]; omega⟩
  · obtain ⟨g1, g2⟩ := go ds.reverse fun x hx => List.mem_reverse.mp hx
    refine ⟨by simpa only [fin] using g1, by rw [depth_tup, depth_tup]; omega, by simp only [big, bigAll_rev]; omega⟩
  · obtain ⟨g1, g2⟩ := go ds fun x hx => hx
    refine ⟨by simpa only [fin] using g1, by rw [depth_tup, depth_lst]; omega, by simp only [big]; omega⟩
/-- what an int is bent to -/
theorem int_ok {i : Int} {e : PyData} {B : Nat} (f : fin (.int i) B = true) (hB : 10 ^ 17 ≤ B) (hC : B ≤ 10 ^ 19)
    (h : e ∈ [PyData.int (i + 1), .int (i - 1), .int (1 - i), .bool (decide (V.int i = V.int 1)), .str (Str.ofString (toString i)), .tuple [.int i], .none, .int 64, .int 65]) :
    fin e (B + 1) = true ∧ e.depth ≤ (PyData.int i).depth + 9 ∧ big e ≤ 2 * big (.int i) + 1100 := by
  have hi : i.natAbs ≤ B := by simpa only [fin, decide_eq_true_eq] using f
  have bi : big (.int i) = 70 := rfl
  have dz : ∀ j : Int, (PyData.int j).depth = 0 := fun j => by simp only [PyData.depth]
  have fi : ∀ j : Int, j.natAbs ≤ B + 1 → fin (.int j) (B + 1) = true := fun j hj => by simpa only [fin, decide_eq_true_eq] using hj
  simp only [List.mem_cons, List.not_mem_nil, or_false] at h
  rcases h with rfl | rfl | rfl | rfl | rfl | rfl | rfl | rfl | rfl
  · exact ⟨fi _ (by omega), by rw [dz]; omega, by simp only [big]; omega⟩
  · exact ⟨fi _ (by omega), by rw [dz]; omega, by simp only [big]; omega⟩
  · exact ⟨fi _ (by omega), by rw [dz]; omega, by simp only [big]; omega⟩
  · exact ⟨rfl, by simp only [PyData.depth]; omega, by simp only [big]; omega⟩
  · refine ⟨fin_mono (Nat.zero_le _) _ (int_cps i), by simp only [PyData.depth]; omega, ?_⟩
    have h1 := int_len20 (c := i) (by omega)
    have h2 : (Str.ofString (toString i)).cps.size ≤ 21 := h1
    simp only [big]
    omega
  · refine ⟨by simp only [fin, finAll, Bool.and_true]; exact fi i (by omega), by rw [depth_tup]; simp only [PyData.depthAll, dz]; omega, by simp only [big, bigAll]; omega⟩
  · exact ⟨rfl, by simp only [PyData.depth]; omega, by simp only [big]; omega⟩
  · exact ⟨fi _ (by omega), by rw [dz]; omega, by simp only [big]; omega⟩
  · exact ⟨fi _ (by omega), by rw [dz]; omega, by simp only [big]; omega⟩
end Gk
namespace Gk
open PySem PySem.Spec PyProof.Rows L2
theorem stands_box {m : Nat} {H : Hp} {b : Addr} (h : Box m H b) : Stands (fun a => a = b) H := by
  rintro a rfl
  obtain ⟨x, y, z, e, _⟩ := h
  exact ⟨_, e⟩
theorem Stands.but {M : Addr → Prop} {H H' : Hp} {b : Addr} {m : Nat} (h : Stands M H) (bt : But b H H') (bx : Box m H' b) : Stands M H' := fun a ma => by
  by_cases e : a = b
  · subst e
    obtain ⟨x, y, z, e, _⟩ := bx
    exact ⟨_, e⟩
  · obtain ⟨o, eo⟩ := h a ma
    exact ⟨o, bt a o e eo⟩
theorem Stands.or {M : Addr → Prop} {H : Hp} {p : Addr} {o : HO} (h : Stands M H) (e : H p = some o) : Stands (fun a => M a ∨ a = p) H := fun a ma => ma.elim (h a) fun z => ⟨o, by rw [z]; exact e⟩
/-- what M speaks of are lists -/
def Lists (M : Addr → Prop) (H : Hp) : Prop := ∀ a, M a → ∃ xs, H a = some (.lst xs)
theorem Lists.not {M : Addr → Prop} {K : PySem.W.Frag} {H : Hp} {a : Addr} {xs : List V} (h : Lists M H) (r : Rd H a (.tup xs)) : ¬ M a := fun m => by
  obtain ⟨ys, e⟩ := h a m
  rcases r with r | ⟨o, r⟩ <;> rw [e] at r <;> cases r
mutual
/-- tuples wherever they stand, as data -/
theorem dv_dp {M : Addr → Prop} {K : PySem.W.Frag} {H : Hp} (l : Lists M H) : ∀ (d : PyData) (v : V), tups d = true → Dp K H v d → Dv M K H v d
  | .none, _, _, h => by cases h; exact .non
  | .bool _, _, _, h => by cases h; exact .bl _
  | .int _, _, _, h => by cases h; exact .int _
  | .str _, _, _, h => by cases h; exact .str _
  | .list _, _, t, _ => by simp [tups] at t
  | .dict _, _, t, _ => by simp [tups] at t
  | .tuple ds, _, t, h => by
    cases h with
    | tup hs r =>
      have r' := dv_dpAll l ds _ (by simpa only [tups] using t) r
      rcases hs with hs | hs
      · exact .tup hs (l.not (K := K) hs) r'
      · exact .tupK hs r'
theorem dv_dpAll {M : Addr → Prop} {K : PySem.W.Frag} {H : Hp} (l : Lists M H) : ∀ (ds : List PyData) (vs : List V), tupsAll ds = true → DpAll K H vs ds → DvAll M K H vs ds
  | [], _, _, h => by cases h; exact .nil
  | d :: ds, _, t, h => by
    simp only [tupsAll, Bool.and_eq_true] at t
    cases h with
    | cons h1 h2 => exact .cons (dv_dp l d _ t.1 h1) (dv_dpAll l ds _ t.2 h2)
end
end Gk
namespace Pf
open PySem PySem.Spec PyProof.Rows L2 Gk
abbrev sAny : Stmt := topS 16
theorem scAny : FnScope ["_law_box_here", "_law_some", "_law_found", "_law_turn"] ["_law_box_here"] (defScope sAny) := ⟨rfl, rfl, rfl, by decide +kernel, rfl, by decide +kernel, by decide +kernel⟩
def anyA : List PyData := [.none, .bool true, .bool false, .int 0, .int 1, .int (-1), .int 2, .int 7, .int 8, .int 64, .int 65, .int (10 ^ (17 : Int).toNat), .str "", .str "0", .str "own", .str "01", .tuple [], .list [], .dict [], .tuple [.int 0, .int 1], .list [.int 0, .int 1]]
def anyB : List PyData := [.tuple [.tuple [.int 0, .int 1]], .tuple [.str "own", .int 1], .tuple [.str "shared", .int 2], .tuple [.int 2, .int 1], .dict [(.str "a", .int 1)], .tuple [.str "folded", .int 1, .int 1], .tuple [.int 1, .int 1, .int 0]]
theorem any_ok : ((anyA ++ anyB).all fun d => fin d (10 ^ 17) && decide (d.depth ≤ 2) && decide (big d ≤ 400)) = true := by decide +kernel
section
variable {P : Program} {w : World} {K : PySem.W.Frag} {mg : Str → Option Value} {base : Heap}
def spAny (K : PySem.W.Frag) : Sp := fun vs H Q _ => ∃ (M : Addr → Prop) (b : Addr) (m : Nat), vs = [.ref b] ∧ M b ∧ Stands M H ∧ Box m H b ∧ m ≤ 990000 ∧
  ∀ H' v d, But b H H' → Box (m + 20) H' b → Dv M K H' v d → fin d (10 ^ 17) = true → d.depth ≤ 8 → big d ≤ 1000 → Q v H'
theorem dct_a {M : Addr → Prop} {H : Hp} {a : Addr} {v : V} {d : PyData} (h : H a = some (.dK [(Sum.inr "a", v)])) (n : ¬ M a) (hv : Dv M K H v d) : Dv M K H (.ref a) (.dict [(.str "a", d)]) :=
  .dct (ks := ["a"]) (xs := [v]) (ds := [d]) h n rfl rfl (.cons hv .nil)
/-- one of some made things -/
theorem choose {M : Addr → Prop} {ts : TA} {ds : List PyData} {σ : L2.St} {H : Hp} {Q : VK} {i m : Nat} {b : Addr} (eb : σ[i]? = some (some (.ref b))) (h : MkA M K ts σ H ds) (hb : Box m H b) (hMb : M b) (hS : Stands M H) (l0 : 0 < ds.length) (l : ds.length ≤ 1000) (hm : m < 1000000000)
    (q : ∀ v d H', d ∈ ds → But b H H' → Box (m + 1) H' b → Dv M K H' v d → Q v H') : tCall (spOf K) [] E0 (tCons (tVar i) (tCons (tLst ts) tNil)) σ H Q := by
  refine ⟨.ref b, eb, mk_some h hS l fun p xs H1 s1 n1 e1 d1 l1 => ⟨b, p, xs, m, rfl, SqL.of e1, fun z => hb.ne n1 z.symm, by omega, by omega, hb.same s1, hm, fun i v H2 g bt bx same => ?_⟩⟩
  obtain ⟨d, gd, dv⟩ := d1.at g
  exact q v d H2 (List.mem_of_getElem? gd) (fun x o n e => bt x o n (s1 _ _ e)) bx (dv.off (Off.but bt hMb))
theorem nest_ok {d e : PyData} {n c : Nat} (f1 : fin d (10 ^ 17) = true) (f2 : d.depth ≤ n) (f3 : big d ≤ c) (h : e ∈ [PyData.tuple [d], .list [d], .dict [(.str "a", d)], .tuple [d, .int 1]]) : fin e (10 ^ 17) = true ∧ e.depth ≤ n + 1 ∧ big e ≤ c + 100 := by
  have fa : fin (.str "a") (10 ^ 17) = true := by decide +kernel
  have ba : big (.str "a") = 2 := by decide +kernel
  have fo : fin (.int 1) (10 ^ 17) = true := by decide +kernel
  have bo : big (.int 1) = 70 := rfl
  simp only [List.mem_cons, List.not_mem_nil, or_false] at h
  rcases h with rfl | rfl | rfl | rfl
  · refine ⟨by simp only [fin, finAll, f1, Bool.and_self], ?_, by simp only [big, bigAll]; omega⟩
    simp only [PyData.depth, PyData.depthAll]; omega
  · refine ⟨by simp only [fin, finAll, f1, Bool.and_self], ?_, by simp only [big, bigAll]; omega⟩
    simp only [PyData.depth, PyData.depthAll]; omega
  · refine ⟨by simp only [fin, finKv, f1, Bool.and_self, Bool.and_true] ; exact fa, ?_, by simp only [big, bigKv]; have := ba; simp only [big] at this; omega⟩
    simp only [PyData.depth, PyData.depthKv]; omega
  · refine ⟨by simp only [fin, finAll, f1, Bool.true_and, Bool.and_true]; exact fo, ?_, by simp only [big, bigAll]; omega⟩
    simp only [PyData.depth, PyData.depthAll]; omega
theorem ok_any {f : Addr} {fd : FuncData} (DO : Dfn P w K mg base 2 "_law_of" ["_law_box_here", "_law_some"] (spOf K)) (mr : mg "range" = none)
    (F : L2.Fun K "_law_any" "_law_any" sAny f fd) : FnOk P w K mg base L2.CX0 3 f fd ["_law_box_here"] (spAny K) := by
  refine F.ok scAny (fun vs H Q E h => ?_) (fun cdv A outer s H vs Q E hr h => ?_)
  · obtain ⟨M, b, m, rfl, _⟩ := h
    rfl
  · obtain ⟨M, b, m, rfl, hMb, z0, hb, hm, q⟩ := h
    refine ⟨_, pss_cons (ps_set (i := 1) scAny.nd rfl (.inl rfl) (pe_lst (pa_cons pe_non (pa_cons pe_bl (pa_cons pe_bl (pa_cons pe_int (pa_cons pe_int (pa_cons (pe_un un_neg pe_int) (pa_cons pe_int (pa_cons pe_int (pa_cons pe_int (pa_cons pe_int (pa_cons pe_int (pa_cons (pe_op op_pow pe_int pe_int)
          (pa_cons pe_str (pa_cons pe_str (pa_cons pe_str (pa_cons pe_str (pa_cons (pe_tup pa_nil) (pa_cons (pe_lstN pa_nil) (pa_cons pe_dnewK (pa_cons (pe_tup (pa_cons pe_int (pa_cons pe_int pa_nil))) (pa_cons (pe_lstN (pa_cons pe_int (pa_cons pe_int pa_nil))) pa_nil)))))))))))))))))))))))
      (C8.pss_cut (ps_set (i := 2) scAny.nd rfl (.inl rfl) (pe_d DO hr (by decide) (by rfl) (pa_cons (pv 0) (pa_cons (pe_op op_cat (pv 1) (pe_lst (pa_cons (pe_tup (pa_cons (pe_tup (pa_cons pe_int (pa_cons pe_int pa_nil))) pa_nil)) (pa_cons (pe_tup (pa_cons pe_str (pa_cons pe_int pa_nil))) (pa_cons (pe_tup (pa_cons pe_str (pa_cons pe_int pa_nil)))
          (pa_cons (pe_tup (pa_cons pe_int (pa_cons pe_int pa_nil))) (pa_cons (pe_disp (pps_cons pe_str pe_int pps_nil) (by rfl) (by rfl) (fun z => by cases z) (by decide)) (pa_cons (pe_tup (pa_cons pe_str (pa_cons pe_int (pa_cons pe_int pa_nil)))) (pa_cons (pe_tup (pa_cons pe_int (pa_cons pe_int (pa_cons pe_int pa_nil)))) pa_nil))))))))) pa_nil))))
      (pss_cons (ps_for PassesOwn.never rfl (pi_range1 rfl mr (pa_cons (pe_mid (pe_d DO hr (by decide) (by rfl) (pa_cons (pv 0) (pa_cons (pe_lst (pa_cons pe_int (pa_cons pe_int (pa_cons pe_int (pa_cons pe_int (pa_cons pe_int (pa_cons pe_int pa_nil))))))) pa_nil)))) pa_nil)) (pg_name (i := 3) scAny.nd rfl (.inl rfl))
        (pss_one (ps_set (i := 2) scAny.nd rfl (.inl rfl) (pe_d DO hr (by decide) (by rfl) (pa_cons (pv 0) (pa_cons (pe_lst (pa_cons (pe_tup (pa_cons (pv 2) pa_nil)) (pa_cons (pe_lstN (pa_cons (pv 2) pa_nil)) (pa_cons (pe_disp (pps_cons pe_str (pv 2) pps_nil) (by rfl) (by rfl) (fun z => by cases z) (by decide)) (pa_cons (pe_tup (pa_cons (pv 2) (pa_cons pe_int pa_nil))) pa_nil))))) pa_nil))))))
      (pss_one (ps_ret (pv 2))))), ?_⟩
    refine go_asg ?_
    refine mk_some (K := K) (ds := anyA) (mkA_cons mk_non (mkA_cons mk_bl (mkA_cons mk_bl (mkA_cons mk_int (mkA_cons mk_int (mkA_cons mk_neg (mkA_cons mk_int (mkA_cons mk_int (mkA_cons mk_int (mkA_cons mk_int (mkA_cons mk_int (mkA_cons (mk_pow ⟨by decide, by decide, by decide⟩) (mkA_cons mk_str (mkA_cons mk_str (mkA_cons mk_str (mkA_cons mk_str
      (mkA_cons (mk_tup mkA_nil (by decide)) (mkA_cons (mk_lst mkA_nil (by decide)) (mkA_cons mk_dct0 (mkA_cons (mk_tup (mkA_cons mk_int (mkA_cons mk_int mkA_nil)) (by decide)) (mkA_cons (mk_lst (mkA_cons mk_int (mkA_cons mk_int mkA_nil)) (by decide)) mkA_nil))))))))))))))))))))) z0 (by decide) fun a xs H1 s1 n1 e1 d1 l1 => ?_
    have hb1 := hb.same s1
    have ab : a ≠ b := fun z => hb.ne n1 z.symm
    refine ⟨fun σ' H' => ∃ v d, σ' = [some (.ref b), some (.ref a), some v, none] ∧ But b H H' ∧ Box (m + 1) H' b ∧ Dv M K H' v d ∧ fin d (10 ^ 17) = true ∧ d.depth ≤ 2 ∧ big d ≤ 400, ?_, fun σ' H' hM => ?_⟩
    · refine go_as ?_
      refine ⟨.ref b, rfl, .ref a, rfl, mk_some (K := K) (ds := anyB) (mkA_cons (mk_tup (mkA_cons (mk_tup (mkA_cons mk_int (mkA_cons mk_int mkA_nil)) (by decide)) mkA_nil) (by decide)) (mkA_cons (mk_tup (mkA_cons mk_str (mkA_cons mk_int mkA_nil)) (by decide)) (mkA_cons (mk_tup (mkA_cons mk_str (mkA_cons mk_int mkA_nil)) (by decide))
        (mkA_cons (mk_tup (mkA_cons mk_int (mkA_cons mk_int mkA_nil)) (by decide)) (mkA_cons (mk_dct mk_int) (mkA_cons (mk_tup (mkA_cons mk_str (mkA_cons mk_int (mkA_cons mk_int mkA_nil))) (by decide)) (mkA_cons (mk_tup (mkA_cons mk_int (mkA_cons mk_int (mkA_cons mk_int mkA_nil))) (by decide)) mkA_nil)))))))
        (z0.same s1) (by decide) fun p ys H2 s2 n2 e2 d2 l2 => ?_⟩
      have hx : xs.length = 21 := l1
      have hy : ys.length = 7 := l2
      refine ⟨a, p, xs, ys, rfl, rfl, s2 _ _ e1, e2, by rw [hx, hy, sizeLine_eq]; decide, fun r nr => ?_⟩
      have s3 := same_new (o := HO.lst (xs ++ ys)) nr
      have hb3 := (hb1.same s2).same s3
      refine ⟨b, r, xs ++ ys, m, rfl, SqL.of upd_same, fun z => ((hb1.same s2).ne nr) z.symm, by rw [List.length_append, hx, hy]; decide, by rw [List.length_append, hx, hy]; decide, hb3, by omega, fun i v H4 g bt bx same => ?_⟩
      have dall := (DvAll.app (d1.off (Off.same s2)) d2).off (Off.same s3)
      obtain ⟨d, gd, dv⟩ := dall.at g
      have dm := List.mem_of_getElem? gd
      have ok := List.all_eq_true.mp any_ok d dm
      simp only [Bool.and_eq_true, decide_eq_true_eq] at ok
      exact ⟨v, d, rfl, fun x o n e => bt x o n (s3 _ _ (s2 _ _ (s1 _ _ e))), bx, dv.off (Off.but bt hMb), ok.1.1, ok.1.2, ok.2⟩
    · obtain ⟨v, d, rfl, bt, bx, dv, f1, f2, f3⟩ := hM
      refine ⟨fun x H2 => ∃ j : Int, x = .int j ∧ 0 ≤ j ∧ j ≤ 6 ∧ But b H H2 ∧ Box (m + 2) H2 b ∧ Dv M K H2 v d, ?_, fun x H2 hx => ?_⟩
      · refine choose (ds := [.int 0, .int 0, .int 0, .int 1, .int 2, .int 6]) rfl (mkA_cons mk_int (mkA_cons mk_int (mkA_cons mk_int (mkA_cons mk_int (mkA_cons mk_int (mkA_cons mk_int mkA_nil)))))) bx hMb (z0.but bt bx) (by decide) (by decide) (by omega) fun x e H2 em bt2 bx2 dx => ?_
        have hj : ∃ j : Int, e = .int j ∧ 0 ≤ j ∧ j ≤ 6 := by
          simp only [List.mem_cons, List.not_mem_nil, or_false] at em
          rcases em with h | h | h | h | h | h <;> exact ⟨_, h, by decide, by decide⟩
        obtain ⟨j, rfl, j0, j6⟩ := hj
        cases dx
        exact ⟨j, rfl, j0, j6, bt.trans bt2, bx2, dv.off (Off.but bt2 hMb)⟩
      · obtain ⟨j, rfl, j0, j6, bt2, bx2, dv2⟩ := hx
        refine ⟨j, rfl, by omega, by omega, fun i k σ' H' => ∃ v d y, σ' = [some (.ref b), some (.ref a), some v, y] ∧ k = j.toNat - i ∧ i ≤ j.toNat ∧ But b H H' ∧ Box (m + 2 + i) H' b ∧ Dv M K H' v d ∧ fin d (10 ^ 17) = true ∧ d.depth ≤ 2 + i ∧ big d ≤ 400 + 100 * i, ⟨_, v, d, none, rfl, rfl, Nat.zero_le _, bt2, bx2, dv2, f1, f2, f3⟩, ?_⟩
        rintro i k σ' H' ⟨v, d, y, rfl, rfl, hi, bt, bx, dv, f1, f2, f3⟩
        by_cases c : i < j.toNat
        · refine .inr ⟨c, fun σ' H' => ∃ v d y, σ' = [some (.ref b), some (.ref a), some v, y] ∧ But b H H' ∧ Box (m + 2 + (i + 1)) H' b ∧ Dv M K H' v d ∧ fin d (10 ^ 17) = true ∧ d.depth ≤ 2 + (i + 1) ∧ big d ≤ 400 + 100 * (i + 1), ?_, ?_⟩
          · rintro σ' H' ⟨v, d, y, e, x1, x2, x3, x4, x5, x6⟩
            exact ⟨j.toNat - (i + 1), by omega, v, d, y, e, rfl, c, x1, x2, x3, x4, x5, x6⟩
          · rintro x H3 ⟨rfl, rfl⟩
            refine go_name ?_
            refine go_as ?_
            refine choose (ds := [.tuple [d], .list [d], .dict [(.str "a", d)], .tuple [d, .int 1]]) rfl (mkA_cons (mk_tup (mkA_cons (mk_var rfl dv) mkA_nil) (Nat.le_of_ble_eq_true rfl)) (mkA_cons (mk_lst (mkA_cons (mk_var rfl dv) mkA_nil) (Nat.le_of_ble_eq_true rfl)) (mkA_cons (mk_dct (mk_var rfl dv))
              (mkA_cons (mk_tup (mkA_cons (mk_var rfl dv) (mkA_cons mk_int mkA_nil)) (Nat.le_of_ble_eq_true rfl)) mkA_nil)))) bx hMb (z0.but bt bx) (Nat.lt_of_lt_of_eq (by decide : 0 < 4) rfl) (Nat.le_of_ble_eq_true rfl) (by omega) fun x e H2 em bt2 bx2 dx => ?_
            obtain ⟨g1, g2, g3⟩ := nest_ok f1 f2 f3 em
            exact ⟨x, e, _, rfl, bt.trans bt2, bx2, dx, g1, g2, g3⟩
        · refine .inl ⟨Nat.le_of_not_lt c, v, rfl, ?_⟩
          have i6 : i ≤ 6 := by omega
          exact q _ _ d bt (bx.up (by omega)) dv f1 (by omega) (by omega)
end
end Pf
namespace Pf
open PySem PySem.Spec PyProof.Rows L2 Gk
abbrev sBent : Stmt := topS 17
theorem scBent : FnScope ["_law_box_here", "_law_thing", "_law_at", "_law_way", "_law_some"] ["_law_box_here", "_law_thing"] (defScope sBent) := ⟨rfl, rfl, rfl, by decide +kernel, rfl, by decide +kernel, by decide +kernel⟩
theorem boot_isi : bootBuiltins "isinstance" = some (.builtin "isinstance") := by decide +kernel
theorem boot_tup : bootBuiltins "tuple" = some (.type "tuple") := by decide +kernel
theorem boot_int' : bootBuiltins "int" = some (.type "int") := by decide +kernel
theorem boot_boo : bootBuiltins "bool" = some (.type "bool") := by decide +kernel
/-- isinstance(x, T) as a test -/
theorem pt_isi {X : Cx} {e : Expr} {te : TE} {T : Str} {n : String} {p p2 pos : Pos} (hg : Gl X "isinstance") (hm : X.mg "isinstance" = none) (he : PE X e te) (hT : Gl X T) (mT : X.mg T = none) (bT : bootBuiltins T = some (.type n)) (nT : T ≠ "__name__" := by decide) (dT : (T == ("__debug__" : Str)) = false := by decide)
    (h1 : starEach [e, .Name T p2] X.env = (false, eval e X.env) :: starEach [.Name T p2] X.env := by rfl) (h2 : starEach [.Name T p2] X.env = (false, eval (.Name T p2) X.env) :: starEach [] X.env := by rfl) (hpl : (backTo pos (starEach [.Name T p2] X.env)).any (·.1) = false := by rfl)
    (hi : ∀ whole, isTrue (.Call (.Name "isinstance" p) [e, .Name T p2] [] pos) X.env whole = (do let v ← whole; standAt (Expr.Call (.Name "isinstance" p) [e, .Name T p2] [] pos).pos; holding [v] (truthy v)) := by intro _; rfl) :
    PT X (.Call (.Name "isinstance" p) [e, .Name T p2] [] pos) (tB (tCB (rIsi X.K) (tCons te (tCons (tC (.ty n)) tNil)))) :=
  pt_val (pe_callB call_isi hg hm boot_isi (pa_cons he (pa_cons (pe_bltn hT mT bT rfl nT dT) pa_nil h2) h1) (he := h1) (hpl := hpl)) hi
theorem pt_n1 {σ : L2.St} {i n : Nat} (e : σ[i]? = some (some (.int (n : Int)))) : Pt (tPart (tOp (rI0 fun i j => .int (i + j)) (tVar i) (tC (.int 1)))) σ (some ((n + 1 : Nat) : Int)) := pt_v1 e
theorem isi_go {M : Addr → Prop} {K : PySem.W.Frag} {H : Hp} {x : V} {d : PyData} {σ : L2.St} {i : Nat} {n : String} {r : Bool} {Q : Bool → Hp → Prop} (h : Dv M K H x d) (e : σ[i]? = some (some x)) (k : PySem.W.kitOne K (tyD d) (.type n) = some r) (q : Q r H) :
    tB (tCB (rIsi K) (tCons (tVar i) (tCons (tC (.ty n)) tNil))) σ H Q := ⟨x, e, x, .ty n, tyD d, .type n, r, rfl, .ty n, h.ty, k, r, rfl, q⟩
section
variable {P : Program} {w : World} {K : PySem.W.Frag} {mg : Str → Option Value} {base : Heap}
def spBent (K : PySem.W.Frag) (n : Nat) : Sp := fun vs H Q _ => ∃ (M : Addr → Prop) (b : Addr) (x : V) (d : PyData) (m B : Nat), vs = [.ref b, x] ∧ M b ∧ Stands M H ∧ Dv M K H x d ∧ fin d B = true ∧ 10 ^ 17 ≤ B ∧ B ≤ 10 ^ 19 ∧ d.depth < n ∧ big d ≤ 100000 ∧ Box m H b ∧ m + 10 * n ≤ 900000 ∧
  ∀ H' v e, But b H H' → Box (m + 10 * n + 40) H' b → Dv M K H' v e → fin e (B + 1) = true → e.depth ≤ d.depth + 9 → big e ≤ 2 * big d + 1100 → Q v H'
theorem ok_bent {f : Addr} {fd : FuncData} (DT : Dfn P w K mg base 1 "_law_take" ["_law_box_here", "_law_many"] spTake) (DO : Dfn P w K mg base 2 "_law_of" ["_law_box_here", "_law_some"] (spOf K)) (DA : Dfn P w K mg base 3 "_law_any" ["_law_box_here"] (spAny K))
    (ml : mg "len" = none) (mi : mg "isinstance" = none) (mt : mg "tuple" = none) (mn : mg "int" = none) (mb : mg "bool" = none) (ms : mg "str" = none) (mls : mg "list" = none)
    (hf : mg "_law_bent" = some (.ref f)) (bf : Binds K fd ["_law_box_here", "_law_thing"] []) (F : L2.Fun K "_law_bent" "_law_bent" sBent f fd) : ∀ n : Nat, FnOk P w K mg base L2.CX0 (4 + n) f fd ["_law_box_here", "_law_thing"] (spBent K n) := by
  intro n
  induction n with
  | zero =>
    refine F.ok (k := 3) scBent (fun vs H Q E h => ?_) (fun cdv A outer s H vs Q E hr h => ?_)
    · obtain ⟨M, b, x, d, m, B, rfl, _⟩ := h
      rfl
    · obtain ⟨M, b, x, d, m, B, rfl, _, _, _, _, _, _, dd, _⟩ := h
      exact absurd dd (Nat.not_lt_zero _)
  | succ n ih =>
  have DB : Dfn P w K mg base (4 + n) "_law_bent" ["_law_box_here", "_law_thing"] (spBent K n) := ⟨_, _, ih, hf, F.kp, bf⟩
  have k1 : 1 ≤ Nat.add 4 n := Nat.le_trans (by decide : 1 ≤ 4) (Nat.le_add_right 4 n)
  have k2 : 2 ≤ Nat.add 4 n := Nat.le_trans (by decide : 2 ≤ 4) (Nat.le_add_right 4 n)
  have k3 : 3 ≤ Nat.add 4 n := Nat.le_trans (by decide : 3 ≤ 4) (Nat.le_add_right 4 n)
  refine F.ok scBent (fun vs H Q E h => ?_) (fun cdv A outer s H vs Q E hr h => ?_)
  · obtain ⟨M, b, x, d, m, B, rfl, _⟩ := h
    rfl
  · obtain ⟨M, b, x, d, m, B, rfl, hMb, z0, dv, hB, b0, b1, dd, db, hb, hm, q⟩ := h
    refine ⟨_, C8.pss_cut (ps_if (PW.pt (pw_and (pt_isi (by rfl) mi (pv 1) (by rfl) mt boot_tup) (pw_and (pt_cmpR (op_ne0 (Nat.lt_of_le_of_lt (Nat.le_add_right _ 64) hr.units)) (pv 1) (pe_tup pa_nil) (nomark _)) (pw_and1 (pt_cmpR op_gt (pe_d DT hr k1 (by rfl) (pa_cons (pv 0) (pa_cons pe_int pa_nil))) pe_int (nomark _))))))
        (C8.pss_cut (ps_par (i := 2) (j := 3) (by rfl) scBent.nd rfl rfl (by decide) rfl rfl (pa_cons (pe_d DT hr k1 (by rfl) (pa_cons (pv 0) (pa_cons (pe_callB (call_lenK K) (by rfl) ml PySem.boot_len (pa_cons (pv 1) pa_nil)) pa_nil))) (pa_cons (pe_d DT hr k1 (by rfl) (pa_cons (pv 0) (pa_cons pe_int pa_nil))) pa_nil)) (by rfl))
        (C8.pss_cut (ps_if (pt_cmpR op_lt (pv 3) pe_int (nomark _)) (pss_one (ps_ret (pe_op op_catA (pe_op op_catA (pe_slice sl_tupA (pv 1) po_none (po_some (pv 2))) (pe_tup (pa_cons (pe_d DB hr (Nat.le_refl _) (by rfl) (pa_cons (pv 0) (pa_cons (pe_ix (ix_tupK K) (pv 1) (pv 2) (fun _ _ => rfl)) pa_nil))) pa_nil)))
            (pe_slice sl_tupA (pv 1) (po_some (pe_op op_add (pv 2) pe_int)) po_none)))) pss_nil)
        (pss_cons (ps_set (i := 4) scBent.nd rfl (.inl rfl) (pe_lst (pa_cons (pe_op op_catA (pe_slice sl_tupA (pv 1) po_none (po_some (pv 2))) (pe_slice sl_tupA (pv 1) (po_some (pe_op op_add (pv 2) pe_int)) po_none))
            (pa_cons (pe_op op_catA (pe_slice sl_tupA (pv 1) po_none (po_some (pe_op op_add (pv 2) pe_int))) (pe_slice sl_tupA (pv 1) (po_some (pv 2)) po_none))
            (pa_cons (pe_revU (pv 1)) (pa_cons (pe_callTy call_listN (by rfl) mls boot_list (pa_cons (pv 1) pa_nil)) pa_nil))))))
        (pss_one (ps_ret (pe_ix ix_list (pv 4) (pe_op op_sub (pv 3) pe_int) (fun _ _ => rfl))))))) pss_nil)
      (C8.pss_cut (ps_if (PW.pt (pw_and (pt_isi (by rfl) mi (pv 1) (by rfl) mn boot_int') (pw_and (pt_not (pt_isi (by rfl) mi (pv 1) (by rfl) mb boot_boo)) (pw_and1 (pt_cmpR op_gt (pe_d DT hr k1 (by rfl) (pa_cons (pv 0) (pa_cons pe_int pa_nil))) pe_int (nomark _))))))
        (pss_one (ps_ret (pe_d DO hr k2 (by rfl) (pa_cons (pv 0) (pa_cons (pe_lst (pa_cons (pe_op op_add (pv 1) pe_int) (pa_cons (pe_op op_sub (pv 1) pe_int) (pa_cons (pe_op op_sub pe_int (pv 1)) (pa_cons (pe_cmpR op_eq (pv 1) pe_int (nomark _))
            (pa_cons (pe_callTy call_str_int (by rfl) ms boot_str (pa_cons (pv 1) pa_nil)) (pa_cons (pe_tup (pa_cons (pv 1) pa_nil)) (pa_cons pe_non (pa_cons pe_int (pa_cons pe_int pa_nil)))))))))) pa_nil))))) pss_nil)
      (pss_one (ps_ret (pe_d DA hr k3 (by rfl) (pa_cons (pv 0) pa_nil))))), ?_⟩
    refine ⟨fun σ' H' => σ' = [some (.ref b), some x, none, none, none] ∧ But b H H' ∧ Box (m + 1) H' b ∧ Dv M K H' x d, ?_, fun σ' H' hM => ?_⟩
    · refine isi_go dv rfl (kit_tup d) (ite2 (fun c => ?_) (fun c => ⟨rfl, But.refl b H, hb.up (by omega), dv⟩))
      obtain ⟨ds, rfl⟩ : ∃ ds, d = .tuple ds := by cases d <;> first | exact ⟨_, rfl⟩ | exact absurd c Bool.false_ne_true
      obtain ⟨a, xs, rfl, ha, na, da⟩ := tup_of dv
      refine ⟨.ref a, rfl, ⟨Nat.zero_le _, fun p np => ⟨a, p, xs, rfl, rfl, Same.seqT (same_new np) ha, sq_tup upd_same, _, rfl, ite2 (fun e => ?_) (fun e => ⟨rfl, But.new np, (hb.same (same_new np)).up (by omega), dv.off (Off.same (same_new np))⟩)⟩⟩⟩
      have hb1 := hb.same (same_new (o := HO.tup []) np)
      have dv1 := dv.off (Off.same (same_new (o := HO.tup []) np))
      have bt1 : But b H (upd H p (.tup [])) := But.new np
      generalize upd H p (.tup []) = H1 at hb1 dv1 bt1 ⊢
      refine ⟨.ref b, rfl, b, 4, m, rfl, by decide, by decide, hb1, by omega, fun g H2 g0 g1 bt bx same => ⟨_, _, rfl, rfl, _, rfl, ite2 (fun e2 => ?_) (fun e2 => ⟨rfl, bt1.trans bt, bx, dv1.off (Off.but bt hMb)⟩)⟩⟩
      have bt2 := bt1.trans bt
      have dv2 := dv1.off (Off.but bt hMb)
      have nx : 0 < xs.length := by
        cases xs with
        | nil => simp at e
        | cons _ _ => exact Nat.zero_lt_succ _
      have lx : xs.length = ds.length := da.len
      have lb : ds.length ≤ 100000 := by
        have := bigAll_len ds
        simp only [big] at db
        omega
      clear bt same g0 g1 e e2
      refine ⟨fun σ' H' => ∃ (i wy : Nat), σ' = [some (.ref b), some (.ref a), some (.int i), some (.int wy), none] ∧ i < ds.length ∧ wy < 9 ∧ But b H H' ∧ Box (m + 3) H' b ∧ Dv M K H' (.ref a) (.tuple ds), ?_, fun σ' H' hM => ?_⟩
      · obtain ⟨a2, xs2, e2, ha2, na2, da2⟩ := tup_of dv2
        cases e2
        have l2 := da2.len
        refine ⟨.ref b, rfl, .ref a, rfl, a, xs2, rfl, .inr (ha2), b, xs2.length, m + 1, rfl, by omega, by omega, bx, by omega, fun u H3 u0 u1 bt3 bx3 _ => ⟨.ref b, rfl, b, 9, m + 1 + 1, rfl, by decide, by decide, bx3, by omega, fun y H4 y0 y1 bt4 bx4 _ => ?_⟩⟩
        refine ⟨_, _, rfl, u.toNat, y.toNat, ?_, by omega, by omega, (bt2.trans bt3).trans bt4, bx4, dv2.off (Off.but (bt3.trans bt4) hMb)⟩
        rw [Int.toNat_of_nonneg u0, Int.toNat_of_nonneg y0]
        rfl
      · obtain ⟨i, wy, rfl, hi, hw, bt3, bx3, dv3⟩ := hM
        have z3 := z0.but bt3 bx3
        refine ⟨fun σ'' H'' => σ'' = [some (.ref b), some (.ref a), some (.int i), some (.int wy), none] ∧ H'' = H' ∧ 5 ≤ wy, ?_, fun σ'' H'' hM => ?_⟩
        · refine ⟨_, rfl, _, _, rfl, rfl, _, rfl, ite2 (fun e => ?_) (fun e => ⟨rfl, rfl, by have := of_decide_eq_false (Bool.eq_false_iff.mpr e); omega⟩)⟩
          refine go_ret (go_op (go_op ?_))
          refine mk_to (n := i) (mk_var (M := M) (d := .tuple ds) rfl dv3) pt_none (pt_v rfl) H' _ _ (Same.refl _) (fun _ h => h) (fun _ h => .inl h) z3 fun v1 H1 s1 d1 => ?_
          have bx4 := bx3.same s1
          have dv4 := dv3.off (Off.same s1)
          obtain ⟨a4, xs4, e4, ha4, na4, da4⟩ := tup_of dv4
          cases e4
          obtain ⟨el, ge⟩ : ∃ el, ds[i]? = some el := ⟨_, List.getElem?_eq_getElem hi⟩
          have hi4 : i < xs4.length := by rw [da4.len]; exact hi
          have gx : xs4[i]? = some xs4[i] := List.getElem?_eq_getElem hi4
          obtain ⟨el', ge', dve⟩ := da4.at gx
          obtain rfl : el' = el := by rw [ge] at ge'; exact (Option.some.inj ge').symm
          have eok := el_ok hB (List.mem_of_getElem? ge)
          have ebig := el_le ge
          refine ⟨.ref b, rfl, .ref a, rfl, .int i, rfl, a, xs4, i, xs4[i], rfl, rfl, ha4, atI_nat gx, M, b, xs4[i], el', m + 3, B, rfl, hMb, z3.same s1, dve, eok.1, b0, b1, by omega, by omega, bx4, by omega, fun H5 v5 e5 bt5 bx5 dv5 f5 g5 h5 => ⟨by show 1 ≤ sizeLine; decide, fun p5 np5 => ?_⟩⟩
          have s6 := same_new (o := HO.tup [v5]) np5
          have bx6 := bx5.same s6
          have d6 : Dv M K (upd H5 p5 (.tup [v5])) (.ref p5) (.tuple [e5])   := .tup (.inl upd_same) (((z3.same s1).but bt5 bx5).new np5) (.cons (dv5.off (Off.same s6)) .nil)
          have d1' := (d1.off (Off.but bt5 hMb)).off (Off.same s6)
          have dv6 := (dv4.off (Off.but bt5 hMb)).off (Off.same s6)
          have bt6 : But b H (upd H5 p5 (.tup [v5])) := ((bt3.trans (But.of_same s1)).trans bt5).trans (But.of_same s6)
          generalize upd H5 p5 (.tup [v5]) = H6 at bx6 d6 d1' dv6 bt6 ⊢
          refine cat_go d1' d6 (by rw [List.length_take]; simp only [List.length_cons, List.length_nil]; omega) (z0.but bt6 bx6) fun v7 H7 s7 d7 => ?_
          refine mk_from (n := i + 1) (mk_var (M := M) (d := .tuple ds) rfl (dv6.off (Off.same s7))) (pt_n1 rfl) pt_none H7 _ _ (Same.refl _) (fun _ h => h) (fun _ h => .inl h) ((z0.but bt6 bx6).same s7) fun v8 H8 s8 d8 => ?_
          refine cat_go (d7.off (Off.same s8)) d8 (by simp only [List.length_append, List.length_take, List.length_drop, List.length_cons, List.length_nil]; omega) (((z0.but bt6 bx6).same s7).same s8) fun v9 H9 s9 d9 => ?_
          obtain ⟨r1, r2, r3⟩ := put_ok ge hB f5 g5 h5
          exact q H9 v9 _ (((bt6.trans (But.of_same s7)).trans (But.of_same s8)).trans (But.of_same s9)) ((((bx6.same s7).same s8).same s9).up (by omega)) d9 r1 r2 r3
        · obtain ⟨rfl, rfl, w5⟩ := hM
          refine go_asg ?_
          refine mk_some (K := K) (ds := [.tuple (ds.take i ++ ds.drop (i + 1)), .tuple (ds.take (i + 1) ++ ds.drop i), .tuple ds.reverse, .list ds])
            (mkA_cons (mk_cat (mk_to (mk_var rfl dv3) pt_none (pt_v rfl)) (mk_from (mk_var rfl dv3) (pt_n1 rfl) pt_none) (by rw [List.length_take, List.length_drop]; omega))
            (mkA_cons (mk_cat (mk_to (mk_var rfl dv3) pt_none (pt_n1 rfl)) (mk_from (mk_var rfl dv3) (pt_v rfl) pt_none) (by rw [List.length_take, List.length_drop]; omega))
            (mkA_cons (mk_rev (mk_var rfl dv3)) (mkA_cons (mk_list (mk_var rfl dv3)) mkA_nil)))) z3 (Nat.le_of_ble_eq_true rfl) fun p ys H1 s1 n1 e1 d1 l1 => ?_
          have l4 : ys.length = 4 := l1
          have hj : wy - 5 < ys.length := by omega
          have g := List.getElem?_eq_getElem hj
          obtain ⟨e, ge, de⟩ := d1.at g
          have ga := atI_nat g
          rw [show ((wy - 5 : Nat) : Int) = (wy : Int) - 5 by omega] at ga
          refine ⟨.ref p, rfl, .int wy, rfl, _, _, rfl, rfl, p, ys, _, _, rfl, rfl, SqL.of e1, ga, ?_⟩
          obtain ⟨r1, r2, r3⟩ := sub_ok hB (List.mem_of_getElem? ge)
          exact q _ _ e (bt3.trans (But.of_same s1)) ((bx3.same s1).up (by omega)) de r1 r2 r3
    · obtain ⟨rfl, bt, bx, dv1⟩ := hM
      refine ⟨fun σ'' H'' => σ'' = [some (.ref b), some x, none, none, none] ∧ But b H H'' ∧ Box (m + 2) H'' b, ?_, fun σ'' H'' hM => ?_⟩
      · refine isi_go dv1 rfl (kit_int d) (ite2 (fun c => ?_) (fun c => ⟨rfl, bt, bx.up (by omega)⟩))
        refine isi_go dv1 rfl (kit_bool d) (ite2 (fun c2 => ?_) (fun c2 => ⟨rfl, bt, bx.up (by omega)⟩))
        obtain ⟨i, rfl⟩ : ∃ i, d = .int i := by
          cases d with
          | int i => exact ⟨i, rfl⟩
          | bool _ => exact absurd c2 Bool.false_ne_true
          | _ => exact absurd c Bool.false_ne_true
        cases dv1
        refine ⟨.ref b, rfl, b, 4, m + 1, rfl, by decide, by decide, bx, by omega, fun g H2 g0 g1 bt2 bx2 same => ⟨_, _, rfl, rfl, _, rfl, ite2 (fun e2 => ?_) (fun e2 => ⟨rfl, bt.trans bt2, bx2⟩)⟩⟩
        have hi : i.natAbs ≤ B := by simpa only [fin, decide_eq_true_eq] using hB
        have lg := int_log20 (c := i) (by omega)
        refine go_ret ?_
        refine choose (ds := [.int (i + 1), .int (i - 1), .int (1 - i), .bool (decide (V.int i = V.int 1)), .str (Str.ofString (toString i)), .tuple [.int i], .none, .int 64, .int 65]) rfl
          (mkA_cons (mk_gv (v := .int (i + 1)) (fun H Q q => ⟨.int i, rfl, _, _, rfl, rfl, q⟩) fun _ _ => .int _) (mkA_cons (mk_gv (v := .int (i - 1)) (fun H Q q => ⟨.int i, rfl, _, _, rfl, rfl, q⟩) fun _ _ => .int _) (mkA_cons (mk_gv (v := .int (1 - i)) (fun H Q q => ⟨.int i, rfl, _, _, rfl, rfl, q⟩) fun _ _ => .int _)
            (mkA_cons (mk_gv (v := .bl (decide (V.int i = V.int 1))) (fun H Q q => ⟨.int i, rfl, rfl, q⟩) fun _ _ => .bl _) (mkA_cons (mk_gv (v := .str (Str.ofString (toString i))) (fun H Q q => ⟨.int i, rfl, i, rfl, by omega, q⟩) fun _ _ => .str _)
            (mkA_cons (mk_tup (mkA_cons (mk_var rfl (.int i)) mkA_nil) (Nat.le_of_ble_eq_true rfl)) (mkA_cons mk_non (mkA_cons mk_int (mkA_cons mk_int mkA_nil))))))))) bx2 hMb (z0.but (bt.trans bt2) bx2) (Nat.le_of_ble_eq_true rfl) (Nat.le_of_ble_eq_true rfl) (by omega) fun v e H3 em bt3 bx3 d3 => ?_
        obtain ⟨r1, r2, r3⟩ := int_ok hB b0 b1 em
        exact q _ _ e ((bt.trans bt2).trans bt3) (bx3.up (by omega)) d3 r1 r2 r3
      · obtain ⟨rfl, bt2, bx2⟩ := hM
        refine ⟨.ref b, rfl, M, b, m + 2, rfl, hMb, z0.but bt2 bx2, bx2, by omega, fun H3 v3 d3 bt3 bx3 dv3 f1 f2 f3 => ?_⟩
        exact q _ _ d3 (bt2.trans bt3) (bx3.up (by omega)) dv3 (fin_mono (by omega) _ f1) (by omega) (by omega)
end
end Pf
namespace Gk
open PySem PySem.Spec PyProof.Rows L2
/-! ### texts compared with any data -/
section low
open PySem.SeqAt PySem.MeetsSeq PySem.AutoSeq1
variable {A : Around} {s : Shared}
theorem dictEqText (l : Addr) (dd : Option Addr) (data : Data) (sl : Array (Option Value)) (z : Str) (t : Tok) :
    Meets (Builtin.«dict.__eq__» ⟨[.ref l, .str z t], []⟩) (fun _ R s => s.heap.get? l = some { cls := .type "dict", dict := dd, data := data, slots := sl } ∧ R (.ok (.ret .notImplemented)) s) :=
  .of_wp fun prog w A R s h => by
    obtain ⟨hp, g, d, tk, os⟩ := s
    obtain ⟨here, h⟩ := h
    have no := PySem.F.sub_str_dict
    wp_walk using wpAny_load here
    exact ⟨_, rfl, h⟩
theorem textEqDict (l : Addr) (c : Value) (dd : Option Addr) (es : Array DictEntry) (ep : Nat) (sl : Array (Option Value)) (z : Str) (t : Tok) :
    Meets (Builtin.«str.__eq__» ⟨[.str z t, .ref l], []⟩) (fun _ R s => s.heap.get? l = some { cls := c, dict := dd, data := .dict es ep, slots := sl } ∧ R (.ok (.ret .notImplemented)) s) :=
  .of_wp fun prog w A R s h => by
    obtain ⟨hp, g, d, tk, os⟩ := s
    obtain ⟨here, h⟩ := h
    wp_walk using wpAny_loadPart' here, wpAny_load here
    exact ⟨_, rfl, h⟩
theorem rcDictText {l : Addr} {o : Obj} (z : Str) (t : Tok) (here : s.heap.get? l = some o) (c : o.cls = .type "dict" ∧ ∃ es ep, o.data = .dict es ep) (room : A.units < cLine) : RcAt A s (.ref l) (.str z t) false := fun prog w E Q done => by
  obtain ⟨cls, dd, data, sl⟩ := o
  obtain ⟨c, es, ep, e⟩ := c
  have c : cls = .type "dict" := c
  have e : data = .dict es ep := e
  subst c e
  have one : ∀ Q' : Value → Shared → Prop, Q' .notImplemented s → wpAny (model prog w) A (call (.builtin "dict.__eq__") [.ref l, .str z t]) Q' E s := fun Q' hq =>
    call_meets PySem.F.slot_dict_eq ⟨_, here, rfl⟩ PySem.F.entry_dict_eq (PySem.F.args_dict_eq_2 _ _) (dictEqText l dd _ sl z t) ⟨here, hq⟩
  have two : ∀ Q' : Value → Shared → Prop, Q' .notImplemented s → wpAny (model prog w) A (call (.builtin "str.__eq__") [.str z t, .ref l]) Q' E s := fun Q' hq =>
    call_meets PySem.F.slot_str_eq_refl (typeIs_str s z t) PySem.F.entry_str_eq (PySem.F.args_str_eq_2 _ _) (textEqDict l (.type "dict") dd es ep sl z t) ⟨here, hq⟩
  refine rc_eq_decline_or (k := false) ⟨_, here, rfl⟩ (typeIs_str s z t) ?_ PySem.F.sub_str_dict PySem.F.slot_dict_eq PySem.F.slot_str_eq_refl one two ?_ (.inr room) done
  · decide
  · exact fun Q' hq => wpAny_of_eq (rfl : isSame (.ref l) (.str z t) = pure false) hq
theorem rcTextDict {l : Addr} {o : Obj} (z : Str) (t : Tok) (here : s.heap.get? l = some o) (c : o.cls = .type "dict" ∧ ∃ es ep, o.data = .dict es ep) (room : A.units < cLine) : RcAt A s (.str z t) (.ref l) false := fun prog w E Q done => by
  obtain ⟨cls, dd, data, sl⟩ := o
  obtain ⟨c, es, ep, e⟩ := c
  have c : cls = .type "dict" := c
  have e : data = .dict es ep := e
  subst c e
  have one : ∀ Q' : Value → Shared → Prop, Q' .notImplemented s → wpAny (model prog w) A (call (.builtin "str.__eq__") [.str z t, .ref l]) Q' E s := fun Q' hq =>
    call_meets PySem.F.slot_str_eq (typeIs_str s z t) PySem.F.entry_str_eq (PySem.F.args_str_eq_2 _ _) (textEqDict l (.type "dict") dd es ep sl z t) ⟨here, hq⟩
  have two : ∀ Q' : Value → Shared → Prop, Q' .notImplemented s → wpAny (model prog w) A (call (.builtin "dict.__eq__") [.ref l, .str z t]) Q' E s := fun Q' hq =>
    call_meets PySem.F.slot_dict_eq_refl ⟨_, here, rfl⟩ PySem.F.entry_dict_eq (PySem.F.args_dict_eq_2 _ _) (dictEqText l dd _ sl z t) ⟨here, hq⟩
  refine rc_eq_decline_or (k := false) (typeIs_str s z t) ⟨_, here, rfl⟩ ?_ PySem.F.sub_dict_str PySem.F.slot_str_eq PySem.F.slot_dict_eq_refl one two ?_ (.inr room) done
  · decide
  · exact fun Q' hq => wpAny_of_eq (rfl : isSame (.str z t) (.ref l) = pure false) hq
theorem eqTextDict {l : Addr} {o : Obj} (z : Str) (t : Tok) (here : s.heap.get? l = some o) (c : o.cls = .type "dict" ∧ ∃ es ep, o.data = .dict es ep) (room : A.units < cLine) : EqAt A s (.str z t) (.ref l) false := fun prog w E Q done => by
  unfold eqBool
  refine wpAny_holding (wpAny_ite_split (fun same => nomatch eq_of_beq same) (fun _ => wpAny_bind ?_))
  exact rcTextDict z t here c room prog w E _ (wpAny_truthy_bool done)
/-- whether data is just this text -/
def isTxt (z : Str) : PyData → Bool
  | .str t => t == z
  | _ => false
def isTxt' (z : Str) : PyData → Bool
  | .str t => z == t
  | _ => false
theorem isTxt_flip (z : Str) (d : PyData) : isTxt' z d = isTxt z d := by
  cases d <;> try rfl
  exact Bool.eq_iff_iff.mpr ⟨fun h => beq_iff_eq.mpr (beq_iff_eq.mp h).symm, fun h => beq_iff_eq.mpr (beq_iff_eq.mp h).symm⟩
end low
section
variable {X : Cx} {pins : List (Addr × Obj)} {σ : L2.St} {H : Hp} {s : Shared}
open PySem.SeqAt
theorem dct_here {a : Addr} {kvs : List (Key × V)} (I : Inv X pins σ H s) (h : H a = some (.dK kvs)) : ∃ o, s.heap.get? a = some o ∧ o.cls = .type "dict" ∧ ∃ es ep, o.data = .dict es ep := by
  obtain ⟨_, _, vs, _, o, es, ep, h1, h2, h3, _⟩ := (show ObjOk X.prog X.w H s.heap a (.dK kvs) from I.hok a _ h)
  exact ⟨o, h1, h2.1, es, ep, h3⟩
theorem lst_here {a : Addr} {xs : List V} (I : Inv X pins σ H s) (h : SqL X.K H a xs) : ∃ its, s.heap.IsList a its := by
  obtain ⟨its, _, p, _⟩ := I.list h
  exact ⟨_, p.isList⟩
theorem tup_here {a : Addr} {xs : List V} (I : Inv X pins σ H s) (h : SqT X.K H a xs) : ∃ its, s.heap.IsTuple a its := by
  obtain ⟨its, _, p, _⟩ := I.tuple h
  obtain ⟨o, ho, hc, n, hd⟩ := p
  exact ⟨_, _, ho, hc, n, hd⟩
theorem rc_txt {M : Addr → Prop} {A : Around} {x : V} {v : Value} {d : PyData} (I : Inv X pins σ H s) (hx : Dv M X.K H x d) (rx : RelV x v) (z : Str) (t : Tok) (room : A.units < cLine) : RcAt A s v (.str z t) (isTxt z d) := by
  cases hx with
  | non => cases rx; exact RcAt.none_str _ _
  | bl b => cases rx; exact RcAt.bool_str _ _ _
  | int i => obtain ⟨u, rfl⟩ := rx; exact RcAt.int_str _ _ _ _
  | str y => obtain ⟨u, rfl⟩ := rx; exact RcAt.str_str _ _ _ _
  | lst h _ _ _ =>
    cases rx
    obtain ⟨its, g⟩ := lst_here I (SqL.of h)
    exact RcAt.list_str _ _ g room
  | tup h n r =>
    cases rx
    obtain ⟨its, g⟩ := tup_here I (.inl h)
    exact RcAt.tuple_str _ _ g room
  | tupK h r =>
    cases rx
    obtain ⟨its, g⟩ := tup_here I (.inr h)
    exact RcAt.tuple_str _ _ g room
  | dct h _ _ _ _ =>
    cases rx
    obtain ⟨o, g, c⟩ := dct_here I h
    exact rcDictText _ _ g c room
theorem eq_txt {M : Addr → Prop} {A : Around} {x : V} {v : Value} {d : PyData} (I : Inv X pins σ H s) (hx : Dv M X.K H x d) (rx : RelV x v) (z : Str) (t : Tok) (room : A.units < cLine) : EqAt A s (.str z t) v (isTxt' z d) := by
  cases hx with
  | non => cases rx; exact EqAt.str_none _ _
  | bl b => cases rx; exact EqAt.str_bool _ _ _
  | int i => obtain ⟨u, rfl⟩ := rx; exact EqAt.str_int _ _ _ _
  | str y => obtain ⟨u, rfl⟩ := rx; exact EqAt.str_str _ _ _ _
  | lst h _ _ _ =>
    cases rx
    obtain ⟨its, g⟩ := lst_here I (SqL.of h)
    exact EqAt.str_list _ _ g room
  | tup h n r =>
    cases rx
    obtain ⟨its, g⟩ := tup_here I (.inl h)
    exact EqAt.str_tuple _ _ g room
  | tupK h r =>
    cases rx
    obtain ⟨its, g⟩ := tup_here I (.inr h)
    exact EqAt.str_tuple _ _ g room
  | dct h _ _ _ _ =>
    cases rx
    obtain ⟨o, g, c⟩ := dct_here I h
    exact eqTextDict _ _ g c room
end
/-! the operators -/
def rEqTxt (K : PySem.W.Frag) : R2 := fun x y H Q => ∃ (M : Addr → Prop) (d : PyData) (z : Str), Dv M K H x d ∧ y = .str z ∧ Q (.bl (isTxt z d)) H
theorem op_eqTxt {X : Cx} (hu : X.A.units < cLine) : OpR X (compareOp .Eq) (rEqTxt X.K) := by
  intro pins s σ H x y v u Q I rx ry h
  obtain ⟨M, d, z, hd, rfl, q⟩ := h
  obtain ⟨t, rfl⟩ := ry
  exact rc_txt I hd rx z t hu X.prog X.w X.xe (EP X pins σ Q) ⟨.bl _, H, I, rfl, q⟩
def rInTxt (K : PySem.W.Frag) : R2 := fun x y H Q => ∃ (M : Addr → Prop) (d : PyData) (a : Addr) (zs : List Str), Dv M K H x d ∧ y = .ref a ∧ SqT K H a (zs.map V.str) ∧ Q (.bl (zs.any fun z => isTxt z d)) H
theorem any_txt {zs : List Str} : ∀ {its : List Value}, Vals (zs.map V.str) its → ∀ d : PyData, (its.toArray.any fun y => match y with | .str z _ => isTxt' z d | _ => false) = zs.any fun z => isTxt z d := by
  induction zs with
  | nil => intro its h d; cases h; simp
  | cons z zs ih =>
    intro its h d
    cases h with
    | cons h t =>
      obtain ⟨u, rfl⟩ := h
      have := ih t d
      simp only [List.any_toArray, List.any_cons] at this ⊢
      rw [this, isTxt_flip]
theorem vals_str {zs : List Str} : ∀ {its : List Value}, Vals (zs.map V.str) its → ∀ y ∈ its, ∃ z t, y = Value.str z t := by
  induction zs with
  | nil => intro its h y hy; cases h; cases hy
  | cons z zs ih =>
    intro its h y hy
    cases h with
    | cons h t =>
      obtain ⟨u, rfl⟩ := h
      rcases List.mem_cons.mp hy with e | hy
      · exact ⟨z, u, e⟩
      · exact ih t y hy
theorem op_inTxt {X : Cx} (hu : X.A.units + 1 < cLine) : OpR X (compareOp .In) (rInTxt X.K) := by
  intro pins s σ H x y v u Q I rx ry h
  obtain ⟨M, d, a, zs, hd, rfl, ha, q⟩ := h
  cases ry
  obtain ⟨its, r, p, _⟩ := I.tuple ha
  obtain ⟨o, ho, hc, n, hdt⟩ := p
  have seen : ∀ y, y ∈ its.toArray → ∃ z t, y = Value.str z t := fun y hy => vals_str r y (by simpa using hy)
  refine SeqAt.in_tupleAt (fun y => match y with | .str z _ => isTxt' z d | _ => false) ⟨o, ho, hc, n, hdt⟩ (fun y hy => ?_) ⟨.bl _, H, I, ?_, q⟩
  · obtain ⟨z, t, rfl⟩ := seen y hy
    exact eq_txt I hd rx z t hu
  · show Value.bool _ = Value.bool _
    rw [any_txt r d]
end Gk
namespace Pf
open PySem PySem.Spec PyProof.Rows L2 Gk
/-! ### what the looks tell -/
def isInt (lo hi : Int) : PyData → Bool
  | .int i => decide (lo ≤ i) && decide (i ≤ hi)
  | _ => false
def isSized (lo hi : Int) : PyData → Bool
  | .tuple ds => decide (lo ≤ (ds.length : Int)) && decide ((ds.length : Int) ≤ hi)
  | _ => false
def spLook (K : PySem.W.Frag) (p : PyData → Bool) : Sp := fun vs H Q _ => ∃ (M : Addr → Prop) (x : V) (d : PyData), vs = [x] ∧ Dv M K H x d ∧ big d ≤ 10000000 ∧ ∀ H', Same H H' → Q (.bl (p d)) H'
theorem sized_tup {lo hi : Int} {d : PyData} (c : isSized lo hi d = true) : ∃ ds, d = .tuple ds ∧ lo ≤ (ds.length : Int) ∧ (ds.length : Int) ≤ hi := by
  cases d with
  | tuple ds =>
    have c : (decide (lo ≤ (ds.length : Int)) && decide ((ds.length : Int) ≤ hi)) = true := c
    simp only [Bool.and_eq_true, decide_eq_true_eq] at c
    exact ⟨ds, rfl, c⟩
  | _ => exact absurd c Bool.false_ne_true
theorem pe_isi {X : Cx} {e : Expr} {te : TE} {T : Str} {n : String} {p p2 pos : Pos} (hg : Gl X "isinstance") (hm : X.mg "isinstance" = none) (he : PE X e te) (hT : Gl X T) (mT : X.mg T = none) (bT : bootBuiltins T = some (.type n)) (nT : T ≠ "__name__" := by decide) (dT : (T == ("__debug__" : Str)) = false := by decide)
    (h1 : starEach [e, .Name T p2] X.env = (false, eval e X.env) :: starEach [.Name T p2] X.env := by rfl) (h2 : starEach [.Name T p2] X.env = (false, eval (.Name T p2) X.env) :: starEach [] X.env := by rfl) (hpl : (backTo pos (starEach [.Name T p2] X.env)).any (·.1) = false := by rfl) :
    PE X (.Call (.Name "isinstance" p) [e, .Name T p2] [] pos) (tCB (rIsi X.K) (tCons te (tCons (tC (.ty n)) tNil))) :=
  pe_callB call_isi hg hm boot_isi (pa_cons he (pa_cons (pe_bltn hT mT bT rfl nT dT) pa_nil h2) h1) (he := h1) (hpl := hpl)
theorem isiV_go {M : Addr → Prop} {K : PySem.W.Frag} {H : Hp} {x : V} {d : PyData} {σ : L2.St} {i : Nat} {n : String} {r : Bool} {Q : VK} (h : Dv M K H x d) (e : σ[i]? = some (some x)) (k : PySem.W.kitOne K (tyD d) (.type n) = some r) (q : Q (.bl r) H) :
    tCB (rIsi K) (tCons (tVar i) (tCons (tC (.ty n)) tNil)) σ H Q := ⟨x, e, x, .ty n, tyD d, .type n, r, rfl, .ty n, h.ty, k, q⟩
def spWithin (K : PySem.W.Frag) : Sp := fun vs H Q _ => ∃ (M : Addr → Prop) (x : V) (d : PyData) (lo hi : Int), vs = [x, .int lo, .int hi] ∧ Dv M K H x d ∧ Q (.bl (isInt lo hi d)) H
def spLook0 (K : PySem.W.Frag) (p : PyData → Bool) : Sp := fun vs H Q _ => ∃ (M : Addr → Prop) (x : V) (d : PyData), vs = [x] ∧ Dv M K H x d ∧ Q (.bl (p d)) H
def spSized (K : PySem.W.Frag) : Sp := fun vs H Q _ => ∃ (M : Addr → Prop) (x : V) (d : PyData) (lo hi : Int), vs = [x, .int lo, .int hi] ∧ Dv M K H x d ∧ Q (.bl (isSized lo hi d)) H
section
variable {P : Program} {w : World} {K : PySem.W.Frag} {mg : Str → Option Value} {base : Heap}
theorem within_go {M : Addr → Prop} {H : Hp} {x : V} {d : PyData} {lo hi : Int} {Q : VK} (h : Dv M K H x d) (q : Q (.bl (isInt lo hi d)) H) :
    tAndV (tCB (rIsi K) (tCons (tVar 0) (tCons (tC (.ty "int")) tNil))) (tAndV (tNotV (tCB (rIsi K) (tCons (tVar 0) (tCons (tC (.ty "bool")) tNil))))
      (tChain (rI0 fun i j => .bl (decide (i ≤ j))) (rI0 fun i j => .bl (decide (i ≤ j))) (tVar 1) (tVar 0) (tVar 2))) [some x, some (.int lo), some (.int hi)] H Q := by
  refine isiV_go h rfl (kit_int d) ⟨_, rfl, ite2 (fun c => ?_) (fun c => ?_)⟩
  · refine isiV_go h rfl (kit_bool d) ⟨_, rfl, ⟨_, rfl, ite2 (fun c2 => ?_) (fun c2 => ?_)⟩⟩
    · obtain ⟨i, rfl⟩ : ∃ i, d = .int i := by
        cases d with
        | int i => exact ⟨i, rfl⟩
        | bool _ => exact absurd c2 Bool.false_ne_true
        | _ => exact absurd c Bool.false_ne_true
      cases h
      refine ⟨.int lo, rfl, .int i, rfl, lo, i, rfl, rfl, _, rfl, ite2 (fun e => ?_) (fun e => ?_)⟩
      · refine ⟨.int hi, rfl, i, hi, rfl, rfl, ?_⟩
        have : isInt lo hi (.int i) = decide (i ≤ hi) := by
          show (decide (lo ≤ i) && decide (i ≤ hi)) = _
          rw [e, Bool.true_and]
        rwa [this] at q
      · have : isInt lo hi (.int i) = false := by
          show (decide (lo ≤ i) && decide (i ≤ hi)) = _
          rw [Bool.eq_false_iff.mpr e, Bool.false_and]
        rwa [this] at q
    · have : isInt lo hi d = false := by cases d <;> first | rfl | exact absurd rfl c2
      rwa [this] at q
  · have : isInt lo hi d = false := by cases d <;> first | rfl | exact absurd rfl c
    rwa [this] at q
abbrev sInteger : Stmt := topS 5
theorem scInteger : FnScope ["value"] ["value"] (defScope sInteger) := ⟨rfl, rfl, rfl, by decide +kernel, rfl, by decide +kernel, by decide +kernel⟩
def isIntegerD : PyData → Bool
  | .int _ => true
  | _ => false
def spInteger (K : PySem.W.Frag) : Sp := fun vs H Q _ => ∃ (M : Addr → Prop) (x : V) (d : PyData), vs = [x] ∧ Dv M K H x d ∧ Q (.bl (isIntegerD d)) H
theorem ok_integer {f : Addr} {fd : FuncData} (mi : mg "isinstance" = none) (mn : mg "int" = none) (mb : mg "bool" = none) (F : L2.Fun K "is_integer" "is_integer" sInteger f fd) : FnOk P w K mg base L2.CX0 1 f fd ["value"] (spInteger K) := by
  refine F.ok scInteger (fun vs H Q E h => ?_) (fun cdv A outer s H vs Q E hr h => ?_)
  · obtain ⟨M, x, d, rfl, _⟩ := h
    rfl
  · obtain ⟨M, x, d, rfl, dv, q⟩ := h
    refine ⟨_, pss_one (ps_ret (pe_and (pe_isi (by rfl) mi (pv 0) (by rfl) mn boot_int') (pe_one (pe_not (pe_isi (by rfl) mi (pv 0) (by rfl) mb boot_boo))))), ?_⟩
    refine isiV_go dv rfl (kit_int d) ⟨_, rfl, ite2 (fun c => ?_) (fun c => ?_)⟩
    · refine isiV_go dv rfl (kit_bool d) ⟨_, rfl, ?_⟩
      cases d with
      | int i => exact q
      | bool _ => exact q
      | _ => exact absurd c Bool.false_ne_true
    · have : isIntegerD d = false := by cases d <;> first | rfl | exact absurd rfl c
      rwa [this] at q
abbrev sWithin : Stmt := topS 6
theorem scWithin : FnScope ["value", "low", "high"] ["value", "low", "high"] (defScope sWithin) := ⟨rfl, rfl, rfl, by decide +kernel, rfl, by decide +kernel, by decide +kernel⟩
theorem ok_within {f : Addr} {fd : FuncData} (DI : Dfn P w K mg base 1 "is_integer" ["value"] (spInteger K)) (F : L2.Fun K "is_within" "is_within" sWithin f fd) : FnOk P w K mg base L2.CX0 2 f fd ["value", "low", "high"] (spWithin K) := by
  refine F.ok scWithin (fun vs H Q E h => ?_) (fun cdv A outer s H vs Q E hr h => ?_)
  · obtain ⟨M, x, d, lo, hi, rfl, _⟩ := h
    rfl
  · obtain ⟨M, x, d, lo, hi, rfl, dv, q⟩ := h
    refine ⟨_, pss_one (ps_ret (pe_and (pe_d DI hr (by decide) (by rfl) (pa_cons (pv 0) pa_nil)) (pe_one (pe_chain op_le op_le (pv 1) (pv 0) (pv 2))))), ?_⟩
    refine ⟨x, rfl, M, x, d, rfl, dv, _, rfl, ite2 (fun c => ?_) (fun c => ?_)⟩
    · obtain ⟨i, rfl⟩ : ∃ i, d = .int i := by
        cases d with
        | int i => exact ⟨i, rfl⟩
        | _ => exact absurd c Bool.false_ne_true
      cases dv
      refine ⟨.int lo, rfl, .int i, rfl, lo, i, rfl, rfl, _, rfl, ite2 (fun e => ?_) (fun e => ?_)⟩
      · refine ⟨.int hi, rfl, i, hi, rfl, rfl, ?_⟩
        have : isInt lo hi (.int i) = decide (i ≤ hi) := by
          show (decide (lo ≤ i) && decide (i ≤ hi)) = _
          rw [e, Bool.true_and]
        rwa [this] at q
      · have : isInt lo hi (.int i) = false := by
          show (decide (lo ≤ i) && decide (i ≤ hi)) = _
          rw [Bool.eq_false_iff.mpr e, Bool.false_and]
        rwa [this] at q
    · have : isInt lo hi d = false := by cases d <;> first | rfl | exact absurd rfl c
      rwa [this] at q
abbrev sIsInt : Stmt := topS 18
theorem scIsInt : FnScope ["_law_thing", "_law_least", "_law_most"] ["_law_thing", "_law_least", "_law_most"] (defScope sIsInt) := ⟨rfl, rfl, rfl, by decide +kernel, rfl, by decide +kernel, by decide +kernel⟩
theorem ok_isint {f : Addr} {fd : FuncData} (mi : mg "isinstance" = none) (mn : mg "int" = none) (mb : mg "bool" = none) (F : L2.Fun K "_law_is_int" "_law_is_int" sIsInt f fd) : FnOk P w K mg base L2.CX0 1 f fd ["_law_thing", "_law_least", "_law_most"] (spWithin K) := by
  refine F.ok scIsInt (fun vs H Q E h => ?_) (fun cdv A outer s H vs Q E hr h => ?_)
  · obtain ⟨M, x, d, lo, hi, rfl, _⟩ := h
    rfl
  · obtain ⟨M, x, d, lo, hi, rfl, dv, q⟩ := h
    exact ⟨_, pss_one (ps_ret (pe_and (pe_isi (by rfl) mi (pv 0) (by rfl) mn boot_int') (pe_and (pe_not (pe_isi (by rfl) mi (pv 0) (by rfl) mb boot_boo)) (pe_one (pe_chain op_le op_le (pv 1) (pv 0) (pv 2)))))), within_go dv q⟩
abbrev sSized : Stmt := topS 7
theorem scSized : FnScope ["value", "least", "most"] ["value", "least", "most"] (defScope sSized) := ⟨rfl, rfl, rfl, by decide +kernel, rfl, by decide +kernel, by decide +kernel⟩
theorem ok_sized {f : Addr} {fd : FuncData} (ml : mg "len" = none) (mi : mg "isinstance" = none) (mt : mg "tuple" = none) (F : L2.Fun K "is_tuple_sized" "is_tuple_sized" sSized f fd) : FnOk P w K mg base L2.CX0 1 f fd ["value", "least", "most"] (spSized K) := by
  refine F.ok scSized (fun vs H Q E h => ?_) (fun cdv A outer s H vs Q E hr h => ?_)
  · obtain ⟨M, x, d, lo, hi, rfl, _⟩ := h
    rfl
  · obtain ⟨M, x, d, lo, hi, rfl, dv, q⟩ := h
    refine ⟨_, pss_one (ps_ret (pe_and (pe_isi (by rfl) mi (pv 0) (by rfl) mt boot_tup) (pe_one (pe_chain op_le op_le (pv 1) (pe_callB (call_lenK K) (by rfl) ml PySem.boot_len (pa_cons (pv 0) pa_nil)) (pv 2))))), ?_⟩
    refine isiV_go dv rfl (kit_tup d) ⟨_, rfl, ite2 (fun c => ?_) (fun c => ?_)⟩
    · obtain ⟨ds, rfl⟩ : ∃ ds, d = .tuple ds := by cases d <;> first | exact ⟨_, rfl⟩ | exact absurd c Bool.false_ne_true
      obtain ⟨a, xs, rfl, ha, na, da⟩ := tup_of dv
      have ll := da.len
      refine ⟨.int lo, rfl, .ref a, rfl, a, xs, rfl, .inr (ha), lo, xs.length, rfl, rfl, _, rfl, ite2 (fun e => ?_) (fun e => ?_)⟩
      · refine ⟨.int hi, rfl, xs.length, hi, rfl, rfl, ?_⟩
        have : isSized lo hi (.tuple ds) = decide ((xs.length : Int) ≤ hi) := by
          show (decide (lo ≤ (ds.length : Int)) && decide ((ds.length : Int) ≤ hi)) = _
          rw [← ll, e, Bool.true_and]
        rwa [this] at q
      · have : isSized lo hi (.tuple ds) = false := by
          show (decide (lo ≤ (ds.length : Int)) && decide ((ds.length : Int) ≤ hi)) = _
          rw [← ll, Bool.eq_false_iff.mpr e, Bool.false_and]
        rwa [this] at q
    · have : isSized lo hi d = false := by cases d <;> first | rfl | exact absurd rfl c
      rwa [this] at q
end
end Pf
namespace Pf
open PySem PySem.Spec PyProof.Rows L2 Gk
def wordsP : List Str := ["own", "split", "shared"]
def isWord (d : PyData) : Bool := wordsP.any fun z => isTxt z d
def isPlanD : PyData → Bool
  | .tuple [w, z] => isInt 0 64 z && isWord w
  | .tuple [w, z, t] => isInt 0 64 z && (isTxt "folded" w && isInt 0 16 t)
  | _ => false
def topOf : PyData → Int
  | .int n => 1 * 2 ^ n.toNat - 1
  | _ => 0
def isGauD : PyData → Bool
  | .tuple [n, v] => isInt 1 4 n && isInt 0 (topOf n) v
  | _ => false
def isSt : PyData → Bool
  | .str _ => true
  | _ => false
theorem boot_st : bootBuiltins "str" = some (.type "str") := by decide +kernel
theorem kit_str {K : PySem.W.Frag} (d : PyData) : PySem.W.kitOne K (tyD d) (.type "str") = some (isSt d) := by
  have t : ∀ x ∈ ["NoneType", "bool", "int", "list", "tuple", "dict"], kitB x "str" = some false := by decide +kernel
  cases d with
  | none => exact L2.kit_ty (t "NoneType" (by decide))
  | bool _ => exact L2.kit_ty (t "bool" (by decide))
  | int _ => exact L2.kit_ty (t "int" (by decide))
  | list _ => exact L2.kit_ty (t "list" (by decide))
  | dict _ => exact L2.kit_ty (t "dict" (by decide))
  | tuple _ => exact L2.kit_ty (t "tuple" (by decide))
  | str _ => exact L2.kit_ty (show kitB "str" "str" = some true by decide +kernel)
theorem plan_short {d : PyData} (h : ¬ isSized 2 3 d = true) : isPlanD d = false := by
  cases d with
  | tuple ds =>
    match ds, h with
    | [], _ => rfl
    | [_], _ => rfl
    | [_, _], h => exact absurd rfl h
    | [_, _, _], h => exact absurd rfl h
    | _ :: _ :: _ :: _ :: _, _ => rfl
  | _ => rfl
theorem gau_short {d : PyData} (h : ¬ isSized 2 2 d = true) : isGauD d = false := by
  cases d with
  | tuple ds =>
    match ds, h with
    | [], _ => rfl
    | [_], _ => rfl
    | [_, _], h => exact absurd rfl h
    | _ :: _ :: _ :: _, _ => rfl
  | _ => rfl
section
variable {P : Program} {w : World} {K : PySem.W.Frag} {mg : Str → Option Value} {base : Heap}
theorem two_of {M : Addr → Prop} {H : Hp} {xs : List V} {ds : List PyData} (h : DvAll M K H xs ds) (l : ds.length = 2) : ∃ v0 v1 d0 d1, xs = [v0, v1] ∧ ds = [d0, d1] ∧ Dv M K H v0 d0 ∧ Dv M K H v1 d1 := by
  cases h with
  | nil => cases l
  | cons h0 t =>
    cases t with
    | nil => cases l
    | cons h1 t =>
      cases t with
      | nil => exact ⟨_, _, _, _, rfl, rfl, h0, h1⟩
      | cons _ _ => simp only [List.length_cons] at l; omega
theorem three_of {M : Addr → Prop} {H : Hp} {xs : List V} {ds : List PyData} (h : DvAll M K H xs ds) (l : ds.length = 3) : ∃ v0 v1 v2 d0 d1 d2, xs = [v0, v1, v2] ∧ ds = [d0, d1, d2] ∧ Dv M K H v0 d0 ∧ Dv M K H v1 d1 ∧ Dv M K H v2 d2 := by
  cases h with
  | nil => cases l
  | cons h0 t =>
    obtain ⟨v1, v2, d1, d2, rfl, rfl, h1, h2⟩ := two_of t (by simp only [List.length_cons] at l; omega)
    exact ⟨_, _, _, _, _, _, rfl, rfl, h0, h1, h2⟩
abbrev sScheme : Stmt := topS 8
abbrev sCounter : Stmt := topS 9
theorem scScheme : FnScope ["value"] ["value"] (defScope sScheme) := ⟨rfl, rfl, rfl, by decide +kernel, rfl, by decide +kernel, by decide +kernel⟩
theorem scCounter : FnScope ["value"] ["value"] (defScope sCounter) := ⟨rfl, rfl, rfl, by decide +kernel, rfl, by decide +kernel, by decide +kernel⟩
theorem ok_scheme {f : Addr} {fd : FuncData} {pw : Addr} (DS : Dfn P w K mg base 1 "is_tuple_sized" ["value", "least", "most"] (spSized K)) (DW : Dfn P w K mg base 2 "is_within" ["value", "low", "high"] (spWithin K)) (ml : mg "len" = none)
    (cM : ∃ u, mg "MOST_LENGTH" = some u ∧ RelV (.int 64) u) (cF : ∃ u, mg "MOST_FOLD_BITS" = some u ∧ RelV (.int 16) u) (cP : ∃ u, mg "PLAIN_WORDS" = some u ∧ RelV (.ref pw) u) (hP : ∀ H, SqT K H pw (wordsP.map V.str))
    (F : L2.Fun K "is_scheme" "is_scheme" sScheme f fd) : FnOk P w K mg base L2.CX0 3 f fd ["value"] (spLook K isPlanD) := by
  refine F.ok scScheme (fun vs H Q E h => ?_) (fun cdv A outer s H vs Q E hr h => ?_)
  · obtain ⟨M, x, d, rfl, _⟩ := h
    rfl
  · obtain ⟨M, x, d, rfl, dv, _, q0⟩ := h
    have q := q0 H (Same.refl H)
    refine ⟨_, pss_cons (ps_if (PW.pt (pw_or (pt_not (pt_val (pe_d DS hr (by decide) (by rfl) (pa_cons (pv 0) (pa_cons pe_int (pa_cons pe_int pa_nil)))))) (pw_or1 (pt_not (pt_val (pe_d DW hr (by decide) (by rfl) (pa_cons (pe_ix (ix_tupK K) (pv 0) pe_int (fun _ _ => rfl)) (pa_cons pe_int (pa_cons (C8.pe_gc (by rfl) cM) pa_nil)))))))))
        (pss_one (ps_ret pe_bl)) pss_nil)
      (pss_cons (ps_if (pt_cmpR op_eq (pe_callB (call_lenK K) (by rfl) ml PySem.boot_len (pa_cons (pv 0) pa_nil)) pe_int (nomark _)) (pss_one (ps_ret (pe_cmpR (op_inTxt (Nat.lt_of_le_of_lt (Nat.add_le_add_left (by decide : 1 ≤ 64) _) hr.units)) (pe_ix (ix_tupK K) (pv 0) pe_int (fun _ _ => rfl)) (C8.pe_gc (by rfl) cP) (by rfl)))) pss_nil)
      (pss_one (ps_ret (pe_and (pe_cmpR (op_eqTxt (Nat.lt_of_le_of_lt (Nat.le_add_right _ 64) hr.units)) (pe_ix (ix_tupK K) (pv 0) pe_int (fun _ _ => rfl)) pe_str (nomark _))
        (pe_one (pe_d DW hr (by decide) (by rfl) (pa_cons (pe_ix (ix_tupK K) (pv 0) pe_int (fun _ _ => rfl)) (pa_cons pe_int (pa_cons (C8.pe_gc (by rfl) cF) pa_nil))))))))), ?_⟩
    have no : isPlanD d = false → Q (.bl false) H := fun e => by rwa [e] at q
    refine ⟨x, rfl, M, x, d, 2, 3, rfl, dv, ?_⟩
    by_cases c : isSized 2 3 d = true
    · rw [c]
      obtain ⟨ds, rfl, c1, c2⟩ := sized_tup c
      obtain ⟨a, xs, rfl, ha, na, da⟩ := tup_of dv
      by_cases two : ds.length = 2
      · obtain ⟨v0, v1, d0, d1, rfl, rfl, h0, h1⟩ := two_of da two
        refine ⟨_, rfl, .ref a, rfl, a, _, 1, v1, rfl, rfl, ha, rfl, M, v1, d1, 0, 64, rfl, h1, ?_⟩
        by_cases e : isInt 0 64 d1 = true
        · rw [e]
          have : isPlanD (.tuple [d0, d1]) = isWord d0 := by
            show (isInt 0 64 d1 && isWord d0) = _
            rw [e, Bool.true_and]
          rw [this] at q
          exact ⟨_, rfl, .ref a, rfl, a, _, rfl, .inr ha, rfl, _, rfl, .ref a, rfl, a, _, 0, v0, rfl, rfl, ha, rfl, M, d0, pw, _, h0, rfl, hP H, q⟩
        · have e : isInt 0 64 d1 = false := by simpa using e
          rw [e]
          exact ⟨_, rfl, no (by show (isInt 0 64 d1 && isWord d0) = false; rw [e, Bool.false_and])⟩
      · obtain ⟨v0, v1, v2, d0, d1, d2, rfl, rfl, h0, h1, h2⟩ := three_of da (by omega)
        refine ⟨_, rfl, .ref a, rfl, a, _, 1, v1, rfl, rfl, ha, rfl, M, v1, d1, 0, 64, rfl, h1, ?_⟩
        by_cases e : isInt 0 64 d1 = true
        · rw [e]
          have : isPlanD (.tuple [d0, d1, d2]) = (isTxt "folded" d0 && isInt 0 16 d2) := by
            show (isInt 0 64 d1 && (isTxt "folded" d0 && isInt 0 16 d2)) = _
            rw [e, Bool.true_and]
          rw [this] at q
          refine ⟨_, rfl, .ref a, rfl, a, _, rfl, .inr ha, rfl, _, rfl, .ref a, rfl, a, _, 0, v0, rfl, rfl, ha, rfl, M, d0, _, h0, rfl, ?_⟩
          by_cases g : isTxt "folded" d0 = true
          · rw [g] at q ⊢
            exact ⟨_, rfl, .ref a, rfl, a, _, 2, v2, rfl, rfl, ha, rfl, M, v2, d2, 0, 16, rfl, h2, q⟩
          · have g : isTxt "folded" d0 = false := by simpa using g
            rw [g] at q ⊢
            exact ⟨_, rfl, q⟩
        · have e : isInt 0 64 d1 = false := by simpa using e
          rw [e]
          exact ⟨_, rfl, no (by show (isInt 0 64 d1 && (isTxt "folded" d0 && isInt 0 16 d2)) = false; rw [e, Bool.false_and])⟩
    · have c' : isSized 2 3 d = false := by simpa using c
      rw [c']
      exact ⟨_, rfl, no (plan_short c)⟩
theorem ok_counter {f : Addr} {fd : FuncData} (DS : Dfn P w K mg base 1 "is_tuple_sized" ["value", "least", "most"] (spSized K)) (DW : Dfn P w K mg base 2 "is_within" ["value", "low", "high"] (spWithin K))
    (cM : ∃ u, mg "MOST_COUNTER_BITS" = some u ∧ RelV (.int 4) u) (F : L2.Fun K "is_counter" "is_counter" sCounter f fd) : FnOk P w K mg base L2.CX0 3 f fd ["value"] (spLook K isGauD) := by
  refine F.ok scCounter (fun vs H Q E h => ?_) (fun cdv A outer s H vs Q E hr h => ?_)
  · obtain ⟨M, x, d, rfl, _⟩ := h
    rfl
  · obtain ⟨M, x, d, rfl, dv, _, q0⟩ := h
    have q := q0 H (Same.refl H)
    refine ⟨_, pss_cons (ps_if (PW.pt (pw_or (pt_not (pt_val (pe_d DS hr (by decide) (by rfl) (pa_cons (pv 0) (pa_cons pe_int (pa_cons pe_int pa_nil)))))) (pw_or1 (pt_not (pt_val (pe_d DW hr (by decide) (by rfl) (pa_cons (pe_ix (ix_tupK K) (pv 0) pe_int (fun _ _ => rfl)) (pa_cons pe_int (pa_cons (C8.pe_gc (by rfl) cM) pa_nil)))))))))
        (pss_one (ps_ret pe_bl)) pss_nil)
      (pss_one (ps_ret (pe_d DW hr (by decide) (by rfl) (pa_cons (pe_ix (ix_tupK K) (pv 0) pe_int (fun _ _ => rfl)) (pa_cons pe_int (pa_cons (pe_op op_sub (pe_op op_shl pe_int (pe_ix (ix_tupK K) (pv 0) pe_int (fun _ _ => rfl))) pe_int) pa_nil)))))), ?_⟩
    have no : isGauD d = false → Q (.bl false) H := fun e => by rwa [e] at q
    refine ⟨x, rfl, M, x, d, 2, 2, rfl, dv, ?_⟩
    by_cases c : isSized 2 2 d = true
    · rw [c]
      obtain ⟨ds, rfl, c1, c2⟩ := sized_tup c
      obtain ⟨a, xs, rfl, ha, na, da⟩ := tup_of dv
      obtain ⟨v0, v1, d0, d1, rfl, rfl, h0, h1⟩ := two_of da (by omega)
      refine ⟨_, rfl, .ref a, rfl, a, _, 0, v0, rfl, rfl, ha, rfl, M, v0, d0, 1, 4, rfl, h0, ?_⟩
      by_cases e : isInt 1 4 d0 = true
      · rw [e]
        have : isGauD (.tuple [d0, d1]) = isInt 0 (topOf d0) d1 := by
          show (isInt 1 4 d0 && isInt 0 (topOf d0) d1) = _
          rw [e, Bool.true_and]
        rw [this] at q
        cases d0 with
        | int n =>
          have e : (decide (1 ≤ n) && decide (n ≤ 4)) = true := e
          simp only [Bool.and_eq_true, decide_eq_true_eq] at e
          cases h0
          exact ⟨_, rfl, .ref a, rfl, a, _, 1, v1, rfl, rfl, ha, rfl, .ref a, rfl, a, _, 0, .int n, rfl, rfl, ha, rfl, _, _, rfl, rfl, ⟨by omega, by omega, by decide⟩, _, _, rfl, rfl, M, v1, d1, 0, topOf (.int n), rfl, h1, q⟩
        | _ => exact absurd e Bool.false_ne_true
      · have e : isInt 1 4 d0 = false := by simpa using e
        rw [e]
        exact ⟨_, rfl, no (by show (isInt 1 4 d0 && isInt 0 (topOf d0) d1) = false; rw [e, Bool.false_and])⟩
    · have c' : isSized 2 2 d = false := by simpa using c
      rw [c']
      exact ⟨_, rfl, no (gau_short c)⟩
abbrev sIsPlan : Stmt := topS 19
abbrev sIsGau : Stmt := topS 20
theorem scIsPlan : FnScope ["_law_thing"] ["_law_thing"] (defScope sIsPlan) := ⟨rfl, rfl, rfl, by decide +kernel, rfl, by decide +kernel, by decide +kernel⟩
theorem scIsGau : FnScope ["_law_thing"] ["_law_thing"] (defScope sIsGau) := ⟨rfl, rfl, rfl, by decide +kernel, rfl, by decide +kernel, by decide +kernel⟩
theorem in_words (z : Str) : inV (.str z) [.str "own", .str "split", .str "shared"] = isWord (.str z) := by
  have h : ∀ k : Str, eqV (.str k) (.str z) = isTxt k (.str z) := fun k => by
    show decide (k = z) = (z == k)
    rw [Bool.eq_iff_iff, decide_eq_true_eq, beq_iff_eq]
    exact eq_comm
  show (eqV (.str "own") (.str z) || (eqV (.str "split") (.str z) || (eqV (.str "shared") (.str z) || false))) = (isTxt "own" (.str z) || (isTxt "split" (.str z) || (isTxt "shared" (.str z) || false)))
  rw [h, h, h]
theorem ok_isplan {f : Addr} {fd : FuncData} (DI : Dfn P w K mg base 1 "_law_is_int" ["_law_thing", "_law_least", "_law_most"] (spWithin K)) (ml : mg "len" = none) (mi : mg "isinstance" = none) (mt : mg "tuple" = none) (ms : mg "str" = none)
    (F : L2.Fun K "_law_is_plan" "_law_is_plan" sIsPlan f fd) : FnOk P w K mg base L2.CX0 2 f fd ["_law_thing"] (spLook K isPlanD) := by
  refine F.ok scIsPlan (fun vs H Q E h => ?_) (fun cdv A outer s H vs Q E hr h => ?_)
  · obtain ⟨M, x, d, rfl, _⟩ := h
    rfl
  · obtain ⟨M, x, d, rfl, dv, _, q0⟩ := h
    refine ⟨_, pss_cons (ps_if (PW.pt (pw_or (pt_not (pt_val (pe_isi (by rfl) mi (pv 0) (by rfl) mt boot_tup))) (pw_or (pt_cmpR op_lt (pe_callB (call_lenK K) (by rfl) ml PySem.boot_len (pa_cons (pv 0) pa_nil)) pe_int (nomark _))
          (pw_or1 (pt_not (pt_val (pe_isi (by rfl) mi (pe_ix (ix_tupK K) (pv 0) pe_int (fun _ _ => rfl)) (by rfl) ms boot_st))))))) (pss_one (ps_ret pe_bl)) pss_nil)
      (pss_cons (ps_if (pt_not (pt_val (pe_d DI hr (by decide) (by rfl) (pa_cons (pe_ix (ix_tupK K) (pv 0) pe_int (fun _ _ => rfl)) (pa_cons pe_int (pa_cons pe_int pa_nil)))))) (pss_one (ps_ret pe_bl)) pss_nil)
      (pss_cons (ps_if (pt_cmpR op_eq (pe_ix (ix_tupK K) (pv 0) pe_int (fun _ _ => rfl)) pe_str (nomark _))
        (pss_one (ps_ret (pe_and (pe_cmpR op_eq (pe_callB (call_lenK K) (by rfl) ml PySem.boot_len (pa_cons (pv 0) pa_nil)) pe_int (nomark _)) (pe_one (pe_d DI hr (by decide) (by rfl) (pa_cons (pe_ix (ix_tupK K) (pv 0) pe_int (fun _ _ => rfl)) (pa_cons pe_int (pa_cons pe_int pa_nil)))))))) pss_nil)
      (pss_one (ps_ret (pe_and (pe_cmpR op_in_seq (pe_ix (ix_tupK K) (pv 0) pe_int (fun _ _ => rfl)) (pe_tup (pa_cons pe_str (pa_cons pe_str (pa_cons pe_str pa_nil)))) (by rfl))
        (pe_one (pe_cmpR op_eq (pe_callB (call_lenK K) (by rfl) ml PySem.boot_len (pa_cons (pv 0) pa_nil)) pe_int (nomark _)))))))), ?_⟩
    have q := q0 H (Same.refl H)
    have no : isPlanD d = false → Q (.bl false) H := fun e => by rwa [e] at q
    refine isiV_go dv rfl (kit_tup d) ?_
    by_cases c : isTup d = true
    · rw [c]
      obtain ⟨ds, rfl⟩ : ∃ ds, d = .tuple ds := by cases d <;> first | exact ⟨_, rfl⟩ | exact absurd c Bool.false_ne_true
      obtain ⟨a, xs, rfl, ha, na, da⟩ := tup_of dv
      have ll := da.len
      refine ⟨_, rfl, .ref a, rfl, a, xs, rfl, .inr ha, _, _, rfl, rfl, _, rfl, ite2 (fun e => ?_) (fun e => ?_)⟩
      · have lt : (xs.length : Int) < 2 := of_decide_eq_true e
        refine no (plan_short fun z => ?_)
        obtain ⟨es, ez, z1, z2⟩ := sized_tup z
        injection ez with ez
        subst ez
        omega
      · have ge : ¬ (xs.length : Int) < 2 := fun z => e (decide_eq_true z)
        match ds, xs, da, ll, ge, ha, q0, no with
        | [], _, _, ll, ge, _, _, _ => simp only [List.length_nil] at ll; omega
        | [_], _, _, ll, ge, _, _, _ => simp only [List.length_cons, List.length_nil] at ll; omega
        | d0 :: d1 :: ds, xs, da, ll, ge, ha, q0, no =>
          cases da with
          | cons h0 t =>
          rename_i v0 vs0
          cases t with
          | cons h1 t =>
          rename_i v1 vs1
          have lt := t.len
          refine ⟨.ref a, rfl, a, _, 0, v0, rfl, rfl, ha, atI_nat (j := 0) rfl, v0, .ty "str", tyD d0, .type "str", _, rfl, .ty "str", h0.ty, kit_str d0, ?_⟩
          by_cases s0 : isSt d0 = true
          · rw [s0]
            obtain ⟨k, rfl⟩ : ∃ k, d0 = .str k := by cases d0 <;> first | exact ⟨_, rfl⟩ | exact absurd s0 Bool.false_ne_true
            cases h0
            refine ⟨_, rfl, .ref a, rfl, a, _, 1, v1, rfl, rfl, ha, atI_nat (j := 1) rfl, M, v1, d1, 0, 64, rfl, h1, ?_⟩
            by_cases e1 : isInt 0 64 d1 = true
            · rw [e1]
              refine ⟨_, rfl, .ref a, rfl, a, _, 0, .str k, rfl, rfl, ha, atI_nat (j := 0) rfl, rfl, _, rfl, ite2 (fun g => ?_) (fun g => ?_)⟩
              · have g1 : V.str k = V.str "folded" := of_decide_eq_true g
                injection g1 with g2
                subst g2
                refine ⟨.ref a, rfl, a, _, rfl, .inr ha, rfl, _, rfl, ite2 (fun l3 => ?_) (fun l3 => ?_)⟩
                · have l3 : V.int ((V.str "folded" :: v1 :: vs1).length : Nat) = V.int 3 := of_decide_eq_true l3
                  injection l3 with l3
                  simp only [List.length_cons] at l3
                  match ds, vs1, t, lt, ha, q0 with
                  | [d2], [v2], .cons h2 .nil, _, ha, q0 =>
                    have q := q0 H (Same.refl H)
                    have : isPlanD (.tuple [.str "folded", d1, d2]) = isInt 0 16 d2 := by
                      show (isInt 0 64 d1 && (isTxt "folded" (.str "folded") && isInt 0 16 d2)) = _
                      rw [e1, show isTxt "folded" (.str "folded") = true by decide]
                      rfl
                    rw [this] at q
                    exact ⟨.ref a, rfl, a, _, 2, v2, rfl, rfl, ha, rfl, M, v2, d2, 0, 16, rfl, h2, q⟩
                  | [], _, _, lt, _, _ => simp only [List.length_nil] at lt; omega
                  | _ :: _ :: _, _, _, lt, _, _ => simp only [List.length_cons] at lt; omega
                · refine no ?_
                  match ds, lt with
                  | [], _ =>
                    show (isInt 0 64 d1 && isWord (.str "folded")) = false
                    rw [show isWord (.str "folded") = false by decide, Bool.and_false]
                  | [d2], lt => exact absurd (by simp only [List.length_cons, lt]; rfl) l3
                  | _ :: _ :: _, _ => rfl
              · have ng : k ≠ "folded" := fun z => g (decide_eq_true (by rw [z]))
                refine ⟨.ref a, rfl, a, _, 0, .str k, rfl, rfl, ha, atI_nat (j := 0) rfl, by show 3 ≤ sizeLine; decide, fun p np => ?_⟩
                have sm : Same H (upd H p (.tup [.str "own", .str "split", .str "shared"])) := same_new np
                have ha2 := Same.seqT sm ha
                have q := q0 _ sm
                refine ⟨p, _, rfl, .inr (.inl (.inl upd_same)), rfl, rfl, _, rfl, ite2 (fun i3 => ?_) (fun i3 => ?_)⟩
                · have i4 : inV (.str k) [.str "own", .str "split", .str "shared"] = true := i3
                  rw [in_words] at i4
                  refine ⟨.ref a, rfl, a, _, rfl, .inr ha2, rfl, ?_⟩
                  have : isPlanD (.tuple (.str k :: d1 :: ds)) = decide (V.int ((V.str k :: v1 :: vs1).length : Nat) = V.int 2) := by
                    match ds, lt with
                    | [], lt =>
                      show (isInt 0 64 d1 && isWord (.str k)) = _
                      rw [e1, i4]
                      simp only [List.length_cons, lt]
                      rfl
                    | [d2], lt =>
                      show (isInt 0 64 d1 && (isTxt "folded" (.str k) && isInt 0 16 d2)) = _
                      rw [show isTxt "folded" (.str k) = false from Bool.eq_false_iff.mpr fun z => ng (eq_of_beq z)]
                      simp only [List.length_cons, lt]
                      rw [Bool.false_and, Bool.and_false]
                      rfl
                    | _ :: _ :: _, lt =>
                      show false = _
                      simp only [List.length_cons, lt]
                      refine (decide_eq_false fun z => ?_).symm
                      injection z with z
                      omega
                  rw [this] at q
                  exact q
                · have i4 : inV (.str k) [.str "own", .str "split", .str "shared"] = false := Bool.eq_false_iff.mpr i3
                  rw [in_words] at i4
                  have : isPlanD (.tuple (.str k :: d1 :: ds)) = false := by
                    match ds with
                    | [] =>
                      show (isInt 0 64 d1 && isWord (.str k)) = _
                      rw [i4, Bool.and_false]
                    | [d2] =>
                      show (isInt 0 64 d1 && (isTxt "folded" (.str k) && isInt 0 16 d2)) = _
                      rw [show isTxt "folded" (.str k) = false from Bool.eq_false_iff.mpr fun z => ng (eq_of_beq z), Bool.false_and, Bool.and_false]
                    | _ :: _ :: _ => rfl
                  rw [this] at q
                  exact q
            · have e1 : isInt 0 64 d1 = false := by simpa using e1
              rw [e1]
              refine ⟨_, rfl, no ?_⟩
              match ds with
              | [] => show (isInt 0 64 d1 && isWord (.str k)) = false; rw [e1, Bool.false_and]
              | [d2] => show (isInt 0 64 d1 && (isTxt "folded" (.str k) && isInt 0 16 d2)) = false; rw [e1, Bool.false_and]
              | _ :: _ :: _ => rfl
          · have s1 : isSt d0 = false := by simpa using s0
            rw [s1]
            refine ⟨_, rfl, no ?_⟩
            have w0 : isWord d0 = false := by cases d0 <;> first | rfl | exact absurd rfl s0
            have f0 : isTxt "folded" d0 = false := by cases d0 <;> first | rfl | exact absurd rfl s0
            match ds with
            | [] => show (isInt 0 64 d1 && isWord d0) = false; rw [w0, Bool.and_false]
            | [d2] => show (isInt 0 64 d1 && (isTxt "folded" d0 && isInt 0 16 d2)) = false; rw [f0, Bool.false_and, Bool.and_false]
            | _ :: _ :: _ => rfl
    · have c' : isTup d = false := by simpa using c
      rw [c']
      refine ⟨_, rfl, no ?_⟩
      cases d <;> first | rfl | exact absurd rfl c
theorem ok_isgau {f : Addr} {fd : FuncData} (DI : Dfn P w K mg base 1 "_law_is_int" ["_law_thing", "_law_least", "_law_most"] (spWithin K)) (ml : mg "len" = none) (mi : mg "isinstance" = none) (mt : mg "tuple" = none)
    (F : L2.Fun K "_law_is_gauge" "_law_is_gauge" sIsGau f fd) : FnOk P w K mg base L2.CX0 2 f fd ["_law_thing"] (spLook K isGauD) := by
  refine F.ok scIsGau (fun vs H Q E h => ?_) (fun cdv A outer s H vs Q E hr h => ?_)
  · obtain ⟨M, x, d, rfl, _⟩ := h
    rfl
  · obtain ⟨M, x, d, rfl, dv, _, q0⟩ := h
    have q := q0 H (Same.refl H)
    refine ⟨_, pss_cons (ps_if (PW.pt (pw_or (pt_not (pt_val (pe_isi (by rfl) mi (pv 0) (by rfl) mt boot_tup))) (pw_or (pt_cmpR op_ne (pe_callB (call_lenK K) (by rfl) ml PySem.boot_len (pa_cons (pv 0) pa_nil)) pe_int (nomark _))
          (pw_or1 (pt_not (pt_val (pe_d DI hr (by decide) (by rfl) (pa_cons (pe_ix (ix_tupK K) (pv 0) pe_int (fun _ _ => rfl)) (pa_cons pe_int (pa_cons pe_int pa_nil)))))))))) (pss_one (ps_ret pe_bl)) pss_nil)
      (pss_one (ps_ret (pe_d DI hr (by decide) (by rfl) (pa_cons (pe_ix (ix_tupK K) (pv 0) pe_int (fun _ _ => rfl)) (pa_cons pe_int (pa_cons (pe_op op_sub (pe_op op_shl pe_int (pe_ix (ix_tupK K) (pv 0) pe_int (fun _ _ => rfl))) pe_int) pa_nil)))))), ?_⟩
    have no : isGauD d = false → Q (.bl false) H := fun e => by rwa [e] at q
    refine isiV_go dv rfl (kit_tup d) ?_
    by_cases c : isTup d = true
    · rw [c]
      obtain ⟨ds, rfl⟩ : ∃ ds, d = .tuple ds := by cases d <;> first | exact ⟨_, rfl⟩ | exact absurd c Bool.false_ne_true
      obtain ⟨a, xs, rfl, ha, na, da⟩ := tup_of dv
      have ll := da.len
      refine ⟨_, rfl, .ref a, rfl, a, xs, rfl, .inr ha, rfl, _, rfl, ite2 (fun e => ?_) (fun e => ?_)⟩
      · refine no ?_
        match ds, ll with
        | [], _ => rfl
        | [_], _ => rfl
        | [_, _], ll =>
          rw [ll] at e
          simp at e
        | _ :: _ :: _ :: _, _ => rfl
      · have l2 : ds.length = 2 := by
          by_cases z : xs.length = 2
          · omega
          · exact absurd (by
              rw [Bool.not_eq_true']
              exact decide_eq_false fun h => z (by injection h with h; omega)) e
        obtain ⟨v0, v1, d0, d1, rfl, rfl, h0, h1⟩ := two_of da l2
        refine ⟨.ref a, rfl, a, _, 0, v0, rfl, rfl, ha, rfl, M, v0, d0, 1, 4, rfl, h0, ?_⟩
        by_cases e : isInt 1 4 d0 = true
        · rw [e]
          have : isGauD (.tuple [d0, d1]) = isInt 0 (topOf d0) d1 := by
            show (isInt 1 4 d0 && isInt 0 (topOf d0) d1) = _
            rw [e, Bool.true_and]
          rw [this] at q
          cases d0 with
          | int n =>
            have e : (decide (1 ≤ n) && decide (n ≤ 4)) = true := e
            simp only [Bool.and_eq_true, decide_eq_true_eq] at e
            cases h0
            exact ⟨_, rfl, .ref a, rfl, a, _, 1, v1, rfl, rfl, ha, rfl, .ref a, rfl, a, _, 0, .int n, rfl, rfl, ha, rfl, _, _, rfl, rfl, ⟨by omega, by omega, by decide⟩, _, _, rfl, rfl, M, v1, d1, 0, topOf (.int n), rfl, h1, q⟩
          | _ => exact absurd e Bool.false_ne_true
        · have e : isInt 1 4 d0 = false := by simpa using e
          rw [e]
          exact ⟨_, rfl, no (by show (isInt 1 4 d0 && isInt 0 (topOf d0) d1) = false; rw [e, Bool.false_and])⟩
    · have c' : isTup d = false := by simpa using c
      rw [c']
      refine ⟨_, rfl, no ?_⟩
      cases d <;> first | rfl | exact absurd rfl c
end
end Pf
namespace Pf
open PySem PySem.Spec PyProof.Rows L2 Gk
abbrev sRight : Stmt := topS 22
theorem scRight : FnScope ["_law_box_here", "_law_thing", "_law_kept", "_law_due", "_law_told"] ["_law_box_here"] (defScope sRight) := ⟨rfl, rfl, rfl, by decide +kernel, rfl, by decide +kernel, by decide +kernel⟩
section
variable {P : Program} {w : World} {K : PySem.W.Frag} {mg : Str → Option Value} {base : Heap}
/-- data of the drawn things -/
def Thing (d : PyData) : Prop := fin d (10 ^ 19) = true ∧ d.depth ≤ 40 ∧ big d ≤ 500000
theorem Thing.show {d : PyData} (h : Thing d) : Show d := Show.of (B := 10 ^ 19) (by decide) h.1 h.2.1 h.2.2
/-- the list of the drawn things; c: how often is drawn -/
def spThings (K : PySem.W.Frag) (c : Nat) : Sp := fun vs H Q _ => ∃ (b : Addr) (m : Nat), vs = [.ref b] ∧ Box m H b ∧ m + c ≤ 900000 ∧
  ∀ H' l xs ds, But b H H' → Box (m + c) H' b → l ≠ b → H' l = some (.lst xs) → DvAll (fun a => a = b) K H' xs ds → (∀ d ∈ ds, Thing d) → Q (.ref l) H'
def spRight (c : Nat) : Sp := fun vs H Q _ => ∃ (b : Addr) (m : Nat), vs = [.ref b] ∧ Box m H b ∧ m + c ≤ 900000 ∧ ∀ H', But b H H' → Box (m + c) H' b → Q (.bl true) H'
theorem fine4 (a b c e : Bool) : Fine (.list [.bool a, .bool b, .bool c, .bool e]) := by
  refine Fine.tame ?_ ?_ ?_
  · simp only [Gk.tame, tameAll, Bool.and_self]
  · simp only [PyData.depth, PyData.depthAll]
    omega
  · simp only [Gk.cost, costAll]
    omega
theorem ok_right {f : Addr} {fd : FuncData} {c n : Nat} (n4 : 4 ≤ n) (DH : Dfn P w K mg base n "_law_things" ["_law_box_here"] (spThings K c)) (DL : Dfn P w K mg base 2 "_law_is_plan" ["_law_thing"] (spLook K isPlanD)) (DW : Dfn P w K mg base 2 "_law_is_gauge" ["_law_thing"] (spLook K isGauD))
    (DT : Dfn P w K mg base 3 "is_scheme" ["value"] (spLook K isPlanD)) (DP : Dfn P w K mg base 3 "is_counter" ["value"] (spLook K isGauD)) (KT : DfK P w K mg base 3 "is_scheme" ["value"] ["value"] id (spLook K isPlanD)) (KP : DfK P w K mg base 3 "is_counter" ["value"] ["value"] id (spLook K isGauD))
    (mp : mg "repr" = none) (F : L2.Fun K "_law_right" "_law_right" sRight f fd) : FnG P w K mg base (n + 1) f fd ["_law_box_here"] (spRight c) := by
  refine fnG F scRight (fun vs H Q E h => ?_) (fun cdv A outer s H vs Q hr hg h => ?_)
  · obtain ⟨b, m, rfl, _⟩ := h
    rfl
  · obtain ⟨b, m, rfl, hb, hm, q⟩ := h
    have k2 : 2 ≤ n := by omega
    have k3 : 3 ≤ n := by omega
    refine ⟨_, pss_cons (ps_for PassesOwn.never rfl (pi_list (pe_d DH hr (Nat.le_refl _) (by rfl) (pa_cons (pv 0) pa_nil))) (pg_name (i := 1) scRight.nd rfl (.inl rfl))
        (pss_cons (ps_par (i := 2) (j := 3) (by rfl) scRight.nd rfl rfl (by decide) rfl rfl (pa_cons (pe_callB (call_reprV (fun a => a = b) hr hg) (by rfl) mp (by decide +kernel) (pa_cons (pv 1) pa_nil)) (pa_cons (pe_lst (pa_cons (pe_d DL hr k2 (by rfl) (pa_cons (pv 1) pa_nil)) (pa_cons (pe_d DW hr k2 (by rfl) (pa_cons (pv 1) pa_nil)) pa_nil))) pa_nil)) (by rfl))
        (pss_cons (ps_set (i := 4) scRight.nd rfl (.inl rfl) (pe_lst (pa_cons (pe_d DT hr k3 (by rfl) (pa_cons (pv 1) pa_nil)) (pa_cons (pe_d DP hr k3 (by rfl) (pa_cons (pv 1) pa_nil)) (pa_cons (pe_dk KT hr k3 (by rfl) (pk_cons (pv 1) pk_nil)) (pa_cons (pe_dk KP hr k3 (by rfl) (pk_cons (pv 1) pk_nil)) pa_nil))))))
        (pss_one (ps_if (PW.pt (pw_or (pt_cmpR op_ne (pe_callB (call_reprF hr hg) (by rfl) mp (by decide +kernel) (pa_cons (pv 4) pa_nil)) (pe_callB (call_reprF hr hg) (by rfl) mp (by decide +kernel) (pa_cons (pe_op op_cat (pv 3) (pv 3)) pa_nil)) (nomark _))
            (pw_or1 (pt_cmpR op_ne (pe_callB (call_reprV (fun a => a = b) hr hg) (by rfl) mp (by decide +kernel) (pa_cons (pv 1) pa_nil)) (pv 2) (nomark _))))) (pss_one (ps_ret pe_bl)) pss_nil)))))
      (pss_one (ps_ret pe_bl)), ?_⟩
    refine ⟨.ref b, rfl, b, m, rfl, hb, hm, fun H1 l xs ds bt bx lb hl dx ok => ?_⟩
    refine ⟨l, rfl, ⟨xs, SqL.of hl⟩, for_list (K := K) (a := l) (xs := xs) (fun i σ H' => (∃ y1 y2 y3 y4, σ = [some (.ref b), y1, y2, y3, y4]) ∧ Same H1 H') ⟨⟨_, _, _, _, rfl⟩, Same.refl _⟩ (fun i σ H' _ hp => SqL.of (hp.2 _ _ hl)) (fun i y σ H2 hy hp => ?_) (fun σ H2 hp => ?_)⟩
    · obtain ⟨⟨y1, y2, y3, y4, rfl⟩, sm⟩ := hp
      obtain ⟨d, gd, dy⟩ := dx.at hy
      have th := ok d (List.mem_of_getElem? gd)
      have dy2 := dy.off (Off.same sm)
      have bd : big d ≤ 10000000 := by have := th.2.2; omega
      refine go_name ?_
      refine ⟨y, rfl, y, d, rfl, dy2, th.show, y, rfl, _, y, d, rfl, dy2, bd, fun H3 s3 => ⟨y, rfl, _, y, d, rfl, dy2.off (Off.same s3), bd, fun H4 s4 => ⟨by show 2 ≤ sizeLine; decide, fun p np => ⟨_, _, rfl, ?_⟩⟩⟩⟩
      have s24 := (s3.trans s4).trans (same_new (o := HO.lst [.bl (isPlanD d), .bl (isGauD d)]) np)
      have hp : upd H4 p (.lst [.bl (isPlanD d), .bl (isGauD d)]) p = some (.lst [.bl (isPlanD d), .bl (isGauD d)]) := upd_same
      generalize upd H4 p (.lst [.bl (isPlanD d), .bl (isGauD d)]) = H5 at s24 hp ⊢
      refine ⟨y, rfl, _, y, d, rfl, dy2.off (Off.same s24), bd, fun H6 s6 => ⟨y, rfl, _, y, d, rfl, dy2.off (Off.same (s24.trans s6)), bd, fun H7 s7 => ⟨y, rfl, rfl, _, y, d, rfl, dy2.off (Off.same ((s24.trans s6).trans s7)), bd, fun H8 s8 =>
        ⟨y, rfl, rfl, _, y, d, rfl, dy2.off (Off.same (((s24.trans s6).trans s7).trans s8)), bd, fun H9 s9 => ⟨by show 4 ≤ sizeLine; decide, fun p2 np2 => ?_⟩⟩⟩⟩⟩
      have s5a := (((s6.trans s7).trans s8).trans s9).trans (same_new (o := HO.lst [.bl (isPlanD d), .bl (isGauD d), .bl (isPlanD d), .bl (isGauD d)]) np2)
      have hp2 : upd H9 p2 (.lst [.bl (isPlanD d), .bl (isGauD d), .bl (isPlanD d), .bl (isGauD d)]) p2 = some (.lst [.bl (isPlanD d), .bl (isGauD d), .bl (isPlanD d), .bl (isGauD d)]) := upd_same
      generalize upd H9 p2 (.lst [.bl (isPlanD d), .bl (isGauD d), .bl (isPlanD d), .bl (isGauD d)]) = Ha at s5a hp2 ⊢
      have four : DpAll K Ha [.bl (isPlanD d), .bl (isGauD d), .bl (isPlanD d), .bl (isGauD d)] [.bool (isPlanD d), .bool (isGauD d), .bool (isPlanD d), .bool (isGauD d)] := .cons (.bl _) (.cons (.bl _) (.cons (.bl _) (.cons (.bl _) .nil)))
      refine ⟨.ref p2, rfl, .ref p2, .list [.bool (isPlanD d), .bool (isGauD d), .bool (isPlanD d), .bool (isGauD d)], rfl, .lst (SqL.of hp2) four, fine4 _ _ _ _, .ref p, rfl, .ref p, rfl, p, p, _, _, rfl, rfl, s5a _ _ hp, s5a _ _ hp, by show 4 ≤ sizeLine; decide, fun p3 np3 => ?_⟩
      have sb := same_new (o := HO.lst ([V.bl (isPlanD d), .bl (isGauD d)] ++ [V.bl (isPlanD d), .bl (isGauD d)])) np3
      refine ⟨.ref p3, .list [.bool (isPlanD d), .bool (isGauD d), .bool (isPlanD d), .bool (isGauD d)], rfl, .lst (SqL.of upd_same) (.cons (.bl _) (.cons (.bl _) (.cons (.bl _) (.cons (.bl _) .nil)))), fine4 _ _ _ _, rfl, _, rfl, iteNS rfl ?_⟩
      refine ⟨y, rfl, y, d, rfl, dy2.off (Off.same ((s24.trans s5a).trans sb)), th.show, .str d.shown, rfl, rfl, _, rfl, iteNS rfl ?_⟩
      exact ⟨⟨_, _, _, _, rfl⟩, ((sm.trans s24).trans s5a).trans sb⟩
    · obtain ⟨⟨y1, y2, y3, y4, rfl⟩, sm⟩ := hp
      exact q _ (bt.trans (But.of_same sm)) (bx.same sm)
end
end Pf
namespace Pf
open PySem PySem.Spec PyProof.Rows L2 Gk
abbrev sPlan : Stmt := topS 14
abbrev nPlan : List Str := ["_law_box_here", "_law_most", "_law_size", "_law_kind"]
theorem scPlan : FnScope nPlan ["_law_box_here", "_law_most"] (defScope sPlan) := ⟨rfl, rfl, rfl, by decide +kernel, rfl, by decide +kernel, by decide +kernel⟩
/-- a scheme: its word, its length, its bits -/
def planV (w : Str) (z : Int) : Option Int → List V
  | none => [.str w, .int z]
  | some t => [.str w, .int z, .int t]
def PlanOk (w : Str) (z : Int) (x : Option Int) : Prop := 0 ≤ z ∧ z ≤ 64 ∧ ((w = "folded" ∧ ∃ t, x = some t ∧ 0 ≤ t ∧ t ≤ 16) ∨ ((w = "own" ∨ w = "split" ∨ w = "shared") ∧ x = none))
section
variable {P : Program} {w : World} {K : PySem.W.Frag} {mg : Str → Option Value} {base : Heap}
def spPlan (K : PySem.W.Frag) : Sp := fun vs H Q _ => ∃ (b : Addr) (most : Int) (m : Nat), vs = [.ref b, .int most] ∧ 0 ≤ most ∧ most ≤ 64 ∧ Box m H b ∧ m ≤ 990000 ∧
  ∀ H' p w z x, But b H H' → Box (m + 10) H' b → p ≠ b → H p = none → H' p = some (.tup (planV w z x)) → PlanOk w z x → Q (.ref p) H'
theorem ok_plan {f : Addr} {fd : FuncData} (DT : Dfn P w K mg base 1 "_law_take" ["_law_box_here", "_law_many"] spTake) (DO : Dfn P w K mg base 2 "_law_of" ["_law_box_here", "_law_some"] (spOf K)) (mn : mg "min" = none)
    (F : L2.Fun K "_law_plan" "_law_plan" sPlan f fd) : FnOk P w K mg base L2.CX0 3 f fd ["_law_box_here", "_law_most"] (spPlan K) := by
  refine F.ok scPlan (fun vs H Q E h => ?_) (fun cdv A outer s H vs Q E hr h => ?_)
  · obtain ⟨b, most, m, rfl, _⟩ := h
    rfl
  · obtain ⟨b, most, m, rfl, m0, m1, hb, hm, q⟩ := h
    refine ⟨_, C8.pss_cut (ps_set (i := 2) scPlan.nd rfl (.inl rfl) (pe_d DO hr (by decide) (by rfl) (pa_cons (pv 0) (pa_cons (pe_lst (pa_cons (pe_d DT hr (by decide) (by rfl) (pa_cons (pv 0) (pa_cons pe_int pa_nil))) (pa_cons (pe_d DT hr (by decide) (by rfl) (pa_cons (pv 0) (pa_cons (pe_op op_add (pv 1) pe_int) pa_nil)))
          (pa_cons (pe_callB (call_min2 rfl) (by rfl) mn (by decide +kernel) (pa_cons pe_int (pa_cons (pv 1) pa_nil))) pa_nil)))) pa_nil))))
      (C8.pss_cut (ps_set (i := 3) scPlan.nd rfl (.inl rfl) (pe_d DO hr (by decide) (by rfl) (pa_cons (pv 0) (pa_cons (pe_lst (pa_cons pe_str (pa_cons pe_str (pa_cons pe_str (pa_cons pe_str (pa_cons pe_str pa_nil)))))) pa_nil))))
      (pss_one (ps_ret (pe_ifExp (pt_cmpR op_eq (pv 3) pe_str (nomark _)) (pe_tup (pa_cons (pv 3) (pa_cons (pv 2) (pa_cons (pe_d DT hr (by decide) (by rfl) (pa_cons (pv 0) (pa_cons pe_int pa_nil))) pa_nil)))) (pe_tup (pa_cons (pv 3) (pa_cons (pv 2) pa_nil))))))), ?_⟩
    refine ⟨fun σ H' => ∃ z : Int, σ = [some (.ref b), some (.int most), some (.int z), none] ∧ 0 ≤ z ∧ z ≤ 64 ∧ But b H H' ∧ Box (m + 3) H' b, ?_, fun σ H1 hM => ?_⟩
    · refine ⟨.ref b, rfl, .ref b, rfl, b, 4, m, rfl, by decide, by decide, hb, by omega, fun d1 H1 a1 a2 bt1 bx1 sm1 => ⟨.ref b, rfl, .int most, rfl, _, _, rfl, rfl, b, most + 1, m + 1, rfl, by omega, by omega, bx1, by omega, fun d2 H2 c1 c2 bt2 bx2 sm2 => ⟨.int most, rfl, _, _, rfl, by show 3 ≤ sizeLine; decide, fun p np => ?_⟩⟩⟩
      have bx3 := bx2.same (same_new (o := .lst [.int d1, .int d2, .int (if most < 2 then most else 2)]) np)
      refine ⟨b, p, _, m + 1 + 1, rfl, SqL.of upd_same, (bx2.ne np).symm, by show 0 < 3; decide, by show 3 ≤ 1000; decide, bx3, by omega, fun i v H4 g bt4 bx4 sm4 => ?_⟩
      have btE : But b H H4 := ((bt1.trans bt2).trans (But.new np)).trans bt4
      match i, g with
      | 0, g => exact ⟨d1, by rw [← Option.some.inj g]; rfl, a1, by omega, btE, bx4⟩
      | 1, g => exact ⟨d2, by rw [← Option.some.inj g]; rfl, c1, by omega, btE, bx4⟩
      | 2, g => exact ⟨_, by rw [← Option.some.inj g]; rfl, by split <;> omega, by split <;> omega, btE, bx4⟩
    · obtain ⟨z, rfl, z0, z1, bt1, bx1⟩ := hM
      refine ⟨fun σ H' => ∃ k : Str, σ = [some (.ref b), some (.int most), some (.int z), some (.str k)] ∧ (k = "folded" ∨ (k = "own" ∨ k = "split" ∨ k = "shared")) ∧ But b H H' ∧ Box (m + 4) H' b, ?_, fun σ H2 hM => ?_⟩
      · refine ⟨.ref b, rfl, by show 5 ≤ sizeLine; decide, fun p np => ?_⟩
        have bx3 := bx1.same (same_new (o := .lst [.str "own", .str "split", .str "shared", .str "shared", .str "folded"]) np)
        refine ⟨b, p, _, m + 3, rfl, SqL.of upd_same, (bx1.ne np).symm, by show 0 < 5; decide, by show 5 ≤ 1000; decide, bx3, by omega, fun i v H4 g bt4 bx4 sm4 => ?_⟩
        have btE : But b H H4 := (bt1.trans (But.new np)).trans bt4
        match i, g with
        | 0, g => exact ⟨"own", by rw [← Option.some.inj g]; rfl, .inr (.inl rfl), btE, bx4⟩
        | 1, g => exact ⟨"split", by rw [← Option.some.inj g]; rfl, .inr (.inr (.inl rfl)), btE, bx4⟩
        | 2, g => exact ⟨"shared", by rw [← Option.some.inj g]; rfl, .inr (.inr (.inr rfl)), btE, bx4⟩
        | 3, g => exact ⟨"shared", by rw [← Option.some.inj g]; rfl, .inr (.inr (.inr rfl)), btE, bx4⟩
        | 4, g => exact ⟨"folded", by rw [← Option.some.inj g]; rfl, .inl rfl, btE, bx4⟩
      · obtain ⟨k, rfl, hk, bt2, bx2⟩ := hM
        have gone : ∀ {H3 : Hp} {p : Addr}, But b H H3 → Box (m + 10) H3 b → H3 p = none → H p = none := fun {H3 p} bt bx np => by
          cases e : H p with
          | none => rfl
          | some o =>
            have := bt p o (bx.ne np).symm e
            rw [np] at this
            cases this
        refine ⟨.str k, rfl, rfl, _, rfl, ite2 (fun e => ?_) (fun e => ?_)⟩
        · have e1 : V.str k = V.str "folded" := of_decide_eq_true e
          injection e1 with e2
          refine ⟨.str k, rfl, .int z, rfl, .ref b, rfl, b, 17, m + 4, rfl, by decide, by decide, bx2, by omega, fun t H3 t0 t1 bt3 bx3 sm3 => ⟨by show 3 ≤ sizeLine; decide, fun p np => ?_⟩⟩
          have bxu : Box (m + 10) H3 b := bx3.up (by omega)
          exact q _ p k z (some t) ((bt2.trans bt3).trans (But.new np)) (bxu.same (same_new np)) (bxu.ne np).symm (gone (bt2.trans bt3) bxu np) upd_same ⟨z0, z1, .inl ⟨e2, t, rfl, t0, by omega⟩⟩
        · have ne : k ≠ "folded" := fun h => e (decide_eq_true (by rw [h]))
          refine ⟨.str k, rfl, .int z, rfl, by show 2 ≤ sizeLine; decide, fun p np => ?_⟩
          have bxu : Box (m + 10) H2 b := bx2.up (by omega)
          exact q _ p k z none (bt2.trans (But.new np)) (bxu.same (same_new np)) (bxu.ne np).symm (gone bt2 bxu np) upd_same ⟨z0, z1, .inr ⟨hk.elim (fun h => absurd h ne) id, rfl⟩⟩
end
end Pf
namespace Pf
open PySem PySem.Spec PyProof.Rows L2 Gk
abbrev sGau : Stmt := topS 15
abbrev nGau : List Str := ["_law_box_here", "_law_width", "_law_half"]
theorem scGau : FnScope nGau ["_law_box_here"] (defScope sGau) := ⟨rfl, rfl, rfl, by decide +kernel, rfl, by decide +kernel, by decide +kernel⟩
theorem pow2_up {a b : Nat} (h : a ≤ b) : (2 : Int) ^ a ≤ 2 ^ b := by
  have e := Nat.pow_le_pow_right (n := 2) (by decide) h
  exact_mod_cast e
section
variable {P : Program} {w : World} {K : PySem.W.Frag} {mg : Str → Option Value} {base : Heap}
def spGau : Sp := fun vs H Q _ => ∃ (b : Addr) (m : Nat), vs = [.ref b] ∧ Box m H b ∧ m ≤ 990000 ∧
  ∀ H' p n v, But b H H' → Box (m + 10) H' b → p ≠ b → H p = none → H' p = some (.tup [.int n, .int v]) → 1 ≤ n → n ≤ 4 → 0 ≤ v → v < 2 ^ n.toNat → Q (.ref p) H'
theorem ok_gau {f : Addr} {fd : FuncData} (DT : Dfn P w K mg base 1 "_law_take" ["_law_box_here", "_law_many"] spTake) (DO : Dfn P w K mg base 2 "_law_of" ["_law_box_here", "_law_some"] (spOf K))
    (F : L2.Fun K "_law_gauge" "_law_gauge" sGau f fd) : FnOk P w K mg base L2.CX0 3 f fd ["_law_box_here"] spGau := by
  refine F.ok scGau (fun vs H Q E h => ?_) (fun cdv A outer s H vs Q E hr h => ?_)
  · obtain ⟨b, m, rfl, _⟩ := h
    rfl
  · obtain ⟨b, m, rfl, hb, hm, q⟩ := h
    refine ⟨_, pss_cons (ps_set (i := 1) scGau.nd rfl (.inl rfl) (pe_op op_add pe_int (pe_d DT hr (by decide) (by rfl) (pa_cons (pv 0) (pa_cons pe_int pa_nil)))))
      (pss_cons (ps_set (i := 2) scGau.nd rfl (.inl rfl) (pe_op op_shl pe_int (pe_op op_sub (pv 1) pe_int)))
      (pss_one (ps_ret (pe_tup (pa_cons (pv 1) (pa_cons (pe_d DO hr (by decide) (by rfl) (pa_cons (pv 0) (pa_cons (pe_lst (pa_cons pe_int (pa_cons (pe_op op_sub (pe_op op_mul pe_int (pv 2)) pe_int) (pa_cons (pv 2) (pa_cons (pe_op op_sub (pv 2) pe_int)
          (pa_cons (pe_d DT hr (by decide) (by rfl) (pa_cons (pv 0) (pa_cons (pe_op op_mul pe_int (pv 2)) pa_nil))) pa_nil)))))) pa_nil))) pa_nil)))))), ?_⟩
    refine ⟨.ref b, rfl, b, 4, m, rfl, by decide, by decide, hb, by omega, fun d H1 d0 d1 bt1 bx1 sm1 => ⟨_, _, rfl, rfl, .int (1 + d), rfl, _, _, rfl, rfl, _, _, rfl, rfl, ⟨by omega, by omega, by decide⟩, ?_⟩⟩
    have half : 2 * ((1 : Int) * 2 ^ (1 + d - 1).toNat) = 2 ^ (1 + d).toNat := by
      rw [show (1 + d).toNat = (1 + d - 1).toNat + 1 by omega, Int.pow_succ]
      omega
    have hp : (2 : Int) ^ (1 + d).toNat ≤ 2 ^ 4 := pow2_up (by omega)
    have hp0 : (0 : Int) < 2 ^ (1 + d - 1).toNat := Int.pow_pos (by decide)
    have hf1 : 1 ≤ ((1 : Int) * 2 ^ (1 + d - 1).toNat) := by omega
    refine ⟨.int (1 + d), rfl, .ref b, rfl, .int ((1 : Int) * 2 ^ (1 + d - 1).toNat), rfl, _, _, rfl, rfl, .inl ⟨by decide, by decide⟩, _, _, rfl, rfl, .int ((1 : Int) * 2 ^ (1 + d - 1).toNat), rfl, .int ((1 : Int) * 2 ^ (1 + d - 1).toNat), rfl, _, _, rfl, rfl, .ref b, rfl, .int ((1 : Int) * 2 ^ (1 + d - 1).toNat), rfl, _, _, rfl, rfl, .inl ⟨by decide, by decide⟩, b, 2 * ((1 : Int) * 2 ^ (1 + d - 1).toNat), m + 1, rfl, by omega, by omega, bx1, by omega, fun e H2 e0 e1 bt2 bx2 sm2 => ⟨by show 5 ≤ sizeLine; decide, fun p np => ?_⟩⟩
    have bx3 := bx2.same (same_new (o := .lst [.int 0, .int (2 * ((1 : Int) * 2 ^ (1 + d - 1).toNat) - 1), .int ((1 : Int) * 2 ^ (1 + d - 1).toNat), .int (((1 : Int) * 2 ^ (1 + d - 1).toNat) - 1), .int e]) np)
    refine ⟨b, p, _, m + 1 + 1, rfl, SqL.of upd_same, (bx2.ne np).symm, by show 0 < 5; decide, by show 5 ≤ 1000; decide, bx3, by omega, fun i v H4 g bt4 bx4 sm4 => ⟨by show 2 ≤ sizeLine; decide, fun p2 np2 => ?_⟩⟩
    have bt04 : But b H H4 := ((bt1.trans bt2).trans (But.new np)).trans bt4
    have bxu : Box (m + 10) H4 b := bx4.up (by omega)
    have gone : H p2 = none := by
      cases e : H p2 with
      | none => rfl
      | some o =>
        have := bt04 p2 o (bxu.ne np2).symm e
        rw [np2] at this
        cases this
    have fin : ∀ u : Int, v = .int u → 0 ≤ u → u < 2 * ((1 : Int) * 2 ^ (1 + d - 1).toNat) → Q (.ref p2) (upd H4 p2 (.tup [.int (1 + d), v])) := fun u hu u0 u1 => by
      subst hu
      exact q _ p2 (1 + d) u (bt04.trans (But.new np2)) (bxu.same (same_new np2)) (bxu.ne np2).symm gone upd_same (by omega) (by omega) u0 (by omega)
    match i, g with
    | 0, g => exact fin 0 (Option.some.inj g).symm (by omega) (by omega)
    | 1, g => exact fin (2 * ((1 : Int) * 2 ^ (1 + d - 1).toNat) - 1) (Option.some.inj g).symm (by omega) (by omega)
    | 2, g => exact fin ((1 : Int) * 2 ^ (1 + d - 1).toNat) (Option.some.inj g).symm (by omega) (by omega)
    | 3, g => exact fin (((1 : Int) * 2 ^ (1 + d - 1).toNat) - 1) (Option.some.inj g).symm (by omega) (by omega)
    | 4, g => exact fin e (Option.some.inj g).symm (by omega) (by omega)
end
end Pf
namespace Pf
open PySem PySem.Spec PyProof.Rows L2 Gk
abbrev sThings : Stmt := topS 21
abbrev nThings : List Str := ["_law_box_here", "_law_some", "_law_kind", "_law_width", "_law_turn", "_law_plan_here", "_law_gauge_here", "_law_bent_here", "_law_other"]
theorem scThings : FnScope nThings ["_law_box_here"] (defScope sThings) := ⟨rfl, rfl, rfl, by decide +kernel, rfl, by decide +kernel, by decide +kernel⟩
def thingB (d : PyData) : Bool := fin d (10 ^ 19) && decide (d.depth ≤ 40) && decide (big d ≤ 500000)
theorem thing_of {d : PyData} (h : thingB d = true) : Thing d := by
  simp only [thingB, Bool.and_eq_true, decide_eq_true_eq] at h
  exact ⟨h.1.1, h.1.2, h.2⟩
theorem thing_up {d : PyData} {B : Nat} (f : fin d B = true) (hB : B ≤ 10 ^ 19) (g : d.depth ≤ 40) (h : big d ≤ 500000) : Thing d := ⟨fin_mono hB _ f, g, h⟩
theorem goA_cons {ta : TE} {tr : TA} {σ : L2.St} {H : Hp} {Q : List V → Hp → Prop} (h : ta σ H fun x H1 => tr σ H1 fun xs H2 => Q (x :: xs) H2) : tCons ta tr σ H Q := h
def kinds : List Str := ["own", "split", "shared", "folded", "Own", "", "fold"]
def e1 (d : PyData) : List PyData := [.tuple [d, .int 0], .tuple [d, .int 64], .tuple [d, .int 65], .tuple [d, .int (-1)], .tuple [d, .int 1, .int 0], .tuple [d, .int 1, .int 16], .tuple [d, .int 1, .int 17]]
def e2 (d : PyData) : List PyData := [.tuple [d], .tuple [d, .bool true], .tuple [d, .int 1, .bool false], .tuple [d, .str "1"], .list [d, .int 1], .tuple [d, .int 1, .int 1, .int 1], .tuple [d, .none]]
def wsD : List PyData := [.int (-1), .int 0, .int 1, .int 2, .int 3, .int 4, .int 5, .bool true, .none, .str "2"]
def wsV : List V := [.int (-1), .int 0, .int 1, .int 2, .int 3, .int 4, .int 5, .bl true, .non, .str "2"]
def e3 (d : PyData) : List PyData := [.tuple [d, .int 0], .tuple [d, .int 1], .tuple [d, .int 2], .tuple [d, .int 15], .tuple [d, .int 16], .tuple [d, .int (-1)], .tuple [d, .bool true]]
theorem kinds_ok : (kinds.all fun k => (e1 (.str k) ++ e2 (.str k)).all thingB) = true := by decide +kernel
theorem ws_ok : (wsD.all fun d => (e3 d ++ [PyData.tuple [d]]).all thingB) = true := by decide +kernel
theorem wsDv {M : Addr → Prop} {K : PySem.W.Frag} {H : Hp} : DvAll M K H wsV wsD :=
  .cons (.int _) (.cons (.int _) (.cons (.int _) (.cons (.int _) (.cons (.int _) (.cons (.int _) (.cons (.int _) (.cons (.bl _) (.cons .non (.cons (.str _) .nil)))))))))
def planD (w : Str) (z : Int) : Option Int → List PyData
  | none => [.str w, .int z]
  | some t => [.str w, .int z, .int t]
theorem plan_fine {w : Str} {z : Int} {x : Option Int} (h : PlanOk w z x) : fin (.tuple (planD w z x)) (10 ^ 17) = true ∧ (PyData.tuple (planD w z x)).depth ≤ 2 ∧ big (.tuple (planD w z x)) ≤ 1000 := by
  have fs : (["own", "split", "shared", "folded"] : List Str).all (fun w => fin (.str w) (10 ^ 17) && decide (big (.str w) ≤ 10)) = true := by decide +kernel
  have fw : ∀ w ∈ (["own", "split", "shared", "folded"] : List Str), fin (.str w) (10 ^ 17) = true ∧ big (.str w) ≤ 10 := fun w hw => by
    have := List.all_eq_true.mp fs w hw
    simpa only [Bool.and_eq_true, decide_eq_true_eq] using this
  obtain ⟨z0, z1, h⟩ := h
  have hw : w ∈ (["own", "split", "shared", "folded"] : List Str) := by
    rcases h with ⟨rfl, _⟩ | ⟨rfl | rfl | rfl, _⟩ <;> simp
  obtain ⟨fa, fb⟩ := fw w hw
  have fz : fin (.int z) (10 ^ 17) = true := by simp only [fin, decide_eq_true_eq]; omega
  rcases h with ⟨_, t, rfl, t0, t1⟩ | ⟨_, rfl⟩
  · have ft : fin (.int t) (10 ^ 17) = true := by simp only [fin, decide_eq_true_eq]; omega
    refine ⟨?_, ?_, ?_⟩
    · show finAll [.str w, .int z, .int t] (10 ^ 17) = true
      simp only [finAll, fa, fz, ft, Bool.and_self]
    · simp only [planD, PyData.depth, PyData.depthAll]; omega
    · simp only [planD, big, bigAll] at fb ⊢; omega
  · refine ⟨?_, ?_, ?_⟩
    · show finAll [.str w, .int z] (10 ^ 17) = true
      simp only [finAll, fa, fz, Bool.and_self]
    · simp only [planD, PyData.depth, PyData.depthAll]; omega
    · simp only [planD, big, bigAll] at fb ⊢; omega
theorem gau_fine {n v : Int} (n0 : 1 ≤ n) (n1 : n ≤ 4) (v0 : 0 ≤ v) (v1 : v < 2 ^ n.toNat) : fin (.tuple [.int n, .int v]) (10 ^ 17) = true ∧ (PyData.tuple [.int n, .int v]).depth ≤ 2 ∧ big (.tuple [.int n, .int v]) ≤ 1000 := by
  have hp : (2 : Int) ^ n.toNat ≤ 2 ^ 4 := pow2_up (by omega)
  refine ⟨?_, ?_, ?_⟩
  · simp only [fin, finAll, Bool.and_true, Bool.and_eq_true, decide_eq_true_eq]; omega
  · simp only [PyData.depth, PyData.depthAll]; omega
  · simp only [big, bigAll]; omega
section
variable {P : Program} {w : World} {K : PySem.W.Frag} {mg : Str → Option Value} {base : Heap}
/-- the list at l so far -/
def Gol (K : PySem.W.Frag) (b l : Addr) (H H' : Hp) (m n : Nat) : Prop := ∃ xs ds, But b H H' ∧ Box m H' b ∧ H l = none ∧ l ≠ b ∧ H' l = some (.lst xs) ∧ DvAll (fun a => a = b ∨ a = l) K H' xs ds ∧ (∀ d ∈ ds, Thing d) ∧ xs.length ≤ n
theorem Gol.up {b l : Addr} {H H' : Hp} {m n m2 n2 : Nat} (g : Gol K b l H H' m n) (hm : m ≤ m2) (hn : n ≤ n2) : Gol K b l H H' m2 n2 := by
  obtain ⟨xs, ds, bt, bx, nl, lb, hl, dx, od, ln⟩ := g
  exact ⟨xs, ds, bt, bx.up hm, nl, lb, hl, dx, od, by omega⟩
theorem Gol.same {b l : Addr} {H H1 H2 : Hp} {m n : Nat} (g : Gol K b l H H1 m n) (s : Same H1 H2) : Gol K b l H H2 m n := by
  obtain ⟨xs, ds, bt, bx, nl, lb, hl, dx, od, ln⟩ := g
  exact ⟨xs, ds, bt.trans (But.of_same s), bx.same s, nl, lb, s _ _ hl, dx.off (Off.same s), od, ln⟩
theorem Gol.but {b l : Addr} {H H1 H2 : Hp} {m m2 n : Nat} (g : Gol K b l H H1 m n) (s : But b H1 H2) (bx2 : Box m2 H2 b) : Gol K b l H H2 m2 n := by
  obtain ⟨xs, ds, bt, bx, nl, lb, hl, dx, od, ln⟩ := g
  exact ⟨xs, ds, bt.trans s, bx2, nl, lb, s _ _ lb hl, dx.off (Off.but s (.inl rfl)), od, ln⟩
theorem Gol.stands {b l : Addr} {H H1 : Hp} {m n : Nat} (g : Gol K b l H H1 m n) : Stands (fun a => a = b ∨ a = l) H1 := by
  obtain ⟨xs, ds, bt, bx, nl, lb, hl, dx, od, ln⟩ := g
  rintro a (rfl | rfl)
  · exact (stands_box bx) _ rfl
  · exact ⟨_, hl⟩
theorem Gol.box {b l : Addr} {H H1 : Hp} {m n : Nat} (g : Gol K b l H H1 m n) : Box m H1 b := by
  obtain ⟨xs, ds, bt, bx, _⟩ := g
  exact bx
/-- more things are put behind -/
theorem Gol.put {b l : Addr} {H H1 : Hp} {m n : Nat} {xs ys : List V} {es : List PyData} (g : Gol K b l H H1 m n) (hl : H1 l = some (.lst xs)) (hy : DvAll (fun a => a = b ∨ a = l) K H1 ys es) (ok : ∀ d ∈ es, Thing d) :
    Gol K b l H (upd H1 l (.lst (xs ++ ys))) m (n + es.length) := by
  obtain ⟨xs0, ds, bt, bx, nl, lb, hl0, dx, od, ln⟩ := g
  rw [hl] at hl0
  injection hl0 with hl0
  injection hl0 with hl0
  subst hl0
  have ly := hy.len
  refine ⟨xs ++ ys, ds ++ es, ?_, ?_, nl, lb, upd_same, (dx.app hy).off (Off.mut (.inr rfl)), fun d hd => (List.mem_append.mp hd).elim (od d) (ok d), by rw [List.length_append]; omega⟩
  · refine but_local nl bt fun a o n1 n2 h => ?_
    rw [upd_ne n2]
    exact h
  · obtain ⟨x, y, z, h, r⟩ := bx
    exact ⟨x, y, z, by rw [upd_ne lb.symm]; exact h, r⟩
theorem Gol.list {b l : Addr} {H H1 : Hp} {m n : Nat} (g : Gol K b l H H1 m n) : ∃ xs, H1 l = some (.lst xs) ∧ xs.length ≤ n := by
  obtain ⟨xs, ds, bt, bx, nl, lb, hl, dx, od, ln⟩ := g
  exact ⟨xs, hl, ln⟩
theorem gol_ext {b l : Addr} {H H1 : Hp} {m n k : Nat} {σ : L2.St} {ts : TA} {es : List PyData} {Q : VK} (g : Gol K b l H H1 m n) (h : MkA (fun a => a = b ∨ a = l) K ts σ H1 es) (ok : ∀ d ∈ es, Thing d) (hk : es.length = k) (hn : n + k ≤ 1000)
    (q : ∀ p xs ys H2, H2 l = some (.lst xs) → H2 p = some (.lst ys) → xs.length + ys.length ≤ sizeLine → Keep K H1 (upd H2 l (.lst (xs ++ ys))) → Gol K b l H (upd H2 l (.lst (xs ++ ys))) m (n + k) → Q (.ref p) H2) : tLst ts σ H1 Q := by
  obtain ⟨xs, hl, ln⟩ := g.list
  refine mk_some (K := K) (ds := es) h g.stands (by omega) fun p ys H2 s2 n2 e2 d2 l2 => ?_
  refine q p xs ys H2 (s2 _ _ hl) e2 (by rw [sizeLine_eq]; omega) ((Same.keep s2).trans (keep_lst (s2 _ _ hl))) ?_
  have := (g.same s2).put (s2 _ _ hl) d2 ok
  rwa [hk] at this
theorem ok_things {f : Addr} {fd : FuncData} (DA : Dfn P w K mg base 3 "_law_any" ["_law_box_here"] (spAny K)) (DP : Dfn P w K mg base 3 "_law_plan" ["_law_box_here", "_law_most"] (spPlan K)) (DG : Dfn P w K mg base 3 "_law_gauge" ["_law_box_here"] spGau)
    (DB : Dfn P w K mg base 16 "_law_bent" ["_law_box_here", "_law_thing"] (spBent K 12)) (mr : mg "range" = none) (F : L2.Fun K "_law_things" "_law_things" sThings f fd) : FnOk P w K mg base L2.CX0 17 f fd ["_law_box_here"] (spThings K 20000) := by
  refine F.ok scThings (fun vs H Q E h => ?_) (fun cdv A outer s H vs Q E hr h => ?_)
  · obtain ⟨b, m, rfl, _⟩ := h
    rfl
  · obtain ⟨b, m, rfl, hb, hm, q⟩ := h
    refine ⟨_, C8.pss_cut (ps_setLc (i := 1) (own := [("_law_turn", 4)]) (g := gName 4) (by rfl) scThings.nd rfl rfl (sw_true rfl rfl rfl (by decide +kernel)) (pi_range1 rfl mr (pa_cons pe_int pa_nil)) (blkOk_by (N := nThings) (sc := defScope sThings) (by decide +kernel))
            (fun _ _ _ _ _ => pg_name (i := 4) scThings.nd rfl (.inl rfl)) (fun _ _ _ _ _ => pts_nil) (fun _ _ _ _ _ => pe_d DA hr (by decide) (by rfl) (pa_cons (pv 0) pa_nil)))
      (C8.pss_cut (ps_for PassesOwn.never rfl (pi_tup (pe_mid (pe_tup (pa_cons pe_str (pa_cons pe_str (pa_cons pe_str (pa_cons pe_str (pa_cons pe_str (pa_cons pe_str (pa_cons pe_str pa_nil)))))))))) (pg_name (i := 2) scThings.nd rfl (.inl rfl))
        (pss_cons (ps_expr (pe_bm PySem.F.plainAttrs_list PySem.F.slot_list_extend PySem.F.type_list_extend mt_extend (pv 1) (pa_cons (pe_lst (pa_cons (pe_tup (pa_cons (pv 2) (pa_cons pe_int pa_nil))) (pa_cons (pe_tup (pa_cons (pv 2) (pa_cons pe_int pa_nil))) (pa_cons (pe_tup (pa_cons (pv 2) (pa_cons pe_int pa_nil)))
            (pa_cons (pe_tup (pa_cons (pv 2) (pa_cons (pe_un un_neg pe_int) pa_nil))) (pa_cons (pe_tup (pa_cons (pv 2) (pa_cons pe_int (pa_cons pe_int pa_nil)))) (pa_cons (pe_tup (pa_cons (pv 2) (pa_cons pe_int (pa_cons pe_int pa_nil)))) (pa_cons (pe_tup (pa_cons (pv 2) (pa_cons pe_int (pa_cons pe_int pa_nil)))) pa_nil)))))))) pa_nil)))
        (pss_one (ps_expr (pe_bm PySem.F.plainAttrs_list PySem.F.slot_list_extend PySem.F.type_list_extend mt_extend (pv 1) (pa_cons (pe_lst (pa_cons (pe_tup (pa_cons (pv 2) pa_nil)) (pa_cons (pe_tup (pa_cons (pv 2) (pa_cons pe_bl pa_nil))) (pa_cons (pe_tup (pa_cons (pv 2) (pa_cons pe_int (pa_cons pe_bl pa_nil))))
            (pa_cons (pe_tup (pa_cons (pv 2) (pa_cons pe_str pa_nil))) (pa_cons (pe_lstN (pa_cons (pv 2) (pa_cons pe_int pa_nil))) (pa_cons (pe_tup (pa_cons (pv 2) (pa_cons pe_int (pa_cons pe_int (pa_cons pe_int pa_nil))))) (pa_cons (pe_tup (pa_cons (pv 2) (pa_cons pe_non pa_nil))) pa_nil)))))))) pa_nil))))))
      (C8.pss_cut (ps_for PassesOwn.never rfl (pi_tup (pe_mid (pe_tup (pa_cons (pe_un un_neg pe_int) (pa_cons pe_int (pa_cons pe_int (pa_cons pe_int (pa_cons pe_int (pa_cons pe_int (pa_cons pe_int (pa_cons pe_bl (pa_cons pe_non (pa_cons pe_str pa_nil))))))))))))) (pg_name (i := 3) scThings.nd rfl (.inl rfl))
        (pss_cons (ps_expr (pe_bm PySem.F.plainAttrs_list PySem.F.slot_list_extend PySem.F.type_list_extend mt_extend (pv 1) (pa_cons (pe_lst (pa_cons (pe_tup (pa_cons (pv 3) (pa_cons pe_int pa_nil))) (pa_cons (pe_tup (pa_cons (pv 3) (pa_cons pe_int pa_nil))) (pa_cons (pe_tup (pa_cons (pv 3) (pa_cons pe_int pa_nil)))
            (pa_cons (pe_tup (pa_cons (pv 3) (pa_cons pe_int pa_nil))) (pa_cons (pe_tup (pa_cons (pv 3) (pa_cons pe_int pa_nil))) (pa_cons (pe_tup (pa_cons (pv 3) (pa_cons (pe_un un_neg pe_int) pa_nil))) (pa_cons (pe_tup (pa_cons (pv 3) (pa_cons pe_bl pa_nil))) pa_nil)))))))) pa_nil)))
        (pss_one (ps_expr (pe_bm PySem.F.plainAttrs_list PySem.F.slot_list_append PySem.F.type_list_append mt_append (pv 1) (pa_cons (pe_tup (pa_cons (pv 3) pa_nil)) pa_nil))))))
      (pss_cons (ps_for PassesOwn.never rfl (pi_range1 rfl mr (pa_cons pe_int pa_nil)) (pg_name (i := 4) scThings.nd rfl (.inl rfl))
        (pss_cons (ps_par (i := 5) (j := 6) (by rfl) scThings.nd rfl rfl (by decide) rfl rfl (pa_cons (pe_d DP hr (by decide) (by rfl) (pa_cons (pv 0) (pa_cons pe_int pa_nil))) (pa_cons (pe_d DG hr (by decide) (by rfl) (pa_cons (pv 0) pa_nil)) pa_nil)) (by rfl))
        (pss_cons (ps_par (i := 7) (j := 8) (by rfl) scThings.nd rfl rfl (by decide) rfl rfl (pa_cons (pe_d DB hr (by decide) (by rfl) (pa_cons (pv 0) (pa_cons (pv 5) pa_nil))) (pa_cons (pe_d DB hr (by decide) (by rfl) (pa_cons (pv 0) (pa_cons (pv 6) pa_nil))) pa_nil)) (by rfl))
        (pss_one (ps_expr (pe_bm PySem.F.plainAttrs_list PySem.F.slot_list_extend PySem.F.type_list_extend mt_extend (pv 1) (pa_cons (pe_lst (pa_cons (pv 5) (pa_cons (pv 6) (pa_cons (pv 7) (pa_cons (pv 8) (pa_cons (pe_d DB hr (by decide) (by rfl) (pa_cons (pv 0) (pa_cons (pv 7) pa_nil))) (pa_cons (pe_d DB hr (by decide) (by rfl) (pa_cons (pv 0) (pa_cons (pv 8) pa_nil)))
            (pa_cons (pe_revU (pv 6)) (pa_cons (pe_revU (pv 5)) pa_nil))))))))) pa_nil)))))))
      (pss_one (ps_ret (pv 1)))))), ?_⟩
    refine ⟨fun σ' H' => ∃ l, σ' = [some (.ref b), some (.ref l), none, none, none, none, none, none, none] ∧ Gol K b l H H' (m + 800) 40, ?_, fun σ' H' hM => ?_⟩
    · refine ⟨40, rfl, by decide, by decide, fun D nD => lc_range (lo := 0) (n := (40 : Int).toNat)
          (fun j H' => But b H H' ∧ Box (m + 20 * j) H' b ∧ ∃ xs ds, H' D = some (.lst xs) ∧ DvAll (fun a => a = b ∨ a = D) K H' xs ds ∧ (∀ d ∈ ds, Thing d) ∧ xs.length = j)
          ⟨But.new nD, hb.same (same_new nD), [], [], upd_same, .nil, fun d hd => (nomatch hd), rfl⟩ (fun j H2 hj hp => ?_) (fun H2 hp => ?_)⟩
      · obtain ⟨bt, bx, xs, ds, hD, dx, od, ln⟩ := hp
        have nDb : D ≠ b := (hb.ne nD).symm
        have hj : j < 40 := hj
        refine ⟨rfl, .ref b, rfl, (fun a => a = b ∨ a = D), b, m + 20 * j, rfl, .inl rfl, (stands_box bx).or hD, bx, by omega, fun H3 v d bt3 bx3 dv f1 f2 f3 => ⟨xs, bt3 _ _ nDb hD, ?_, ?_, ?_, xs ++ [v], ds ++ [d], upd_same, ?_, ?_, ?_⟩⟩
        · rw [ln]
          exact small1000 (by omega)
        · refine but_local nD (bt.trans bt3) fun a o n1 n2 h => ?_
          rw [upd_ne n2]
          exact h
        · obtain ⟨x1, x2, x3, g1, g2⟩ := bx3
          exact ⟨x1, x2, x3, by rw [upd_ne nDb.symm]; exact g1, g2.1, by have := g2.2; omega⟩
        · exact ((dx.off (Off.but bt3 (.inl rfl))).app (.cons dv .nil)).off (Off.mut (.inr rfl))
        · intro x hx
          rcases List.mem_append.mp hx with hx | hx
          · exact od x hx
          · obtain rfl := List.mem_singleton.mp hx
            exact ⟨fin_mono (by decide) _ f1, by omega, by omega⟩
        · rw [List.length_append, ln]
          rfl
      · obtain ⟨bt, bx, xs, ds, hD, dx, od, ln⟩ := hp
        have ln : xs.length = 40 := ln
        have bx : Box (m + 20 * 40) H2 b := bx
        exact ⟨D, rfl, xs, ds, bt, bx, nD, (hb.ne nD).symm, hD, dx, od, by omega⟩
    · obtain ⟨l, rfl, g⟩ := hM
      refine ⟨fun σ' H' => (∃ y2, σ' = [some (.ref b), some (.ref l), y2, none, none, none, none, none, none]) ∧ Gol K b l H H' (m + 800) 138, ?_, fun σ' H' hM => ?_⟩
      · refine ⟨fun v G => ∃ t, v = .ref t ∧ SqT K G t (kinds.map V.str) ∧ Same H' G, ⟨by show 7 ≤ sizeLine; decide, fun t nt => ⟨t, rfl, .inl (.inl upd_same), same_new nt⟩⟩, fun v G hv => ?_⟩
        obtain ⟨t, rfl, sG, smG⟩ := hv
        refine ⟨t, rfl, ⟨_, sG⟩, for_tup (K := K) (xs := kinds.map V.str) (fun i σ H2 => (∃ y2, σ = [some (.ref b), some (.ref l), y2, none, none, none, none, none, none]) ∧ SqT K H2 t (kinds.map V.str) ∧ Gol K b l H H2 (m + 800) (40 + 14 * i)) ⟨⟨none, rfl⟩, sG, g.same smG⟩ (fun i σ H2 _ hp => hp.2.1) (fun i x σ H2 hx hp => ?_) (fun σ H2 hp => ?_)⟩
        · obtain ⟨⟨y2, rfl⟩, s2, g2⟩ := hp
          rw [List.getElem?_map] at hx
          obtain ⟨k, hk, rfl⟩ : ∃ k, kinds[i]? = some k ∧ x = .str k := by
            cases e : kinds[i]? with
            | none => rw [e] at hx; cases hx
            | some k => rw [e] at hx; exact ⟨k, rfl, (Option.some.inj hx).symm⟩
          have hi : i < 7 := (List.getElem?_eq_some_iff.mp hk).1
          have okk : ∀ d ∈ e1 (.str k) ++ e2 (.str k), Thing d := fun d hd => thing_of (List.all_eq_true.mp (List.all_eq_true.mp kinds_ok k (List.mem_of_getElem? hk)) d hd)
          obtain ⟨xs2, hl2, _⟩ := g2.list
          refine go_name ?_
          refine ⟨.ref l, rfl, .inl ⟨rfl, _, SqL.of hl2⟩, goA_cons (gol_ext (k := 7) (es := e1 (.str k)) g2 ?_ (fun d hd => okk d (List.mem_append_left _ hd)) rfl (by omega) fun p xs ys H3 h1 h2 h3 k3 g3 => ⟨l, p, xs, ys, rfl, rfl, h1, h2, h3, ?_⟩)⟩
          · have mv : ∀ {M : Addr → Prop}, Mk M K (tVar 2) [some (.ref b), some (.ref l), some (.str k), none, none, none, none, none, none] H2 (.str k) := mk_var rfl (.str k)
            exact mkA_cons (mk_tup (mkA_cons mv (mkA_cons mk_int mkA_nil)) (Nat.le_of_ble_eq_true rfl)) (mkA_cons (mk_tup (mkA_cons mv (mkA_cons mk_int mkA_nil)) (Nat.le_of_ble_eq_true rfl)) (mkA_cons (mk_tup (mkA_cons mv (mkA_cons mk_int mkA_nil)) (Nat.le_of_ble_eq_true rfl)) (mkA_cons (mk_tup (mkA_cons mv (mkA_cons mk_neg mkA_nil)) (Nat.le_of_ble_eq_true rfl))
              (mkA_cons (mk_tup (mkA_cons mv (mkA_cons mk_int (mkA_cons mk_int mkA_nil))) (Nat.le_of_ble_eq_true rfl)) (mkA_cons (mk_tup (mkA_cons mv (mkA_cons mk_int (mkA_cons mk_int mkA_nil))) (Nat.le_of_ble_eq_true rfl)) (mkA_cons (mk_tup (mkA_cons mv (mkA_cons mk_int (mkA_cons mk_int mkA_nil))) (Nat.le_of_ble_eq_true rfl)) mkA_nil))))))
          · have s3 := k3 _ _ s2
            obtain ⟨xs4, hl4, _⟩ := g3.list
            generalize upd H3 l (.lst (xs ++ ys)) = H4 at *
            refine ⟨.ref l, rfl, .inl ⟨rfl, _, SqL.of hl4⟩, goA_cons (gol_ext (k := 7) (es := e2 (.str k)) g3 ?_ (fun d hd => okk d (List.mem_append_right _ hd)) rfl (by omega) fun p xs ys H5 h1 h2 h3 k5 g5 => ⟨l, p, xs, ys, rfl, rfl, h1, h2, h3, ?_⟩)⟩
            · have mv : ∀ {M : Addr → Prop}, Mk M K (tVar 2) [some (.ref b), some (.ref l), some (.str k), none, none, none, none, none, none] H4 (.str k) := mk_var rfl (.str k)
              exact mkA_cons (mk_tup (mkA_cons mv mkA_nil) (Nat.le_of_ble_eq_true rfl)) (mkA_cons (mk_tup (mkA_cons mv (mkA_cons mk_bl mkA_nil)) (Nat.le_of_ble_eq_true rfl)) (mkA_cons (mk_tup (mkA_cons mv (mkA_cons mk_int (mkA_cons mk_bl mkA_nil))) (Nat.le_of_ble_eq_true rfl)) (mkA_cons (mk_tup (mkA_cons mv (mkA_cons mk_str mkA_nil)) (Nat.le_of_ble_eq_true rfl))
                (mkA_cons (mk_lst (mkA_cons mv (mkA_cons mk_int mkA_nil)) (Nat.le_of_ble_eq_true rfl)) (mkA_cons (mk_tup (mkA_cons mv (mkA_cons mk_int (mkA_cons mk_int (mkA_cons mk_int mkA_nil)))) (Nat.le_of_ble_eq_true rfl)) (mkA_cons (mk_tup (mkA_cons mv (mkA_cons mk_non mkA_nil)) (Nat.le_of_ble_eq_true rfl)) mkA_nil))))))
            · exact ⟨⟨_, rfl⟩, k5 _ _ s3, g5.up (Nat.le_refl _) (by omega)⟩
        · obtain ⟨⟨y2, rfl⟩, s2, g2⟩ := hp
          exact ⟨⟨_, rfl⟩, g2⟩
      · obtain ⟨⟨y2, rfl⟩, g⟩ := hM
        refine ⟨fun σ' H' => (∃ y2 y3, σ' = [some (.ref b), some (.ref l), y2, y3, none, none, none, none, none]) ∧ Gol K b l H H' (m + 800) 218, ?_, fun σ' H' hM => ?_⟩
        · refine ⟨fun v G => ∃ t, v = .ref t ∧ SqT K G t wsV ∧ Same H' G, ⟨1, rfl, by show 10 ≤ sizeLine; decide, fun t nt => ⟨t, rfl, .inl (.inl upd_same), same_new nt⟩⟩, fun v G hv => ?_⟩
          obtain ⟨t, rfl, sG, smG⟩ := hv
          refine ⟨t, rfl, ⟨_, sG⟩, for_tup (K := K) (xs := wsV) (fun i σ H2 => (∃ y3, σ = [some (.ref b), some (.ref l), y2, y3, none, none, none, none, none]) ∧ SqT K H2 t wsV ∧ Gol K b l H H2 (m + 800) (138 + 8 * i)) ⟨⟨none, rfl⟩, sG, g.same smG⟩ (fun i σ H2 _ hp => hp.2.1) (fun i x σ H2 hx hp => ?_) (fun σ H2 hp => ?_)⟩
          · obtain ⟨⟨y3, rfl⟩, s2, g2⟩ := hp
            have hi : i < 10 := (List.getElem?_eq_some_iff.mp hx).1
            obtain ⟨d, hd, dx⟩ := (wsDv (M := fun a => a = b ∨ a = l) (K := K) (H := H2)).at hx
            have okk : ∀ e ∈ e3 d ++ [PyData.tuple [d]], Thing e := fun e he => thing_of (List.all_eq_true.mp (List.all_eq_true.mp ws_ok d (List.mem_of_getElem? hd)) e he)
            obtain ⟨xs2, hl2, _⟩ := g2.list
            refine go_name ?_
            refine ⟨.ref l, rfl, .inl ⟨rfl, _, SqL.of hl2⟩, goA_cons (gol_ext (k := 7) (es := e3 d) g2 ?_ (fun e he => okk e (List.mem_append_left _ he)) rfl (by omega) fun p xs ys H3 h1 h2 h3 k3 g3 => ⟨l, p, xs, ys, rfl, rfl, h1, h2, h3, ?_⟩)⟩
            · have mv : Mk (fun a => a = b ∨ a = l) K (tVar 3) [some (.ref b), some (.ref l), y2, some x, none, none, none, none, none] H2 d := mk_var rfl dx
              exact mkA_cons (mk_tup (mkA_cons mv (mkA_cons mk_int mkA_nil)) (Nat.le_of_ble_eq_true rfl)) (mkA_cons (mk_tup (mkA_cons mv (mkA_cons mk_int mkA_nil)) (Nat.le_of_ble_eq_true rfl)) (mkA_cons (mk_tup (mkA_cons mv (mkA_cons mk_int mkA_nil)) (Nat.le_of_ble_eq_true rfl)) (mkA_cons (mk_tup (mkA_cons mv (mkA_cons mk_int mkA_nil)) (Nat.le_of_ble_eq_true rfl))
                (mkA_cons (mk_tup (mkA_cons mv (mkA_cons mk_int mkA_nil)) (Nat.le_of_ble_eq_true rfl)) (mkA_cons (mk_tup (mkA_cons mv (mkA_cons mk_neg mkA_nil)) (Nat.le_of_ble_eq_true rfl)) (mkA_cons (mk_tup (mkA_cons mv (mkA_cons mk_bl mkA_nil)) (Nat.le_of_ble_eq_true rfl)) mkA_nil))))))
            · have s3 := k3 _ _ s2
              obtain ⟨xs4, hl4, ln4⟩ := g3.list
              obtain ⟨d', hd', dx'⟩ := (wsDv (M := fun a => a = b ∨ a = l) (K := K) (H := upd H3 l (.lst (xs ++ ys)))).at hx
              obtain rfl : d = d' := by rw [hd] at hd'; exact Option.some.inj hd'
              generalize upd H3 l (.lst (xs ++ ys)) = H4 at *
              refine ⟨.ref l, rfl, .inl ⟨rfl, _, SqL.of hl4⟩, x, rfl, by show 1 ≤ sizeLine; decide, fun p np => ?_⟩
              have s5 := same_new (o := HO.tup [x]) np
              have g5 := g3.same s5
              have nM : ¬ (p = b ∨ p = l) := g3.stands.new np
              have hl5 := s5 _ _ hl4
              have hv : DvAll (fun a => a = b ∨ a = l) K (upd H4 p (.tup [x])) [.ref p] [.tuple [d]] := .cons (.tup (.inl upd_same) nM (.cons (dx'.off (Off.same s5)) .nil)) .nil
              refine ⟨l, xs4, .ref p, rfl, rfl, hl5, by rw [sizeLine_eq]; omega, ⟨_, rfl⟩, ?_, ?_⟩
              · exact ((Same.keep s5).trans (keep_lst hl5)) _ _ s3
              · exact (g5.put hl5 hv (fun e he => okk e (List.mem_append_right _ he))).up (Nat.le_refl _) (by show 138 + 8 * i + 7 + 1 ≤ _; omega)
          · obtain ⟨⟨y3, rfl⟩, s2, g2⟩ := hp
            exact ⟨⟨_, _, rfl⟩, g2⟩
        · obtain ⟨⟨y2, y3, rfl⟩, g⟩ := hM
          refine ⟨16, rfl, by decide, by decide, for_range (lo := 0) (n := (16 : Int).toNat) (fun i σ H1 => (∃ y4 y5 y6 y7 y8, σ = [some (.ref b), some (.ref l), y2, y3, y4, y5, y6, y7, y8]) ∧ Gol K b l H H1 (m + 800 + 700 * i) (218 + 8 * i))
            ⟨⟨_, _, _, _, _, rfl⟩, g⟩ (fun i σ H1 hi hp => ?_) (fun σ H1 hp => ?_)⟩
          · obtain ⟨⟨y4, y5, y6, y7, y8, rfl⟩, g1⟩ := hp
            have hi : i < 16 := hi
            have bx1 := g1.box
            refine go_name ?_
            refine ⟨.ref b, rfl, b, 64, m + 800 + 700 * i, rfl, by decide, by decide, bx1, by omega, fun H3 p w z x bt3 bx3 pb np hp ok => ⟨.ref b, rfl, b, m + 800 + 700 * i + 10, rfl, bx3, by omega, fun H4 p2 n v bt4 bx4 p2b np2 hp2 n0 n1 v0 v1 => ⟨_, _, rfl, ?_⟩⟩⟩
            have g3 := g1.but bt3 bx3
            have g4 := g3.but bt4 bx4
            have nMp : ¬ (p = b ∨ p = l) := g1.stands.new np
            have nMp2 : ¬ (p2 = b ∨ p2 = l) := g3.stands.new np2
            have hp4 := bt4 _ _ pb hp
            have pall : ∀ {G : Hp}, DvAll (fun a => a = b ∨ a = l) K G (planV w z x) (planD w z x) := by
              intro G
              cases x with
              | none => exact .cons (.str _) (.cons (.int _) .nil)
              | some t => exact .cons (.str _) (.cons (.int _) (.cons (.int _) .nil))
            have dP : Dv (fun a => a = b ∨ a = l) K H4 (.ref p) (.tuple (planD w z x)) := .tup (.inl hp4) nMp pall
            have dG : Dv (fun a => a = b ∨ a = l) K H4 (.ref p2) (.tuple [.int n, .int v]) := .tup (.inl hp2) nMp2 (.cons (.int _) (.cons (.int _) .nil))
            obtain ⟨u1, u2, u3⟩ := plan_fine ok
            obtain ⟨w1, w2, w3⟩ := gau_fine n0 n1 v0 v1
            clear hp4 bt3 bt4 bx1
            refine ⟨.ref b, rfl, .ref p, rfl, _, b, .ref p, _, m + 800 + 700 * i + 10 + 10, 10 ^ 17, rfl, .inl rfl, g4.stands, dP, u1, Nat.le_refl _, by decide, by omega, by omega, bx4, by omega, fun H5 v5 d5 bt5 bx5 dv5 f5 q5 h5 => ?_⟩
            have g5 := g4.but bt5 bx5
            refine ⟨.ref b, rfl, .ref p2, rfl, _, b, .ref p2, _, m + 800 + 700 * i + 10 + 10 + 10 * 12 + 40, 10 ^ 17, rfl, .inl rfl, g5.stands, dG.off (Off.but bt5 (.inl rfl)), w1, Nat.le_refl _, by decide, by omega, by omega, bx5, by omega, fun H6 v6 d6 bt6 bx6 dv6 f6 q6 h6 => ⟨_, _, rfl, ?_⟩⟩
            have g6 := g5.but bt6 bx6
            obtain ⟨xs6, hl6, _⟩ := g6.list
            have dv56 := dv5.off (Off.but bt6 (.inl rfl))
            refine ⟨.ref l, rfl, .inl ⟨rfl, _, SqL.of hl6⟩, .ref p, rfl, .ref p2, rfl, v5, rfl, v6, rfl, .ref b, rfl, v5, rfl, _, b, v5, d5, m + 800 + 700 * i + 10 + 10 + 10 * 12 + 40 + 10 * 12 + 40, 10 ^ 17 + 1, rfl, .inl rfl, g6.stands, dv56, f5, by decide, by decide, by omega, by omega, bx6, by omega, fun H7 v7 d7 bt7 bx7 dv7 f7 q7 h7 => ?_⟩
            have g7 := g6.but bt7 bx7
            refine ⟨.ref b, rfl, v6, rfl, _, b, v6, d6, m + 800 + 700 * i + 10 + 10 + 10 * 12 + 40 + 10 * 12 + 40 + 10 * 12 + 40, 10 ^ 17 + 1, rfl, .inl rfl, g7.stands, dv6.off (Off.but bt7 (.inl rfl)), f6, by decide, by decide, by omega, by omega, bx7, by omega, fun H8 v8 d8 bt8 bx8 dv8 f8 q8 h8 => ?_⟩
            have g8 := g7.but bt8 bx8
            have o68 : Off (fun a => a = b ∨ a = l) H6 H8 := (Off.but bt7 (.inl rfl)).trans (Off.but bt8 (.inl rfl))
            have o48 : Off (fun a => a = b ∨ a = l) H4 H8 := ((Off.but bt5 (.inl rfl)).trans (Off.but bt6 (.inl rfl))).trans o68
            have dP8 := dP.off o48
            have dG8 := dG.off o48
            have a5 := dv56.off o68
            have a6 := dv6.off o68
            have a7 := dv7.off (Off.but bt8 (.inl rfl))
            refine mkA_cons (mk_rev (ds := [.int n, .int v]) (mk_var (M := fun a => a = b ∨ a = l) rfl dG8)) (mkA_cons (mk_rev (mk_var rfl dP8)) mkA_nil) H8 _ _ (Same.refl _) (fun _ h => h) (fun _ h => .inl h) g8.stands fun vs H9 s9 d9 => ?_
            cases d9 with
            | cons r1 t9 =>
            rename_i x1 xs1
            cases t9 with
            | cons r2 t9 =>
            rename_i x2 xs2
            cases t9
            refine ⟨by show 8 ≤ sizeLine; decide, fun p9 n9 => ?_⟩
            have s10 := same_new (o := HO.lst [.ref p, .ref p2, v5, v6, v7, v8, x1, x2]) n9
            have s8a := s9.trans s10
            have ga := g8.same s8a
            have eight : DvAll (fun a => a = b ∨ a = l) K (upd H9 p9 (.lst [.ref p, .ref p2, v5, v6, v7, v8, x1, x2])) [.ref p, .ref p2, v5, v6, v7, v8, x1, x2] [.tuple (planD w z x), .tuple [.int n, .int v], d5, d6, d7, d8, .tuple [.int n, .int v].reverse, .tuple (planD w z x).reverse] :=
              .cons (dP8.off (Off.same s8a)) (.cons (dG8.off (Off.same s8a)) (.cons (a5.off (Off.same s8a)) (.cons (a6.off (Off.same s8a)) (.cons (a7.off (Off.same s8a)) (.cons (dv8.off (Off.same s8a)) (.cons (r1.off (Off.same s10)) (.cons (r2.off (Off.same s10)) .nil)))))))
            obtain ⟨xsa, hla, lna⟩ := ga.list
            have e9 : upd H9 p9 (.lst [.ref p, .ref p2, v5, v6, v7, v8, x1, x2]) p9 = some (.lst [.ref p, .ref p2, v5, v6, v7, v8, x1, x2]) := upd_same
            refine ⟨l, p9, xsa, _, rfl, rfl, hla, e9, ?_, ⟨_, _, _, _, _, rfl⟩, ?_⟩
            · show xsa.length + 8 ≤ sizeLine
              rw [sizeLine_eq]
              omega
            · have rv : ∀ {ds : List PyData}, fin (.tuple ds) (10 ^ 17) = true → (PyData.tuple ds).depth ≤ 2 → big (.tuple ds) ≤ 1000 → Thing (.tuple ds.reverse) := fun {ds} a b c => by
                refine thing_up (B := 10 ^ 17) ?_ (by decide) ?_ ?_
                · simp only [fin] at a ⊢
                  exact finAll_iff.mpr fun d hd => finAll_iff.mp a d (List.mem_reverse.mp hd)
                · rw [depth_tup] at b ⊢
                  have : PyData.depthAll ds.reverse ≤ 2 := depthAll_iff.mpr fun d hd => by
                    have hds : PyData.depthAll ds ≤ 2 := by omega
                    exact depthAll_iff.mp hds d (List.mem_reverse.mp hd)
                  omega
                · simp only [big, bigAll_rev] at c ⊢
                  omega
              refine (ga.put hla eight fun d hd => ?_).up (by omega) (by show 218 + 8 * i + 8 ≤ _; omega)
              simp only [List.mem_cons, List.not_mem_nil, or_false] at hd
              rcases hd with rfl | rfl | rfl | rfl | rfl | rfl | rfl | rfl
              · exact thing_up u1 (by decide) (by omega) (by omega)
              · exact thing_up w1 (by decide) (by omega) (by omega)
              · exact thing_up f5 (by decide) (by omega) (by omega)
              · exact thing_up f6 (by decide) (by omega) (by omega)
              · exact thing_up f7 (by decide) (by omega) (by omega)
              · exact thing_up f8 (by decide) (by omega) (by omega)
              · exact rv w1 w2 w3
              · exact rv u1 u2 u3
          · obtain ⟨⟨y4, y5, y6, y7, y8, rfl⟩, g1⟩ := hp
            obtain ⟨xs, ds, bt, bx, nl, lb, hl, dx, od, ln⟩ := g1
            have bx : Box (m + 800 + 700 * 16) H1 b := bx
            exact ⟨.ref l, rfl, q H1 l xs ds bt (bx.up (by omega)) lb hl (dx.keep Off.refl fun a o _ n z => n (.inl z)) od⟩
end
end Pf
namespace Pf
open PySem PySem.Spec PyProof.Rows L2 Gk
abbrev sLaw : Stmt := topS 23
abbrev nLaw : List Str := ["_law_script", "_law_k"]
theorem scLaw : FnScope nLaw ["_law_script"] (defScope sLaw) := ⟨rfl, rfl, rfl, by decide +kernel, rfl, by decide +kernel, by decide +kernel⟩
section
variable {P : Program} {w : World} {K : PySem.W.Frag} {mg : Str → Option Value} {base : Heap}
def spLaw (K : PySem.W.Frag) : Sp := fun vs H Q _ => ∃ (a : Addr) (ns : List Int), vs = [.ref a] ∧ SqL K H a (ns.map V.int) ∧ ns.length ≤ 63 ∧ (∀ b, a ≠ b → True) ∧ ∀ H', Q (.bl true) H'
theorem sqL_same {H H' : Hp} {a : Addr} {xs : List V} (s : Same H H') (h : SqL K H a xs) : SqL K H' a xs := by
  rcases h with (h | ⟨o, h⟩) | h
  · exact .inl (.inl (s _ _ h))
  · exact .inl (.inr ⟨o, s _ _ h⟩)
  · exact .inr h
theorem but_new {b : Addr} {H H' : Hp} {o : HO} (n : H b = none) (h : But b (upd H b o) H') : Same H H' := fun a u e => h a u (ne_of_none e n) (same_new n a u e)
theorem ok_law {f : Addr} {fd : FuncData} (DB : Dfn P w K mg base 1 "_law_box" ["_law_script", "_law_k"] (spBox K)) (DR : DfG P w K mg base 18 "_law_right" ["_law_box_here"] (spRight 20000))
    (mr : mg "range" = none) (mx : mg "max" = none) (mn : mg "min" = none) (ml : mg "len" = none) (ma : mg "all" = none) (F : L2.Fun K "law" "law" sLaw f fd) : FnG P w K mg base 19 f fd ["_law_script"] (spLaw K) := by
  refine fnG F scLaw (fun vs H Q E h => ?_) (fun cdv A outer s H vs Q hr hg h => ?_)
  · obtain ⟨a, ns, rfl, _⟩ := h
    rfl
  · obtain ⟨a, ns, rfl, hS, hl, _, q⟩ := h
    refine ⟨_, pss_one (ps_ret (pe_callB (cr_all rfl) (by rfl) ma (by decide +kernel) (pa_cons (pe_lc (own := [("_law_k", 1)]) (g := gName 1) (by rfl) scLaw.nd
        (pi_range1 rfl mr (pa_cons (pe_mid (pe_callB (call_max2 rfl) (by rfl) mx (by decide +kernel) (pa_cons pe_int (pa_cons (pe_callB (call_min2 rfl) (by rfl) mn (by decide +kernel)
            (pa_cons pe_int (pa_cons (pe_callB call_len_seq (by rfl) ml PySem.boot_len (pa_cons (pv 0) pa_nil)) pa_nil))) pa_nil)))) pa_nil)) (blkOk_by (N := nLaw) (sc := defScope sLaw) (by decide +kernel))
        (fun _ _ _ _ _ => pg_name (i := 1) scLaw.nd rfl (.inl rfl)) (fun _ _ _ _ _ => pts_nil) (fun _ _ _ _ _ => pe_dg DR hr hg (by decide) (by rfl) (pa_cons (pe_d DB hr (by decide) (by rfl) (pa_cons (pv 0) (pa_cons (pv 1) pa_nil))) pa_nil))) pa_nil))), ?_⟩
    have hmin : (if ((ns.map V.int).length : Int) < 3 then ((ns.map V.int).length : Int) else 3) ≤ 3 := by split <;> omega
    refine ⟨fun v H' => H' = H ∧ ∃ z : Int, v = .int z ∧ z ≤ 3 ∧ -(2 ^ 62) ≤ z, ?_, fun v H' hv => ?_⟩
    · refine ⟨.ref a, rfl, a, _, rfl, .inl hS, _, _, rfl, _, _, rfl, rfl, _, rfl, ?_, ?_⟩
      · split <;> omega
      · split <;> omega
    · obtain ⟨rfl, z, rfl, z3, z0⟩ := hv
      refine ⟨z, rfl, z0, by omega, fun D nD => lc_range (lo := 0) (n := z.toNat)
          (fun j H2 => Same H' H2 ∧ H2 D = some (.lst ((List.replicate j true).map V.bl))) ⟨same_new nD, upd_same⟩ (fun j H2 hj hp => ?_) (fun H2 hp => ?_)⟩
      · obtain ⟨sm, hD⟩ := hp
        refine ⟨rfl, .ref a, rfl, .int (0 + (j : Nat)), rfl, a, ns, 0 + (j : Nat), rfl, sqL_same sm hS, hl, by omega, by omega, fun b x y nb => ?_⟩
        have hB0 : Box 0 (upd H2 b (.lst [.int x, .int y, .int 0])) b := ⟨x, y, 0, upd_same, Int.le_refl _, Int.le_refl _⟩
        refine ⟨b, 0, rfl, hB0, by omega, fun H3 bt3 bx3 => ?_⟩
        have s3 := but_new nb bt3
        refine ⟨(List.replicate j true).map V.bl, s3 _ _ hD, ?_, ?_, ?_⟩
        · rw [List.length_map, List.length_replicate]
          exact small1000 (by omega)
        · intro o u h
          rw [upd_ne (ne_of_none h nD)]
          exact s3 _ _ (sm o u h)
        · rw [upd_same, List.replicate_succ', List.map_append]
          rfl
      · obtain ⟨sm, hD⟩ := hp
        refine ⟨D, List.replicate z.toNat true, rfl, .inl (.inl hD), ?_⟩
        have e : (List.replicate z.toNat true).all id = true := by
          rw [List.all_eq_true]
          intro b hb
          rw [List.mem_replicate] at hb
          rw [hb.2]
          rfl
        have := q H2
        rw [← e] at this
        exact this
theorem law_start {K : PySem.W.Frag} {H : Hp} {a : Addr} {ns : List Int} (hl : ns.length ≤ 63) (hO : Only H) (hS : SqL K H a (ns.map V.int)) : spLaw K [.ref a] H (fun v _ => v = .bl true) L2.E0 :=
  ⟨a, ns, rfl, hS, hl, fun _ _ => trivial, fun _ => rfl⟩
end
end Pf
namespace Pf
open PySem PySem.Spec PyProof.Rows L2 Gk
theorem all_mk {P : Program} {w : World} {K : PySem.W.Frag} {h : Heap} {mg : Str → Option Value} {fa : Addr} (X : K.In h) (G : h.Ns mainGlobals mg) (hfa : mg "law" = some (.ref fa))
    {f0 : Addr} {od0 an0 : Option Addr} {sl0 : Array (Option Value)} {oc0 kV0 dc0 pm0 cd0 ct0 : Value} {f1 : Addr} {od1 an1 : Option Addr} {sl1 : Array (Option Value)} {oc1 kV1 dc1 pm1 cd1 ct1 : Value} {f2 : Addr} {od2 an2 : Option Addr} {sl2 : Array (Option Value)} {oc2 kV2 dc2 pm2 cd2 ct2 : Value} {f3 : Addr} {od3 an3 : Option Addr} {sl3 : Array (Option Value)} {oc3 kV3 dc3 pm3 cd3 ct3 : Value} {f4 : Addr} {od4 an4 : Option Addr} {sl4 : Array (Option Value)} {oc4 kV4 dc4 pm4 cd4 ct4 : Value} {f5 : Addr} {od5 an5 : Option Addr} {sl5 : Array (Option Value)} {oc5 kV5 dc5 pm5 cd5 ct5 : Value} {f6 : Addr} {od6 an6 : Option Addr} {sl6 : Array (Option Value)} {oc6 kV6 dc6 pm6 cd6 ct6 : Value} {f7 : Addr} {od7 an7 : Option Addr} {sl7 : Array (Option Value)} {oc7 kV7 dc7 pm7 cd7 ct7 : Value} {f8 : Addr} {od8 an8 : Option Addr} {sl8 : Array (Option Value)} {oc8 kV8 dc8 pm8 cd8 ct8 : Value} {f9 : Addr} {od9 an9 : Option Addr} {sl9 : Array (Option Value)} {oc9 kV9 dc9 pm9 cd9 ct9 : Value} {f10 : Addr} {od10 an10 : Option Addr} {sl10 : Array (Option Value)} {oc10 kV10 dc10 pm10 cd10 ct10 : Value} {f11 : Addr} {od11 an11 : Option Addr} {sl11 : Array (Option Value)} {oc11 kV11 dc11 pm11 cd11 ct11 : Value} {f12 : Addr} {od12 an12 : Option Addr} {sl12 : Array (Option Value)} {oc12 kV12 dc12 pm12 cd12 ct12 : Value} {f13 : Addr} {od13 an13 : Option Addr} {sl13 : Array (Option Value)} {oc13 kV13 dc13 pm13 cd13 ct13 : Value} {f14 : Addr} {od14 an14 : Option Addr} {sl14 : Array (Option Value)} {oc14 kV14 dc14 pm14 cd14 ct14 : Value} {f15 : Addr} {od15 an15 : Option Addr} {sl15 : Array (Option Value)} {oc15 kV15 dc15 pm15 cd15 ct15 : Value} {f16 : Addr} {od16 an16 : Option Addr} {sl16 : Array (Option Value)} {oc16 kV16 dc16 pm16 cd16 ct16 : Value} {f17 : Addr} {od17 an17 : Option Addr} {sl17 : Array (Option Value)} {oc17 kV17 dc17 pm17 cd17 ct17 : Value}
    (a0 : PySem.W.nsIn K mainGlobals "is_integer" = some (some (.ref f0)))
    (l0 : K.lookup f0 = some ⟨oc0, od0, .func (PySem.W.fnOf "is_integer" "is_integer" (defArgs sInteger) (defBody sInteger) (defScope sInteger) .none kV0 dc0 pm0 an0 cd0 ct0), sl0⟩)
    (c0 : PySem.W.codeIn K cd0 "is_integer" = true) (k0 : PySem.W.keepIn K (.ref f0) = true)
    (a1 : PySem.W.nsIn K mainGlobals "is_within" = some (some (.ref f1)))
    (l1 : K.lookup f1 = some ⟨oc1, od1, .func (PySem.W.fnOf "is_within" "is_within" (defArgs sWithin) (defBody sWithin) (defScope sWithin) .none kV1 dc1 pm1 an1 cd1 ct1), sl1⟩)
    (c1 : PySem.W.codeIn K cd1 "is_within" = true) (k1 : PySem.W.keepIn K (.ref f1) = true)
    (a2 : PySem.W.nsIn K mainGlobals "is_tuple_sized" = some (some (.ref f2)))
    (l2 : K.lookup f2 = some ⟨oc2, od2, .func (PySem.W.fnOf "is_tuple_sized" "is_tuple_sized" (defArgs sSized) (defBody sSized) (defScope sSized) .none kV2 dc2 pm2 an2 cd2 ct2), sl2⟩)
    (c2 : PySem.W.codeIn K cd2 "is_tuple_sized" = true) (k2 : PySem.W.keepIn K (.ref f2) = true)
    (a3 : PySem.W.nsIn K mainGlobals "is_scheme" = some (some (.ref f3)))
    (l3 : K.lookup f3 = some ⟨oc3, od3, .func (PySem.W.fnOf "is_scheme" "is_scheme" (defArgs sScheme) (defBody sScheme) (defScope sScheme) .none kV3 dc3 pm3 an3 cd3 ct3), sl3⟩)
    (c3 : PySem.W.codeIn K cd3 "is_scheme" = true) (k3 : PySem.W.keepIn K (.ref f3) = true)
    (a4 : PySem.W.nsIn K mainGlobals "is_counter" = some (some (.ref f4)))
    (l4 : K.lookup f4 = some ⟨oc4, od4, .func (PySem.W.fnOf "is_counter" "is_counter" (defArgs sCounter) (defBody sCounter) (defScope sCounter) .none kV4 dc4 pm4 an4 cd4 ct4), sl4⟩)
    (c4 : PySem.W.codeIn K cd4 "is_counter" = true) (k4 : PySem.W.keepIn K (.ref f4) = true)
    (a5 : PySem.W.nsIn K mainGlobals "_law_box" = some (some (.ref f5)))
    (l5 : K.lookup f5 = some ⟨oc5, od5, .func (PySem.W.fnOf "_law_box" "_law_box" (defArgs sBox) (defBody sBox) (defScope sBox) .none kV5 dc5 pm5 an5 cd5 ct5), sl5⟩)
    (c5 : PySem.W.codeIn K cd5 "_law_box" = true) (k5 : PySem.W.keepIn K (.ref f5) = true)
    (a6 : PySem.W.nsIn K mainGlobals "_law_take" = some (some (.ref f6)))
    (l6 : K.lookup f6 = some ⟨oc6, od6, .func (PySem.W.fnOf "_law_take" "_law_take" (defArgs sTake) (defBody sTake) (defScope sTake) .none kV6 dc6 pm6 an6 cd6 ct6), sl6⟩)
    (c6 : PySem.W.codeIn K cd6 "_law_take" = true) (k6 : PySem.W.keepIn K (.ref f6) = true)
    (a7 : PySem.W.nsIn K mainGlobals "_law_of" = some (some (.ref f7)))
    (l7 : K.lookup f7 = some ⟨oc7, od7, .func (PySem.W.fnOf "_law_of" "_law_of" (defArgs sOf) (defBody sOf) (defScope sOf) .none kV7 dc7 pm7 an7 cd7 ct7), sl7⟩)
    (c7 : PySem.W.codeIn K cd7 "_law_of" = true) (k7 : PySem.W.keepIn K (.ref f7) = true)
    (a8 : PySem.W.nsIn K mainGlobals "_law_plan" = some (some (.ref f8)))
    (l8 : K.lookup f8 = some ⟨oc8, od8, .func (PySem.W.fnOf "_law_plan" "_law_plan" (defArgs sPlan) (defBody sPlan) (defScope sPlan) .none kV8 dc8 pm8 an8 cd8 ct8), sl8⟩)
    (c8 : PySem.W.codeIn K cd8 "_law_plan" = true) (k8 : PySem.W.keepIn K (.ref f8) = true)
    (a9 : PySem.W.nsIn K mainGlobals "_law_gauge" = some (some (.ref f9)))
    (l9 : K.lookup f9 = some ⟨oc9, od9, .func (PySem.W.fnOf "_law_gauge" "_law_gauge" (defArgs sGau) (defBody sGau) (defScope sGau) .none kV9 dc9 pm9 an9 cd9 ct9), sl9⟩)
    (c9 : PySem.W.codeIn K cd9 "_law_gauge" = true) (k9 : PySem.W.keepIn K (.ref f9) = true)
    (a10 : PySem.W.nsIn K mainGlobals "_law_any" = some (some (.ref f10)))
    (l10 : K.lookup f10 = some ⟨oc10, od10, .func (PySem.W.fnOf "_law_any" "_law_any" (defArgs sAny) (defBody sAny) (defScope sAny) .none kV10 dc10 pm10 an10 cd10 ct10), sl10⟩)
    (c10 : PySem.W.codeIn K cd10 "_law_any" = true) (k10 : PySem.W.keepIn K (.ref f10) = true)
    (a11 : PySem.W.nsIn K mainGlobals "_law_bent" = some (some (.ref f11)))
    (l11 : K.lookup f11 = some ⟨oc11, od11, .func (PySem.W.fnOf "_law_bent" "_law_bent" (defArgs sBent) (defBody sBent) (defScope sBent) .none kV11 dc11 pm11 an11 cd11 ct11), sl11⟩)
    (c11 : PySem.W.codeIn K cd11 "_law_bent" = true) (k11 : PySem.W.keepIn K (.ref f11) = true)
    (a12 : PySem.W.nsIn K mainGlobals "_law_is_int" = some (some (.ref f12)))
    (l12 : K.lookup f12 = some ⟨oc12, od12, .func (PySem.W.fnOf "_law_is_int" "_law_is_int" (defArgs sIsInt) (defBody sIsInt) (defScope sIsInt) .none kV12 dc12 pm12 an12 cd12 ct12), sl12⟩)
    (c12 : PySem.W.codeIn K cd12 "_law_is_int" = true) (k12 : PySem.W.keepIn K (.ref f12) = true)
    (a13 : PySem.W.nsIn K mainGlobals "_law_is_plan" = some (some (.ref f13)))
    (l13 : K.lookup f13 = some ⟨oc13, od13, .func (PySem.W.fnOf "_law_is_plan" "_law_is_plan" (defArgs sIsPlan) (defBody sIsPlan) (defScope sIsPlan) .none kV13 dc13 pm13 an13 cd13 ct13), sl13⟩)
    (c13 : PySem.W.codeIn K cd13 "_law_is_plan" = true) (k13 : PySem.W.keepIn K (.ref f13) = true)
    (a14 : PySem.W.nsIn K mainGlobals "_law_is_gauge" = some (some (.ref f14)))
    (l14 : K.lookup f14 = some ⟨oc14, od14, .func (PySem.W.fnOf "_law_is_gauge" "_law_is_gauge" (defArgs sIsGau) (defBody sIsGau) (defScope sIsGau) .none kV14 dc14 pm14 an14 cd14 ct14), sl14⟩)
    (c14 : PySem.W.codeIn K cd14 "_law_is_gauge" = true) (k14 : PySem.W.keepIn K (.ref f14) = true)
    (a15 : PySem.W.nsIn K mainGlobals "_law_things" = some (some (.ref f15)))
    (l15 : K.lookup f15 = some ⟨oc15, od15, .func (PySem.W.fnOf "_law_things" "_law_things" (defArgs sThings) (defBody sThings) (defScope sThings) .none kV15 dc15 pm15 an15 cd15 ct15), sl15⟩)
    (c15 : PySem.W.codeIn K cd15 "_law_things" = true) (k15 : PySem.W.keepIn K (.ref f15) = true)
    (a16 : PySem.W.nsIn K mainGlobals "_law_right" = some (some (.ref f16)))
    (l16 : K.lookup f16 = some ⟨oc16, od16, .func (PySem.W.fnOf "_law_right" "_law_right" (defArgs sRight) (defBody sRight) (defScope sRight) .none kV16 dc16 pm16 an16 cd16 ct16), sl16⟩)
    (c16 : PySem.W.codeIn K cd16 "_law_right" = true) (k16 : PySem.W.keepIn K (.ref f16) = true)
    (a17 : PySem.W.nsIn K mainGlobals "law" = some (some (.ref f17)))
    (l17 : K.lookup f17 = some ⟨oc17, od17, .func (PySem.W.fnOf "law" "law" (defArgs sLaw) (defBody sLaw) (defScope sLaw) .none kV17 dc17 pm17 an17 cd17 ct17), sl17⟩)
    (c17 : PySem.W.codeIn K cd17 "law" = true) (k17 : PySem.W.keepIn K (.ref f17) = true)
    (z0 : PySem.W.nsIn K mainGlobals "int" = some none)
    (z1 : PySem.W.nsIn K mainGlobals "len" = some none)
    (z2 : PySem.W.nsIn K mainGlobals "abs" = some none)
    (z3 : PySem.W.nsIn K mainGlobals "range" = some none)
    (z4 : PySem.W.nsIn K mainGlobals "repr" = some none)
    (z5 : PySem.W.nsIn K mainGlobals "max" = some none)
    (z6 : PySem.W.nsIn K mainGlobals "min" = some none)
    (z7 : PySem.W.nsIn K mainGlobals "all" = some none)
    (z8 : PySem.W.nsIn K mainGlobals "tuple" = some none)
    (z9 : PySem.W.nsIn K mainGlobals "isinstance" = some none)
    (z10 : PySem.W.nsIn K mainGlobals "bool" = some none)
    (z11 : PySem.W.nsIn K mainGlobals "str" = some none)
    (z12 : PySem.W.nsIn K mainGlobals "list" = some none)
    {tk0 : Tok} (q0 : PySem.W.nsIn K mainGlobals "MOST_LENGTH" = some (some (.int 64 tk0)))
    {tk1 : Tok} (q1 : PySem.W.nsIn K mainGlobals "MOST_FOLD_BITS" = some (some (.int 16 tk1)))
    {tk2 : Tok} (q2 : PySem.W.nsIn K mainGlobals "MOST_COUNTER_BITS" = some (some (.int 4 tk2)))
    {ft0 : Addr} {odt0 : Option Addr} {nt0 : Nat} {slt0 : Array (Option Value)} {ut0_0 ut0_1 ut0_2 : Tok}
    (ta0 : PySem.W.nsIn K mainGlobals "PLAIN_WORDS" = some (some (.ref ft0)))
    (tb0 : K.lookup ft0 = some ⟨.type "tuple", odt0, .seq #[.str "own" ut0_0, .str "split" ut0_1, .str "shared" ut0_2] nt0, slt0⟩)
    : ∃ fd : FuncData, (∀ (s : Shared) (v : Value), BindsTo s fd ⟨[v], []⟩ [("_law_script", v)]) ∧ ∀ base : Heap, K.In base → base.Ns mainGlobals mg → FnG P w K mg base 19 fa fd ["_law_script"] (spLaw K) := by
  have e := hfa.symm.trans (PySem.W.mg_of X G a17)
  cases e
  have F0 := fun_mk (st := sInteger) l0 c0 k0
  have b0 := F0.binds (ps := ["value"]) fun _ _ _ _ _ _ us hl => match us, hl with | [_], _ => rfl
  have g0 := PySem.W.mg_of X G a0
  have F1 := fun_mk (st := sWithin) l1 c1 k1
  have b1 := F1.binds (ps := ["value", "low", "high"]) fun _ _ _ _ _ _ us hl => match us, hl with | [_, _, _], _ => rfl
  have g1 := PySem.W.mg_of X G a1
  have F2 := fun_mk (st := sSized) l2 c2 k2
  have b2 := F2.binds (ps := ["value", "least", "most"]) fun _ _ _ _ _ _ us hl => match us, hl with | [_, _, _], _ => rfl
  have g2 := PySem.W.mg_of X G a2
  have F3 := fun_mk (st := sScheme) l3 c3 k3
  have b3 := F3.binds (ps := ["value"]) fun _ _ _ _ _ _ us hl => match us, hl with | [_], _ => rfl
  have g3 := PySem.W.mg_of X G a3
  have F4 := fun_mk (st := sCounter) l4 c4 k4
  have b4 := F4.binds (ps := ["value"]) fun _ _ _ _ _ _ us hl => match us, hl with | [_], _ => rfl
  have g4 := PySem.W.mg_of X G a4
  have F5 := fun_mk (st := sBox) l5 c5 k5
  have b5 := F5.binds (ps := ["_law_script", "_law_k"]) fun _ _ _ _ _ _ us hl => match us, hl with | [_, _], _ => rfl
  have g5 := PySem.W.mg_of X G a5
  have F6 := fun_mk (st := sTake) l6 c6 k6
  have b6 := F6.binds (ps := ["_law_box_here", "_law_many"]) fun _ _ _ _ _ _ us hl => match us, hl with | [_, _], _ => rfl
  have g6 := PySem.W.mg_of X G a6
  have F7 := fun_mk (st := sOf) l7 c7 k7
  have b7 := F7.binds (ps := ["_law_box_here", "_law_some"]) fun _ _ _ _ _ _ us hl => match us, hl with | [_, _], _ => rfl
  have g7 := PySem.W.mg_of X G a7
  have F8 := fun_mk (st := sPlan) l8 c8 k8
  have b8 := F8.binds (ps := ["_law_box_here", "_law_most"]) fun _ _ _ _ _ _ us hl => match us, hl with | [_, _], _ => rfl
  have g8 := PySem.W.mg_of X G a8
  have F9 := fun_mk (st := sGau) l9 c9 k9
  have b9 := F9.binds (ps := ["_law_box_here"]) fun _ _ _ _ _ _ us hl => match us, hl with | [_], _ => rfl
  have g9 := PySem.W.mg_of X G a9
  have F10 := fun_mk (st := sAny) l10 c10 k10
  have b10 := F10.binds (ps := ["_law_box_here"]) fun _ _ _ _ _ _ us hl => match us, hl with | [_], _ => rfl
  have g10 := PySem.W.mg_of X G a10
  have F11 := fun_mk (st := sBent) l11 c11 k11
  have b11 := F11.binds (ps := ["_law_box_here", "_law_thing"]) fun _ _ _ _ _ _ us hl => match us, hl with | [_, _], _ => rfl
  have g11 := PySem.W.mg_of X G a11
  have F12 := fun_mk (st := sIsInt) l12 c12 k12
  have b12 := F12.binds (ps := ["_law_thing", "_law_least", "_law_most"]) fun _ _ _ _ _ _ us hl => match us, hl with | [_, _, _], _ => rfl
  have g12 := PySem.W.mg_of X G a12
  have F13 := fun_mk (st := sIsPlan) l13 c13 k13
  have b13 := F13.binds (ps := ["_law_thing"]) fun _ _ _ _ _ _ us hl => match us, hl with | [_], _ => rfl
  have g13 := PySem.W.mg_of X G a13
  have F14 := fun_mk (st := sIsGau) l14 c14 k14
  have b14 := F14.binds (ps := ["_law_thing"]) fun _ _ _ _ _ _ us hl => match us, hl with | [_], _ => rfl
  have g14 := PySem.W.mg_of X G a14
  have F15 := fun_mk (st := sThings) l15 c15 k15
  have b15 := F15.binds (ps := ["_law_box_here"]) fun _ _ _ _ _ _ us hl => match us, hl with | [_], _ => rfl
  have g15 := PySem.W.mg_of X G a15
  have F16 := fun_mk (st := sRight) l16 c16 k16
  have b16 := F16.binds (ps := ["_law_box_here"]) fun _ _ _ _ _ _ us hl => match us, hl with | [_], _ => rfl
  have g16 := PySem.W.mg_of X G a16
  have F17 := fun_mk (st := sLaw) l17 c17 k17
  have n_int := PySem.W.mg_none_of X G z0
  have n_len := PySem.W.mg_none_of X G z1
  have n_abs := PySem.W.mg_none_of X G z2
  have n_range := PySem.W.mg_none_of X G z3
  have n_repr := PySem.W.mg_none_of X G z4
  have n_max := PySem.W.mg_none_of X G z5
  have n_min := PySem.W.mg_none_of X G z6
  have n_all := PySem.W.mg_none_of X G z7
  have n_tuple := PySem.W.mg_none_of X G z8
  have n_isinstance := PySem.W.mg_none_of X G z9
  have n_bool := PySem.W.mg_none_of X G z10
  have n_str := PySem.W.mg_none_of X G z11
  have n_list := PySem.W.mg_none_of X G z12
  have c_MOST_LENGTH : ∃ u, mg "MOST_LENGTH" = some u ∧ RelV (.int 64) u := ⟨_, PySem.W.mg_of X G q0, _, rfl⟩
  have c_MOST_FOLD_BITS : ∃ u, mg "MOST_FOLD_BITS" = some u ∧ RelV (.int 16) u := ⟨_, PySem.W.mg_of X G q1, _, rfl⟩
  have c_MOST_COUNTER_BITS : ∃ u, mg "MOST_COUNTER_BITS" = some u ∧ RelV (.int 4) u := ⟨_, PySem.W.mg_of X G q2, _, rfl⟩
  have t_PLAIN_WORDS : ∃ u, mg "PLAIN_WORDS" = some u ∧ RelV (.ref ft0) u := ⟨_, PySem.W.mg_of X G ta0, rfl⟩
  have s_PLAIN_WORDS : ∀ H, SqT K H ft0 ((["own", "split", "shared"] : List Str).map V.str) := fun H => .inr ⟨_, _, _, tb0, rfl, rfl, by show 3 ≤ sizeLine; decide, (.cons ⟨ut0_0, rfl⟩ (.cons ⟨ut0_1, rfl⟩ (.cons ⟨ut0_2, rfl⟩ .nil)))⟩
  refine ⟨PySem.W.fnOf "law" "law" (defArgs sLaw) (defBody sLaw) (defScope sLaw) .none kV17 dc17 pm17 an17 cd17 ct17, fun s v => .of_eq rfl, fun base _ _ => ?_⟩
  have dInteger : Dfn P w K mg base 1 "is_integer" ["value"] (spInteger K) := ⟨_, _, ok_integer n_isinstance n_int n_bool F0, g0, F0.kp, b0⟩
  have dWithin : Dfn P w K mg base 2 "is_within" ["value", "low", "high"] (spWithin K) := ⟨_, _, ok_within dInteger F1, g1, F1.kp, b1⟩
  have dSized : Dfn P w K mg base 1 "is_tuple_sized" ["value", "least", "most"] (spSized K) := ⟨_, _, ok_sized n_len n_isinstance n_tuple F2, g2, F2.kp, b2⟩
  have oScheme := ok_scheme (P := P) (w := w) dSized dWithin n_len c_MOST_LENGTH c_MOST_FOLD_BITS t_PLAIN_WORDS s_PLAIN_WORDS F3
  have dScheme : Dfn P w K mg base 3 "is_scheme" ["value"] (spLook K isPlanD) := ⟨_, _, oScheme, g3, F3.kp, b3⟩
  have oCounter := ok_counter (P := P) (w := w) dSized dWithin c_MOST_COUNTER_BITS F4
  have dCounter : Dfn P w K mg base 3 "is_counter" ["value"] (spLook K isGauD) := ⟨_, _, oCounter, g4, F4.kp, b4⟩
  have kScheme : DfK P w K mg base 3 "is_scheme" ["value"] ["value"] id (spLook K isPlanD) := ⟨_, _, fun _ ws => ws, oScheme, g3, F3.kp, ⟨fun s us ws _ h1 h2 => match us, ws, h1, h2 with | [], [_], _, _ => .of_eq rfl, fun _ r => r⟩⟩
  have kCounter : DfK P w K mg base 3 "is_counter" ["value"] ["value"] id (spLook K isGauD) := ⟨_, _, fun _ ws => ws, oCounter, g4, F4.kp, ⟨fun s us ws _ h1 h2 => match us, ws, h1, h2 with | [], [_], _, _ => .of_eq rfl, fun _ r => r⟩⟩
  have dBox : Dfn P w K mg base 1 "_law_box" ["_law_script", "_law_k"] (spBox K) := ⟨_, _, ok_box n_len n_abs n_int F5, g5, F5.kp, b5⟩
  have dTake : Dfn P w K mg base 1 "_law_take" ["_law_box_here", "_law_many"] spTake := ⟨_, _, ok_take F6, g6, F6.kp, b6⟩
  have dOf : Dfn P w K mg base 2 "_law_of" ["_law_box_here", "_law_some"] (spOf K) := ⟨_, _, ok_of dTake n_len F7, g7, F7.kp, b7⟩
  have dPlan : Dfn P w K mg base 3 "_law_plan" ["_law_box_here", "_law_most"] (spPlan K) := ⟨_, _, ok_plan dTake dOf n_min F8, g8, F8.kp, b8⟩
  have dGau : Dfn P w K mg base 3 "_law_gauge" ["_law_box_here"] spGau := ⟨_, _, ok_gau dTake dOf F9, g9, F9.kp, b9⟩
  have dAny : Dfn P w K mg base 3 "_law_any" ["_law_box_here"] (spAny K) := ⟨_, _, ok_any dOf n_range F10, g10, F10.kp, b10⟩
  have dBent : Dfn P w K mg base 16 "_law_bent" ["_law_box_here", "_law_thing"] (spBent K 12) := ⟨_, _, ok_bent dTake dOf dAny n_len n_isinstance n_tuple n_int n_bool n_str n_list g11 b11 F11 12, g11, F11.kp, b11⟩
  have dInt : Dfn P w K mg base 1 "_law_is_int" ["_law_thing", "_law_least", "_law_most"] (spWithin K) := ⟨_, _, ok_isint n_isinstance n_int n_bool F12, g12, F12.kp, b12⟩
  have dIPlan : Dfn P w K mg base 2 "_law_is_plan" ["_law_thing"] (spLook K isPlanD) := ⟨_, _, ok_isplan dInt n_len n_isinstance n_tuple n_str F13, g13, F13.kp, b13⟩
  have dIGau : Dfn P w K mg base 2 "_law_is_gauge" ["_law_thing"] (spLook K isGauD) := ⟨_, _, ok_isgau dInt n_len n_isinstance n_tuple F14, g14, F14.kp, b14⟩
  have dThings : Dfn P w K mg base 17 "_law_things" ["_law_box_here"] (spThings K 20000) := ⟨_, _, ok_things dAny dPlan dGau dBent n_range F15, g15, F15.kp, b15⟩
  have dRight : DfG P w K mg base 18 "_law_right" ["_law_box_here"] (spRight 20000) := ⟨_, _, ok_right (by decide) dThings dIPlan dIGau dScheme dCounter kScheme kCounter n_repr F16, g16, F16.kp, b16⟩
  exact ok_law dBox dRight n_range n_max n_min n_len n_all F17
end Pf
open PySem PySem.W PyProof.Rows
set_option maxHeartbeats 0 in
theorem PySem.Challenge.cw_pastenough_k02_schemes_and_counters_of_a_holds : PySem.Challenge.rw_pastenough_k02_schemes_and_counters_of_a.Holds := by
  w_on; o_law; k_head; (case hw => w_witness2)
  k_fill
  refine Gk.walkG (l := PySem.Challenge.rw_pastenough_k02_schemes_and_counters_of_a) (n := 63) (k := 19) (x := "_law_script") (sp := fun w => Pf.spLaw _) rfl (by decide) rfl ⟨rfl, by decide, by decide⟩ (fun w h Y => PySem.W.kIn_of Y) ?F (fun _ _ a ns hl hO hS => Pf.law_start hl hO hS)
  case F =>
    intro w mg fa h KX G hmg
    refine' Pf.all_mk KX G hmg ?a0 ?l0 ?c0 ?k0 ?a1 ?l1 ?c1 ?k1 ?a2 ?l2 ?c2 ?k2 ?a3 ?l3 ?c3 ?k3 ?a4 ?l4 ?c4 ?k4 ?a5 ?l5 ?c5 ?k5 ?a6 ?l6 ?c6 ?k6 ?a7 ?l7 ?c7 ?k7 ?a8 ?l8 ?c8 ?k8 ?a9 ?l9 ?c9 ?k9 ?a10 ?l10 ?c10 ?k10 ?a11 ?l11 ?c11 ?k11 ?a12 ?l12 ?c12 ?k12 ?a13 ?l13 ?c13 ?k13 ?a14 ?l14 ?c14 ?k14 ?a15 ?l15 ?c15 ?k15 ?a16 ?l16 ?c16 ?k16 ?a17 ?l17 ?c17 ?k17 ?z0 ?z1 ?z2 ?z3 ?z4 ?z5 ?z6 ?z7 ?z8 ?z9 ?z10 ?z11 ?z12 ?q0 ?q1 ?q2 ?ta0 ?tb0
    (case a0 => k_is)
    (case l0 => k_is)
    (case c0 => k_is)
    (case k0 => k_is)
    (case a1 => k_is)
    (case l1 => k_is)
    (case c1 => k_is)
    (case k1 => k_is)
    (case a2 => k_is)
    (case l2 => k_is)
    (case c2 => k_is)
    (case k2 => k_is)
    (case a3 => k_is)
    (case l3 => k_is)
    (case c3 => k_is)
    (case k3 => k_is)
    (case a4 => k_is)
    (case l4 => k_is)
    (case c4 => k_is)
    (case k4 => k_is)
    (case a5 => k_is)
    (case l5 => k_is)
    (case c5 => k_is)
    (case k5 => k_is)
    (case a6 => k_is)
    (case l6 => k_is)
    (case c6 => k_is)
    (case k6 => k_is)
    (case a7 => k_is)
    (case l7 => k_is)
    (case c7 => k_is)
    (case k7 => k_is)
    (case a8 => k_is)
    (case l8 => k_is)
    (case c8 => k_is)
    (case k8 => k_is)
    (case a9 => k_is)
    (case l9 => k_is)
    (case c9 => k_is)
    (case k9 => k_is)
    (case a10 => k_is)
    (case l10 => k_is)
    (case c10 => k_is)
    (case k10 => k_is)
    (case a11 => k_is)
    (case l11 => k_is)
    (case c11 => k_is)
    (case k11 => k_is)
    (case a12 => k_is)
    (case l12 => k_is)
    (case c12 => k_is)
    (case k12 => k_is)
    (case a13 => k_is)
    (case l13 => k_is)
    (case c13 => k_is)
    (case k13 => k_is)
    (case a14 => k_is)
    (case l14 => k_is)
    (case c14 => k_is)
    (case k14 => k_is)
    (case a15 => k_is)
    (case l15 => k_is)
    (case c15 => k_is)
    (case k15 => k_is)
    (case a16 => k_is)
    (case l16 => k_is)
    (case c16 => k_is)
    (case k16 => k_is)
    (case a17 => k_is)
    (case l17 => k_is)
    (case c17 => k_is)
    (case k17 => k_is)
    (case z0 => k_is)
    (case z1 => k_is)
    (case z2 => k_is)
    (case z3 => k_is)
    (case z4 => k_is)
    (case z5 => k_is)
    (case z6 => k_is)
    (case z7 => k_is)
    (case z8 => k_is)
    (case z9 => k_is)
    (case z10 => k_is)
    (case z11 => k_is)
    (case z12 => k_is)
    (case q0 => k_is)
    (case q1 => k_is)
    (case q2 => k_is)
    (case ta0 => k_is)
    (case tb0 => k_is)
