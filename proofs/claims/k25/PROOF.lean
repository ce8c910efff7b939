import PyProof.Rows.All
import Wide.All
import OpenK.AllK
import Wide.FinOn
import HandS.ForMost
import HandS.Codes
import HandS.Wide
import HandS.WideBits
import HandS.Defaults
import HandS.Walk
import PyProof.ReprRoads
import HandS.Text
import HandS.Iter
import HandS.Style
import KE.GoesMore
import KE.KRevSl
import PyProof.ReprLen
import PyProof.StrBlock2
import HandS.Ends
import HandS.TupMul
import HandS.TupAny
import PySem.Challenge.RW_pastenough_k25_maps_of_values
set_option Elab.async false
set_option linter.all false
set_option maxRecDepth 100000
set_option maxHeartbeats 4000000
/-! Defs that are run where no repr is under way; repr of data; further small rules. -/
namespace Gk
open PySem PySem.Spec PyProof.Rows L2

/-- a def's promise wherever nothing is being shown -/
structure FnG (P : Program) (w : World) (K : PySem.W.Frag) (mg : Str → Option Value) (base : Heap) (k : Nat)
    (f : Addr) (fd : FuncData) (ps : List Str) (sp : Sp) : Prop where
  len : ∀ vs H Q E, sp vs H Q E → vs.length = ps.length
  go : ∀ (A : Around) (outer : List Env) (s : Shared) (H : Hp) (args : Args) (us : List Value) (vs : List V) (Q : VK),
    Room k A → A.guards = some [] → Env0 P w K mg base A outer s H → BindsTo s fd args (ps.zip us) → Vals vs us → sp vs H Q L2.E0 →
    codeAny (model P w) A (.call (.ref f) args) (CR L2.CX0 outer P w H s Q L2.E0) s

section
variable {P : Program} {w : World} {K : PySem.W.Frag} {mg : Str → Option Value} {base : Heap}
theorem FnG.weak {j k : Nat} {f : Addr} {fd : FuncData} {ps : List Str} {sp : Sp} (F : FnG P w K mg base j f fd ps sp) (h : j ≤ k) : FnG P w K mg base k f fd ps sp :=
  ⟨F.len, fun A outer s H args us vs Q r g => F.go A outer s H args us vs Q (r.mono h) g⟩
theorem FnG.from {k : Nat} {f : Addr} {fd : FuncData} {ps : List Str} {sp : Sp} (F : FnOk P w K mg base L2.CX0 k f fd ps sp) : FnG P w K mg base k f fd ps sp :=
  ⟨F.len, fun A outer s H args us vs Q r _ e b v q => F.run A outer s H args us vs Q L2.E0 r e b v q⟩

theorem guards_deeper {A : Around} {env : Env} (h : A.guards = some []) : (A.deeper env).guards = some [] := by
  first | exact h | (unfold Around.deeper; exact h)

/-- THE RULE for a def, by its body -/
theorem fnG {x qual : Str} {st : Stmt} {f : Addr} {fd : FuncData} {N ps : List Str} {k : Nat} {sp : Sp} (F : L2.Fun K x qual st f fd) (S : FnScope N ps (defScope st))
    (len : ∀ vs H Q E, sp vs H Q E → vs.length = ps.length)
    (hbody : ∀ (cdv : Value) (A : Around) (outer : List Env) (s : Shared) (H : Hp) (vs : List V) (Q : VK),
      Room k (A.deeper (envOfC qual (defScope st) s.heap.objs.size f cdv)) → (A.deeper (envOfC qual (defScope st) s.heap.objs.size f cdv)).guards = some [] → sp vs H Q L2.E0 →
      ∃ t, PSs (cxOf L2.CX0 P w K mg base N qual (defScope st) f cdv A outer s H L2.E0).nox (defBody st) t ∧ t { nx := fun _ H' => Q .non H', rt := Q } (start N vs) H) :
    FnG P w K mg base (k + 1) f fd ps sp := by
  obtain ⟨oc, od, kV, doc, pm, an, cdv, ct, osl, rfl, lk, hcd⟩ := F.ex
  refine ⟨len, fun A outer s H args us vs Q room gd en bd rv want => ?_⟩
  have many := len _ _ _ _ want
  have KX : K.In s.heap := en.mod.kin.keeps (fun b o hbo => (en.bs b o hbo).1)
  have lim : s.heap.NoLimit := en.mod.nolimit.keeps (fun b o hbo => (en.bs b o hbo).1)
  have kinds : ∀ y ∈ ps.zip us, (defScope st).names.lookup y.1 = some .local ∨
      ((defScope st).names.lookup y.1 = some .cell ∧ ((cellsFrom (s.heap.objs.size + 1) (defScope st).names []).lookup y.1).isSome = true) := fun y hy =>
    (S.par y.1 (List.of_mem_zip (a := y.1) (b := y.2) hy).1).elim Or.inl fun q => .inr ⟨q, PySem.W.cellsFrom_some _ _ _ (.inl q)⟩
  refine codeAny_call_function room.depth (KX _ _ lk) rfl S.co S.gen rfl (PySem.W.codeRec_of KX hcd) (bd _ _ _ _ ?_)
  refine wpAny_newFunctionEnv_cells S.kind kinds fun env he st1 inC => ?_
  subst he
  refine ⟨lim.keeps inC.toInCall.keep, codeAny_func ?_⟩
  obtain ⟨t, ht, hq⟩ := hbody cdv A outer s H vs Q (room.deeper _) (guards_deeper gd) want
  have I := inv_start (CX := L2.CX0) (P := P) (w := w) (mg := mg) (E := L2.E0) S room.hd en many rv inC
  refine wpAny_mono (ht.nox.run [] st1 (start N vs) H _ I hq) (fun fl s' hs => ?_) fun e s' hs => hs
  cases fl with
  | brk => obtain ⟨_, _, _, z⟩ := hs; exact False.elim z
  | cont => obtain ⟨_, _, _, z⟩ := hs; exact False.elim z
  | next => obtain ⟨σ1, H1, J, z⟩ := hs; exact ⟨V.non, H1, J.os, J.bare, J.base, J.hok, rfl, z⟩
  | ret u => obtain ⟨v, σ1, H1, J, rv1, z⟩ := hs; exact ⟨v, H1, J.os, J.bare, J.base, J.hok, rv1, z⟩
end

section
variable {X : Cx} {k : Nat} {f : Addr} {fd : FuncData} {ps : List Str} {sp : Sp} {x : Str} {p pos : Pos} {e : Expr} {es : List Expr} {t : TA}
theorem go_fn {pins : List (Addr × Obj)} {σ : L2.St} {H : Hp} {s : Shared} {Q : VK} {us : List Value} {vs : List V} (F : FnG X.prog X.w X.K X.mg X.base k f fd ps sp)
    (hr : Room k X.A) (hg : X.A.guards = some []) (hb : Binds X.K fd ps []) (I : Inv X pins σ H s) (r : Vals vs us) (h : sp vs H Q L2.E0) : wpAny (model X.prog X.w) X.A (call (.ref f) us) (EP X pins σ Q) X.xe s := by
  have hl : (us ++ []).length = ps.length := by rw [List.append_nil, ← r.length]; exact F.len _ _ _ _ h
  have b := hb s us I.kIn hl
  rw [List.append_nil] at b
  refine wpAny_call (codeAny_mono (F.go X.A X.stack s H ⟨us, []⟩ us vs Q hr hg I.env0 b r h) fun res s' hq => ?_)
  cases res with
  | error er => exact False.elim hq
  | ok fl =>
    cases fl with
    | brk => exact False.elim hq
    | cont => exact False.elim hq
    | next => exact False.elim hq
    | ret u => exact I.after hq
def tG (sp : Sp) (t : TA) : TE := fun σ H Q => t σ H fun vs H1 => sp vs H1 Q L2.E0
/-- f(e, ..) -/
theorem pe_g (F : FnG X.prog X.w X.K X.mg X.base k f fd ps sp) (hr : Room k X.A) (hd : X.A.guards = some []) (hg : Gl X x) (hm : X.mg x = some (.ref f)) (hk : PySem.W.keepIn X.K (.ref f) = true) (hb : Binds X.K fd ps [])
    (ha : PA X (e :: es) t) (hdb : (x == ("__debug__" : Str)) = false := by decide) (he : starEach (e :: es) X.env = (false, eval e X.env) :: starEach es X.env := by rfl)
    (hpl : (backTo pos (starEach es X.env)).any (·.1) = false := by rfl) : PE X (.Call (.Name x p) (e :: es) [] pos) (tG sp t) :=
  ⟨fun pins s σ H Q I h => wpAny_Call_Name_kw (ld_glob I hg hm (PySem.W.callWith_K (h₀ := X.base) I.ok.mod.kin hk (thn (ha.run pos pins s σ H _ I h) fun us s1 ⟨vs, H1, I1, r, q⟩ => ⟨I1.kIn, go_fn F hr hd hb I1 r q⟩) he hpl) hdb)⟩
end

/-! ### keywords alone -/
section
variable {X : Cx} {k : Nat} {f : Addr} {fd : FuncData} {ps ks : List Str} {sp : Sp} {x : Str} {p pos : Pos} {kws : List Keyword} {tk : TA} {g : List Value → List Value → List Value} {gV : List V → List V → List V}
def tKw (n : Nat) (gV : List V → List V) (sp : Sp) (tk : TA) : TE := fun σ H Q => tk σ H fun zs H1 => zs.length = n ∧ sp (gV zs) H1 Q L2.E0
/-- f(k = v, ..) -/
theorem pe_kw (F : FnOk X.prog X.w X.K X.mg X.base L2.CX0 k f fd ps sp) (hr : Room k X.A) (hg : Gl X x) (hm : X.mg x = some (.ref f)) (hk : PySem.W.keepIn X.K (.ref f) = true) (hb : KBn X.K fd ps 0 ks g gV)
    (hkw : PK X kws tk) (hall : (backToKw pos (keywordEach kws X.env)).all (·.1.isSome) = true := by rfl) (hks : (backToKw pos (keywordEach kws X.env)).filterMap (·.1) = ks := by rfl) (hdb : (x == ("__debug__" : Str)) = false := by decide)
    (hpl : ((backTo pos (starEach [] X.env)).any (·.1) || (backToKw pos (keywordEach kws X.env)).any (·.1.isNone)) = false := by rfl) :
    PE X (.Call (.Name x p) [] kws pos) (tKw ks.length (gV []) sp tk) := by
  refine ⟨fun pins s σ H Q I h => wpAny_Call_Name_kw (ld_glob I hg hm ?_ hdb)⟩
  refine PySem.W.callWith_KW0 (h₀ := X.base) I.ok.mod.kin hk hall (thn (hkw.run pos pins s σ H _ I h) fun ws s2 ⟨zs, H2, I2, rz, l2, q2⟩ => ⟨I2.kIn, ?_⟩) hpl
  rw [hks]
  exact run_fnN (us := []) (vs := []) F hr hb L2.pass0 I2 .nil rz rfl l2 q2
end
end Gk
namespace Gk
open PySem PySem.Spec PyProof.Rows L2 PySem.Builtin.Str

/-! ### powers of great numbers -/
def CBigPow (i j : Int) : Prop := 0 ≤ j ∧ (Builtin.Int.intBits i : Int) * j ≤ 2 ^ 27
theorem op_bigpow {X : Cx} : OpR X (binaryOp .Pow) (rI CBigPow fun i j => .int (i ^ j.toNat)) := opI fun _ _ _ _ _ _ _ hc q => pow_int hc.1 hc.2 q

/-! ### repr of data -/
theorem call_reprD {X : Cx} {k : Nat} (hr : Room k X.A) (hg : X.A.guards = some []) : CallR X (.builtin "repr") (fun xs H Q => ∃ v d, xs = [v] ∧ Dp X.K H v d ∧ d.showable = true ∧ d.hasDict = false ∧
    d.depth ≤ 40 ∧ d.shown.length ≤ sizeLine ∧ Q (.str d.shown) H) := by
  intro pins s σ H xs us Q I r h
  obtain ⟨v, d, rfl, hd, hs, hn, hdep, hz, q⟩ := h
  obtain ⟨u, rfl, ru⟩ := vals1 r
  have hun := hr.units
  cases hd with
  | non =>
    cases ru
    exact PySem.P.repr_of_none ⟨.str _, H, I.tok _, ⟨_, rfl⟩, q⟩
  | bl b =>
    cases ru
    exact PySem.P.repr_of_bool ⟨.str _, H, I.tok _, ⟨_, rfl⟩, q⟩
  | int i =>
    obtain ⟨t, rfl⟩ := ru
    exact PySem.P.repr_of_int (of_decide_eq_true hs) ⟨.str _, H, I.tok _, ⟨_, rfl⟩, q⟩
  | str x =>
    obtain ⟨t, rfl⟩ := ru
    exact PySem.P.repr_of_str ⟨.str _, H, I.tok _, ⟨_, rfl⟩, q⟩ hz
  | lst h1 h2 =>
    rename_i a xs ds
    obtain ⟨as, rd⟩ := Dp.reads I (.list ds) (.ref a) u (.lst h1 h2) ru
    cases ru
    exact repr_of_reads' rd hs (PyData.noDict_hsm hn) hg (by omega) (fun _ _ e => e) (fun h' t tk hk => ⟨.str _, H, I.kept (t' := tk) hk, ⟨_, rfl⟩, q⟩) hz
  | tup h1 h2 =>
    rename_i a xs ds
    obtain ⟨as, rd⟩ := Dp.reads I (.tuple ds) (.ref a) u (.tup h1 h2) ru
    cases ru
    exact repr_of_reads' rd hs (PyData.noDict_hsm hn) hg (by omega) (fun _ _ e => e) (fun h' t tk hk => ⟨.str _, H, I.kept (t' := tk) hk, ⟨_, rfl⟩, q⟩) hz

/-! ### a text from behind -/
theorem rev_signs (z : Str) : ((strSliceIndices none none (-1) z.length).filterMap (z.cps[·]?)).toArray = z.cps.toList.reverse.toArray := by
  have e : strSliceIndices none none (-1) z.length = (List.range z.cps.size).reverse := by
    show sliceRange ((z.cps.size : Int) - 1) (-1) (-1) = _
    rw [PySem.W.krv_sliceRange, PySem.W.krv_range]
  rw [e, List.filterMap_reverse, PySem.W.krv_all]
def tRevT (te : TE) : TE := fun σ H Q => te σ H fun x H1 => ∃ z : Str, x = .str z ∧ z.length ≤ sizeLine ∧ Q (.str ⟨z.cps.toList.reverse.toArray⟩) H1
theorem pe_revT {X : Cx} {e : Expr} {te : TE} {k : Nat} {p1 p2 p3 pos : Pos} (he : PE X e te) : PE X (.Subscript e (.Slice none none (some (.UnaryOp .USub (.Constant (.int 1) k p1) p2)) p3) pos) (tRevT te) := by
  refine ⟨fun pins s σ H Q I h => Subscript_ (thn (he.run pins s σ H _ I h) fun v s1 ⟨x, H1, I1, r1, z, ex, hz, q⟩ => ?_)⟩
  subst ex
  obtain ⟨t, rfl⟩ := r1
  have step : PO X (some (.UnaryOp .USub (.Constant (.int 1) k p1) p2)) (tPart (tUn (rU fun i => .int (-i)) (tC (.int 1)))) := po_some (pe_un un_neg pe_int)
  refine wpAny_Slice (thn (po_none.run pins s1 σ H1 (fun o G => o = none ∧ G = H1) I1 ⟨rfl, rfl⟩) fun vl s2 ⟨l, H2, I2, pl, el, e2⟩ => ?_)
  subst e2 el
  refine thn (po_none.run pins s2 σ H2 (fun o G => o = none ∧ G = H2) I2 ⟨rfl, rfl⟩) fun vu s3 ⟨u, H3, I3, pu, eu, e3⟩ => ?_
  subst e3 eu
  refine thn (step.run pins s3 σ H3 (fun o G => o = some (-1) ∧ G = H3) I3 ⟨1, rfl, -1, rfl, rfl, rfl⟩) fun vs s4 ⟨o, H4, I4, ps, eo, e4⟩ => ?_
  subst e4 eo
  obtain ⟨l, rfl, el⟩ := IsPart.raw pl
  obtain ⟨u, rfl, eu⟩ := IsPart.raw pu
  obtain ⟨w, rfl, ew⟩ := IsPart.raw ps
  have I5 : Inv X pins σ H4 { s4 with heap := s4.heap.push { cls := .type "slice", data := .fields #[partValue l, partValue u, partValue w] } } :=
    I4.kept (t' := s4.toks) fun b ob g => Heap.get?_push_of_some _ g
  refine tail_any (T := "str") (ops := [.str z t, .ref s4.heap.objs.size]) (typeIs_str _ _ _) F.slot_str_getitem.lookup ?_ (by with_unfolding_all rfl)
  refine wpAny_getItem_str_slice (l := l) (u := u) (st := w) ⟨_, Heap.get?_push_size _ rfl, rfl, rfl⟩ (by rw [ew]; rfl) ?_
  unfold sliceMade slicePicked
  rw [el, eu, ew]
  show Made.post (if ((-1 : Int) == 1 && _) = true then _ else Made.str ⟨((strSliceIndices none none (-1) z.length).filterMap (z.cps[·]?)).toArray⟩) _ _
  rw [show ((-1 : Int) == 1) = false from rfl, Bool.false_and, if_neg Bool.false_ne_true, rev_signs]
  have hl : (⟨z.cps.toList.reverse.toArray⟩ : Str).length ≤ sizeLine := by
    show z.cps.toList.reverse.toArray.size ≤ sizeLine
    rw [List.size_toArray, List.length_reverse, Array.length_toList]
    exact hz
  exact ⟨hl, .str _, H4, I5.tok _, ⟨_, rfl⟩, q⟩

/-! ### enumerate of a text -/
def Iet (z : Str) : It := ⟨fun i _ => i < z.cps.size, fun i H v H' => ∃ T c, v = .ref T ∧ H T = none ∧ z.cps[i]? = some c ∧ H' = upd H T (.tup [.int (i : Nat), .str ⟨#[c]⟩]), fun i _ => z.cps.size ≤ i⟩
theorem turn_et {P : Program} {w : World} {K : PySem.W.Frag} {elts : List Expr} {kk : Nat} {tpos : Pos} (e it : Addr) (z : Str) (t : Tok) :
    Turn P w K (.Tuple elts kk tpos) (Iet z) [e, it] e (fun i h => ((∃ old, IsEnum h e it i old) ∧ h.IsStrIter it (strIterType z) z t i) ∧ e ≠ it ∧ i ≤ z.cps.size) where
  mem := List.mem_cons_self
  obj := fun i h st b hb => by
    obtain ⟨⟨⟨old, he⟩, ⟨o, ho, hc, hd⟩⟩, _⟩ := st
    rcases List.mem_cons.mp hb with rfl | hb
    · exact ⟨_, he, fun v g => nomatch g⟩
    · rw [List.mem_singleton.mp hb]
      exact ⟨o, ho, fun v g => by rw [hd] at g; cases g⟩
  keep := fun i h h' st k => by
    obtain ⟨⟨⟨old, he⟩, ⟨o, ho, hc, hd⟩⟩, hne⟩ := st
    exact ⟨⟨⟨old, k e List.mem_cons_self _ he⟩, o, k it (List.mem_cons_of_mem _ List.mem_cons_self) o ho, hc, hd⟩, hne⟩
  item := by
    intro X hP hw hK hc i pins s σ H E I hf st hg
    subst hP hw hK
    have hg' : i < z.cps.size := hg
    obtain ⟨st, hne, hi⟩ := st
    have D : Draws X.prog X.w X.A.in1 it [it] z.cps.size _ _ := Draws.text (show X.A.in1.handled = none from I.ok.hd hc) it z t
    have W := WalksT.enumerateD D e hne (fun q => hne (List.mem_singleton.mp q)) List.mem_cons_self
    have hel : e < s.heap.objs.size := by obtain ⟨⟨old, he⟩, _⟩ := st; exact Heap.lt_size he
    have hil : it < s.heap.objs.size := by obtain ⟨_, o, ho, _⟩ := st; exact Heap.lt_size ho
    refine W.item i s _ _ hg' st fun T vals h' tk hp hT isT mid hk => ?_
    obtain ⟨t1, x1, ⟨c, u1, hcx, rfl⟩, rfl⟩ := hp
    have nT := W.apart i T h' mid
    refine ⟨_, rfl, W.go elts kk tpos i T { s with heap := h', toks := tk } _ _ mid fun h2 st2 hk2 => ?_⟩
    obtain ⟨oT, gT, cT, nTT, dT⟩ := isT
    have gT2 := hk2 T oT nT gT
    have new : ObjOk X.prog X.w (upd H T (.tup [.int (i : Nat), .str ⟨#[c]⟩])) h2 T (.tup [.int (i : Nat), .str ⟨#[c]⟩]) :=
      ⟨by show 2 ≤ sizeLine; decide, [.int i t1, .str ⟨#[c]⟩ u1], .cons ⟨_, rfl⟩ (.cons ⟨_, rfl⟩ .nil), ⟨oT, gT2, cT, nTT, dT⟩⟩
    have I1 : Inv X pins σ (upd H T (.tup [.int (i : Nat), .str ⟨#[c]⟩])) { s with heap := h2, toks := tk } :=
      I.turnedNew (ch := [e, it]) (fun b ob hb g => hk2 b ob hb (hk b ob hb g)) hf hT new
    refine ⟨.ref T, _, I1, rfl, ⟨T, c, rfl, I.hok.fresh hT, hcx, rfl⟩, ⟨⟨?_, st2.2⟩, hne, hg'⟩, fun b hb => ?_⟩
    · exact st2.1
    · have hb' : b < s.heap.objs.size := by
        rcases List.mem_cons.mp hb with rfl | hb
        · exact hel
        · rw [List.mem_singleton.mp hb]; exact hil
      rw [upd_ne (Nat.ne_of_lt (Nat.lt_of_lt_of_le hb' hT))]
      exact (hf b hb).1
  done := by
    intro X hP hw hK hc i pins s σ H E I hf st hg
    subst hP hw hK
    obtain ⟨st, hne, hi⟩ := st
    have hg' : z.cps.size ≤ i := hg
    obtain rfl : i = z.cps.size := Nat.le_antisymm hi hg'
    have D : Draws X.prog X.w X.A.in1 it [it] z.cps.size _ _ := Draws.text (show X.A.in1.handled = none from I.ok.hd hc) it z t
    have W := WalksT.enumerateD D e hne (fun q => hne (List.mem_singleton.mp q)) List.mem_cons_self
    refine W.done s _ _ st fun h' tk hk => ⟨rfl, ?_⟩
    exact I.step (g' := s.gens) (d' := s.drawn) (ch := [e, it]) (fun b hb => ⟨(hf b hb).2.2.2.1, (hf b hb).2.1, (hf b hb).2.2.2.2.1, (hf b hb).2.2.2.2.2⟩) (fun b o _ _ hc g _ => hk b o hc g) (fun b o _ _ hc g _ => ⟨o.slots, hk b o hc g⟩)
      (fun _ _ _ _ n => n) (fun b o hc g => ⟨o, hk b o hc g⟩) (fun _ _ g => g) (fun _ _ _ g => g) (fun b ps g => ⟨#[], by rw [g]; simp⟩)
      (fun m hm => by
        obtain ⟨o, es, ep, ho, r⟩ := hm
        exact ⟨o, es, ep, hk _ o (fun q => (hf _ q).2.1 rfl) ho, r⟩)
      (fun b u g => by
        have nb : ∀ c v, H c = some v → c ∉ [e, it] := fun c v g q => by
          have g' := (hf c q).1
          rw [g'] at g; cases g
        refine (I.hok b u g).stay (fun c v hcv q => hk c v ?_ q) (fun _ q => q) fun _ _ q => q
        rcases hcv with rfl | hcv
        · exact nb _ _ g
        · exact nb _ _ hcv) I.bare
  self := fun A i s Q E st h => by
    obtain ⟨⟨⟨old, he⟩, _⟩, _⟩ := st
    exact wpAny_pyIter_enum he h
def iEnumT (ta : TA) : TI := fun σ H R => ta σ H fun vs H1 => ∃ z, vs = [.str z] ∧ R (Iet z) H1
theorem pi_enumT {X : Cx} {e : Expr} {ta : TA} {p pos tpos : Pos} {elts : List Expr} {kk : Nat} (hg : Gl X "enumerate") (hm : X.mg "enumerate" = none) (ha : PA X [e] ta) (hs : starEach [e] X.env = [(false, eval e X.env)] := by rfl) :
    PI X (.Tuple elts kk tpos) (.Call (.Name "enumerate" p) [e] [] pos) (iEnumT ta) := by
  refine ⟨fun pins s σ H R I h => Call_ (ld_blt I hg hm boot_enumerate (PyProof.Rows.callWith_type1 (thn (ha.run pos pins s σ H _ I h) fun us s1 ⟨vs, H1, I1, r1, z, ez, q⟩ => ?_) hs rfl))⟩
  subst ez
  obtain ⟨u, rfl, t, rfl⟩ := vals1 r1
  refine call_enumerate_str fun h' he hit hsz hk => wpAny_pyIter_enum he ?_
  refine ⟨s1.heap.objs.size + 1, [s1.heap.objs.size + 1, s1.heap.objs.size], _, _, H1, rfl, I1.kept (t' := s1.toks) hk, turn_et (s1.heap.objs.size + 1) s1.heap.objs.size z t, ⟨⟨⟨.none, he⟩, hit⟩, Nat.succ_ne_self _, Nat.zero_le _⟩, fun b hb => ?_, q⟩
  have hle : s1.heap.objs.size ≤ b := by
    rcases List.mem_cons.mp hb with rfl | hb
    · exact Nat.le_succ _
    · rw [List.mem_singleton.mp hb]
      exact Nat.le_refl _
  exact I1.fpOk hle (I1.hok.fresh hle)
theorem walk_et {z : Str} : Walk (Iet z) z.cps.size (fun _ => True) (fun i H v H' => ∃ T c, v = .ref T ∧ H T = none ∧ z.cps[i]? = some c ∧ H' = upd H T (.tup [.int (i : Nat), .str ⟨#[c]⟩])) :=
  ⟨fun _ _ hi _ => hi, fun _ _ => Nat.le_refl _, fun _ _ _ _ _ _ y => y⟩
end Gk
namespace Gk
open PySem PySem.Spec PyProof.Rows L2
/-! ### the box of draws -/
def Box (m : Nat) (H : Hp) (b : Addr) : Prop := ∃ x y s : Int, H b = some (.lst [.int x, .int y, .int s]) ∧ 0 ≤ s ∧ s ≤ m
theorem Box.up {m n : Nat} {H : Hp} {b : Addr} (h : Box m H b) (hn : m ≤ n) : Box n H b := by
  obtain ⟨x, y, s, e, h0, h1⟩ := h
  exact ⟨x, y, s, e, h0, by omega⟩
/-- all but the box is as it was -/
def But (b : Addr) (H H' : Hp) : Prop := ∀ a o, a ≠ b → H a = some o → H' a = some o
theorem But.refl (b : Addr) (H : Hp) : But b H H := fun _ _ _ h => h
theorem But.trans {b : Addr} {H H1 H2 : Hp} (x : But b H H1) (y : But b H1 H2) : But b H H2 := fun a o n h => y a o n (x a o n h)
theorem But.set {b : Addr} {H : Hp} {o : HO} : But b H (upd H b o) := fun a u n h => by rw [upd_ne n]; exact h
theorem But.new {b p : Addr} {H : Hp} {o : HO} (h : H p = none) : But b H (upd H p o) := fun a u _ e => by rw [upd_ne (ne_of_none e h)]; exact e
theorem But.of_same {b : Addr} {H H' : Hp} (h : Same H H') : But b H H' := fun a o _ e => h a o e
theorem same_new {H : Hp} {p : Addr} {o : HO} (h : H p = none) : Same H (upd H p o) := fun a u e => by rw [upd_ne (ne_of_none e h)]; exact e
theorem Box.same {m : Nat} {H H' : Hp} {b : Addr} (h : Box m H b) (s : Same H H') : Box m H' b := by
  obtain ⟨x, y, z, e, r⟩ := h
  exact ⟨x, y, z, s _ _ e, r⟩
theorem Box.ne {m : Nat} {H : Hp} {b p : Addr} (h : Box m H b) (hp : H p = none) : b ≠ p := by
  obtain ⟨x, y, z, e, r⟩ := h
  exact ne_of_none e hp
theorem But.seqL {b : Addr} {K : PySem.W.Frag} {H H' : Hp} {a : Addr} {xs : List V} (e : But b H H') (n : a ≠ b) (h : SqL K H a xs) : SqL K H' a xs := by
  rcases h with (h | ⟨o, h⟩) | h
  · exact .inl (.inl (e _ _ n h))
  · exact .inl (.inr ⟨o, e _ _ n h⟩)
  · exact .inr h
theorem But.seqT {b : Addr} {K : PySem.W.Frag} {H H' : Hp} {a : Addr} {xs : List V} (e : But b H H') (n : a ≠ b) (h : SqT K H a xs) : SqT K H' a xs := by
  rcases h with (h | ⟨o, h⟩) | h
  · exact .inl (.inl (e _ _ n h))
  · exact .inl (.inr ⟨o, e _ _ n h⟩)
  · exact .inr h
theorem Same.seqT {K : PySem.W.Frag} {H H' : Hp} {a : Addr} {xs : List V} (e : Same H H') (h : SqT K H a xs) : SqT K H' a xs := by
  rcases h with (h | ⟨o, h⟩) | h
  · exact .inl (.inl (e _ _ h))
  · exact .inl (.inr ⟨o, e _ _ h⟩)
  · exact .inr h
/-- what is read at an address that is not the box's -/
theorem box_not_tup {m : Nat} {K : PySem.W.Frag} {H : Hp} {b a : Addr} (h : Box m H b) {xs : List V} (t : H a = some (.tup xs)) : a ≠ b := by
  obtain ⟨x, y, z, e, r⟩ := h
  exact ne_of t e (fun q => HO.noConfusion q)

/-! ### defs with their names -/
structure Dfn (P : Program) (w : World) (K : PySem.W.Frag) (mg : Str → Option Value) (base : Heap) (k : Nat) (x : Str) (ps : List Str) (sp : Sp) : Prop where
  ex : ∃ (f : Addr) (fd : FuncData), FnOk P w K mg base L2.CX0 k f fd ps sp ∧ mg x = some (.ref f) ∧ PySem.W.keepIn K (.ref f) = true ∧ Binds K fd ps []
/-- .. where nothing is being shown -/
structure DfG (P : Program) (w : World) (K : PySem.W.Frag) (mg : Str → Option Value) (base : Heap) (k : Nat) (x : Str) (ps : List Str) (sp : Sp) : Prop where
  ex : ∃ (f : Addr) (fd : FuncData), FnG P w K mg base k f fd ps sp ∧ mg x = some (.ref f) ∧ PySem.W.keepIn K (.ref f) = true ∧ Binds K fd ps []
section
variable {X : Cx} {k j : Nat} {x : Str} {ps : List Str} {sp : Sp} {p pos : Pos} {e : Expr} {es : List Expr} {t : TA}
theorem pe_d (D : Dfn X.prog X.w X.K X.mg X.base k x ps sp) (hr : Room j X.A) (hk : k ≤ j) (hg : Gl X x) (ha : PA X (e :: es) t)
    (hdb : (x == ("__debug__" : Str)) = false := by decide) (he : starEach (e :: es) X.env = (false, eval e X.env) :: starEach es X.env := by rfl)
    (hpl : (backTo pos (starEach es X.env)).any (·.1) = false := by rfl) : PE X (.Call (.Name x p) (e :: es) [] pos) (tCall sp [] L2.E0 t) := by
  obtain ⟨f, fd, F, m, kp, b⟩ := D.ex
  exact L2.pe_call (F.mono hk) hr hg m kp b .nil L2.pass0 ha hdb he hpl
theorem pe_dg (D : DfG X.prog X.w X.K X.mg X.base k x ps sp) (hr : Room j X.A) (hd : X.A.guards = some []) (hk : k ≤ j) (hg : Gl X x) (ha : PA X (e :: es) t)
    (hdb : (x == ("__debug__" : Str)) = false := by decide) (he : starEach (e :: es) X.env = (false, eval e X.env) :: starEach es X.env := by rfl)
    (hpl : (backTo pos (starEach es X.env)).any (·.1) = false := by rfl) : PE X (.Call (.Name x p) (e :: es) [] pos) (tG sp t) := by
  obtain ⟨f, fd, F, m, kp, b⟩ := D.ex
  exact pe_g (F.weak hk) hr hd hg m kp b ha hdb he hpl
end
/-- an expression whose ways meet -/
def tMid (t : TE) : TE := fun σ H Q => ∃ Mid : V → Hp → Prop, t σ H Mid ∧ ∀ v H', Mid v H' → Q v H'
theorem pe_mid {X : Cx} {e : Expr} {t : TE} (h : PE X e t) : PE X e (tMid t) :=
  ⟨fun pins s σ H Q I ⟨M, h1, h2⟩ => thn (h.run pins s σ H M I h1) fun u s1 ⟨v, H1, I1, r, q⟩ => ⟨v, H1, I1, r, h2 v H1 q⟩⟩
/-- a test whose ways meet -/
def tMidT (t : TT) : TT := fun σ H Q => ∃ Mid : Bool → Hp → Prop, t σ H Mid ∧ ∀ b H', Mid b H' → Q b H'
/-- a def called by keywords alone -/
structure DfK (P : Program) (w : World) (K : PySem.W.Frag) (mg : Str → Option Value) (base : Heap) (k : Nat) (x : Str) (ps ks : List Str) (gV : List V → List V) (sp : Sp) : Prop where
  ex : ∃ (f : Addr) (fd : FuncData) (g : List Value → List Value → List Value), FnOk P w K mg base L2.CX0 k f fd ps sp ∧ mg x = some (.ref f) ∧ PySem.W.keepIn K (.ref f) = true ∧ KBn K fd ps 0 ks g (fun _ zs => gV zs)
theorem pe_dk {X : Cx} {k j : Nat} {x : Str} {ps ks : List Str} {sp : Sp} {gV : List V → List V} {p pos : Pos} {kws : List Keyword} {tk : TA} (D : DfK X.prog X.w X.K X.mg X.base k x ps ks gV sp) (hr : Room j X.A) (hk : k ≤ j) (hg : Gl X x)
    (hkw : PK X kws tk) (hall : (backToKw pos (keywordEach kws X.env)).all (·.1.isSome) = true := by rfl) (hks : (backToKw pos (keywordEach kws X.env)).filterMap (·.1) = ks := by rfl) (hdb : (x == ("__debug__" : Str)) = false := by decide)
    (hpl : ((backTo pos (starEach [] X.env)).any (·.1) || (backToKw pos (keywordEach kws X.env)).any (·.1.isNone)) = false := by rfl) :
    PE X (.Call (.Name x p) [] kws pos) (tKw ks.length gV sp tk) := by
  obtain ⟨f, fd, g, F, m, kp, b⟩ := D.ex
  exact pe_kw (F.mono hk) hr hg m kp b hkw hall hks hdb hpl
/-- text * n -/
theorem op_mulS {X : Cx} : OpR X (binaryOp .Mult) (fun x y H Q => ∃ z n, x = .str z ∧ y = .int n ∧ MulOk z n ∧ Q (.str (Txt.mul z n)) H) := by
  intro pins s σ H x y v u Q I rx ry h
  obtain ⟨z, n, rfl, rfl, hc, q⟩ := h
  obtain ⟨t, rfl⟩ := rx
  obtain ⟨t', rfl⟩ := ry
  exact SB.mul hc fun t2 k => ⟨.str _, H, I.tok _, ⟨_, rfl⟩, q⟩
/-- data that may be shown -/
structure Fine (d : PyData) : Prop where
  a : d.showable = true
  b : d.hasDict = false
  c : d.depth ≤ 40
  e : d.shown.length ≤ sizeLine
theorem Fine.of {d : PyData} (B : Nat) (hB : 8 ≤ B) (hB2 : B ≤ 1000) (a : d.showable = true) (b : d.hasDict = false) (c : d.depth ≤ 40) (l : d.leavesShort B = true) (w : d.weight ≤ 10000) : Fine d :=
  ⟨a, b, c, by
    have h := PyData.shown_le B hB d l
    have h2 : (B + 2) * d.weight ≤ 1002 * 10000 := Nat.mul_le_mul (by omega) w
    have h3 : sizeLine = 16777216 := sizeLine_eq
    omega⟩
theorem call_reprF {X : Cx} {k : Nat} (hr : Room k X.A) (hg : X.A.guards = some []) : CallR X (.builtin "repr") (fun xs H Q => ∃ v d, xs = [v] ∧ Dp X.K H v d ∧ Fine d ∧ Q (.str d.shown) H) :=
  fun pins s σ H xs us Q I r ⟨v, d, h1, h2, h3, q⟩ => call_reprD hr hg pins s σ H xs us Q I r ⟨v, d, h1, h2, h3.a, h3.b, h3.c, h3.e, q⟩
theorem fine_ints {a b : Int} (ha : a.natAbs < 10 ^ 20) (hb : b.natAbs < 10 ^ 20) : Fine (.list [.int a, .int b]) := by
  have len : ∀ c : Int, c.natAbs < 10 ^ 20 → (PyData.shown (.int c)).length ≤ 21 := fun c hc => by
    have h := int_text_length_le10 (a := c) (k := 20) (by decide) hc
    show (Str.ofString (toString c)).length ≤ 21
    rw [PySem.ofString_length]
    exact h
  have la := len a ha
  have lb := len b hb
  have ga : a.natAbs.log2 < 1920 := PySem.Flt.log2_lt_of (by decide) (Nat.lt_of_lt_of_le ha (by decide))
  have gb : b.natAbs.log2 < 1920 := PySem.Flt.log2_lt_of (by decide) (Nat.lt_of_lt_of_le hb (by decide))
  refine Fine.of 21 (by decide) (by decide) ?_ rfl (by simp [PyData.depth, PyData.depthAll]) ?_ (by simp only [PyData.weight, PyData.weightAll]; split <;> split <;> omega)
  · simp only [PyData.showable, PyData.showableAll, ga, gb, decide_true, Bool.and_self]
  · simp only [PyData.leavesShort, PyData.leavesShortAll, la, lb, decide_true, Bool.and_self]
/-- a promise that does not speak of what is raised, as a value -/
theorem sqL_at {K : PySem.W.Frag} {H : Hp} {a : Addr} {xs : List V} (h : H a = some (.lst xs)) : SqL K H a xs := SqL.of h
end Gk
namespace Gk
open PySem PySem.Spec PyProof.Rows L2
/-- the caller shows nothing -/
theorem caller_guards : callerA.guards = some [] := rfl
/-- the law's call, its promise told where nothing is being shown -/
theorem callG {P : Program} {w : World} {K : PySem.W.Frag} {mg mb : Str → Option Value} {k : Nat} {fa a : Addr} {fd : FuncData} {x : Str} {sp : Sp} {s1 : Shared} {vs : List Value} {ns : List Int}
    (KX : K.In s1.heap) (n1 : s1.heap.Ns mainGlobals mg) (n2 : s1.heap.Ns builtinsNs mb) (n3 : ∀ x : Str, x ≠ "__name__" → mb x = bootBuiltins x) (lim : s1.heap.NoLimit) (gen : s1.gens = #[])
    (at_ : s1.heap.get? a = some { cls := .type "list", data := .seq vs.toArray }) (iss : IntsAre vs ns) (few : ns.length ≤ sizeLine) (room : Room k callerA)
    (F : ∀ base : Heap, K.In base → base.Ns mainGlobals mg → FnG P w K mg base k fa fd [x] sp) (binds : ∀ (s : Shared) (u : Value), BindsTo s fd ⟨[u], []⟩ [(x, u)])
    (want : ∀ H : Hp, Only H → SqL K H a (ns.map V.int) → sp [.ref a] H (fun v _ => v = .bl true) L2.E0) :
    codeAny (model P w) callerA (.call (.ref fa) ⟨[.ref a], []⟩) (fun r s' => r = .ok (.ret (.bool true)) ∧ OldK s1.heap s'.heap ∧ s'.os = s1.os ∧ AllBare s'.gens) s1 := by
  have rv := L2.vals_ints iss
  have go : ∀ H : Hp, Only H → SqL K H a (ns.map V.int) → HOk P w H s1.heap → (∀ b, H b ≠ none → b = a) → (H a ≠ none → K.lookup a = none) →
      codeAny (model P w) callerA (.call (.ref fa) ⟨[.ref a], []⟩) (fun r s' => r = .ok (.ret (.bool true)) ∧ OldK s1.heap s'.heap ∧ s'.os = s1.os ∧ AllBare s'.gens) s1 := by
    intro H only there held alone apart
    have isA : ∀ {b : Addr} {u : HO}, H b = some u → b = a := fun {b u} e => alone b (fun z => by rw [e] at z; cases z)
    have free : ∀ {b : Addr} {o : Obj} {es : Array DictEntry} {ep : Nat}, s1.heap.get? b = some o → o.data = .dict es ep → H b = none := by
      intro b o es ep e d
      cases q : H b with
      | none => rfl
      | some u =>
        obtain rfl := isA q
        rw [at_] at e
        cases e
        exact Data.noConfusion (show Data.seq vs.toArray _ = Data.dict es ep from d)
    have nsB : ∀ {b : Addr} {m : Str → Option Value}, s1.heap.Ns b m → (hidT s1.heap H).Ns b m := by
      intro b m h
      obtain ⟨o, es, ep, e, d, r⟩ := h
      exact ⟨o, es, ep, hidT_get e (free e d), d, r⟩
    have KB : K.In (hidT s1.heap H) := by
      intro b o e
      refine hidT_get (KX b o e) ?_
      cases q : H b with
      | none => rfl
      | some u =>
        obtain rfl := isA q
        have z := apart (fun z => by rw [q] at z; cases z)
        rw [z] at e
        cases e
    obtain ⟨mc, c1, c2⟩ := lim
    have en : Env0 P w K mg (hidT s1.heap H) callerA [] s1 H :=
      { frames := rfl, mod := ⟨KB, nsB n1, ⟨mb, nsB n2, n3⟩, ⟨mc, nsB c1, c2⟩⟩, bs := fun b o e => of_hidT e, bsz := Nat.le_of_eq (hidT_size _ _), funs := trivial,
        frf := fun b hb => (nomatch (show b ∈ ([] : List Addr) from hb)), hok := held, bare := .of_eq gen }
    refine codeAny_mono ((F _ KB (nsB n1)).go callerA [] s1 H ⟨[.ref a], []⟩ [.ref a] [.ref a] _ room caller_guards en (binds s1 (.ref a)) (.cons rfl .nil) (want H only there)) fun r s' res => ?_
    match r, res with
    | .error _, res => exact False.elim res
    | .ok .next, res => exact False.elim res
    | .ok .brk, res => exact False.elim res
    | .ok .cont, res => exact False.elim res
    | .ok (.ret u), res =>
      obtain ⟨v, H1, os, bare, un, held1, rel, qv⟩ := res
      have qv : v = .bl true := qv
      subst qv
      obtain rfl : u = Value.bool true := rel
      refine ⟨rfl, OldK.of_keep fun b o e => ?_, os, bare⟩
      cases q : H b with
      | none => exact un.keep b o e q (fun z => (nomatch (show b ∈ ([] : List Addr) from z))) (fun z => (nomatch z))
      | some u =>
        rcases only b with z | ⟨ob, xs, z⟩
        · rw [q] at z
          cases z
        · have f1 := (held b _ z).1
          have f2 := (held1 b _ (un.frzs b ob _ z)).1
          rw [e] at f1
          cases f1
          exact f2
  cases kl : K.lookup a with
  | some o =>
    have e := KX a o kl
    rw [at_] at e
    cases e
    exact go (fun _ => none) (fun _ => .inl rfl) (.inr ⟨_, vs.toArray, _, kl, rfl, rfl, rfl, by rw [List.size_toArray, iss.length]; exact few, by simpa using rv⟩) (fun b u z => (nomatch (show (none : Option HO) = some u from z))) (fun b z => absurd rfl z) (fun z => absurd rfl z)
  | none =>
    refine go (fun b => if b = a then some (.frz { cls := .type "list", data := .seq vs.toArray } (.lst (ns.map V.int))) else none) ?_ (.inl (.inr ⟨_, if_pos rfl⟩)) ?_ ?_ (fun _ => kl)
    · intro b
      by_cases h : b = a
      · exact .inr ⟨_, _, if_pos h⟩
      · exact .inl (if_neg h)
    · intro b u z
      by_cases h : b = a
      · obtain rfl := Option.some.inj ((if_pos h).symm.trans z)
        subst h
        exact ⟨at_, by rw [List.length_map]; exact few, vs, _, rv, at_⟩
      · exact (nomatch ((if_neg h).symm.trans z))
    · intro b z
      by_cases h : b = a
      · exact h
      · exact absurd (if_neg h) z

/-- the goal behind the head -/
theorem walkG {l : PySem.W.OpenLaw} {n k : Nat} {q : Program} {loose : List Str} {XP : (Str → Option Value) → Heap → Prop} {YP : World → Heap → Prop} {d : DefRec} {K : Params → PySem.W.Frag} {sp : World → Sp} {x : Str}
    (h1 : l.most = some n) (h2 : n ≤ sizeLine) (h3 : d.params.defaults = []) (h4 : Room k callerA) (h5 : ∀ (w : World) (h : Heap), YP w h → (K w.params).In h)
    (F : ∀ (w : World) (mg : Str → Option Value) (fa : Addr) (h : Heap), (K w.params).In h → h.Ns mainGlobals mg → mg d.name = some (.ref fa) →
      ∃ fd : FuncData, (∀ (s : Shared) (u : Value), BindsTo s fd ⟨[u], []⟩ [(x, u)]) ∧ ∀ base : Heap, (K w.params).In base → base.Ns mainGlobals mg → FnG l.prog w (K w.params) mg base k fa fd [x] (sp w))
    (h6 : ∀ (w : World) (H : Hp) (a : Addr) (ns : List Int), ns.length ≤ n → Only H → SqL (K w.params) H a (ns.map V.int) → sp w [.ref a] H (fun v _ => v = .bl true) L2.E0) :
    PySem.W.WalkO q loose XP YP l.row.toRowW d [] (fun f vs => PySem.call f vs) :=
  Att.attach_call h1 h3 fun w s0 s1 mg mb fa o pm cd doc a vs ns G Y ho hd hcd hmg obj iss len gen => by
    obtain ⟨fd, hb, hF⟩ := F w mg fa _ (h5 w _ Y) G.T.g hmg
    exact callG (h5 w _ Y) G.T.g G.T.b G.T.builtins G.T.nolimit gen obj iss (Nat.le_trans len h2) h4 hF hb (fun H hO hS => h6 w H a ns len hO hS)
end Gk
namespace Gk
open PySem PySem.Spec PyProof.Rows L2
theorem mul_same (l : Addr) (its : Array Value) (n : Nat) (dd : Option Addr) (sl : Array (Option Value)) (u : Tok) :
    Meets (Builtin.«tuple.__mul__» ⟨[.ref l, .int 1 u], []⟩) (fun _ R s => s.heap.get? l = some { cls := .type "tuple", dict := dd, data := .seq its n, slots := sl } ∧ R (.ok (.ret (.ref l))) s) :=
  .of_wp fun prog w A R s h => by
    obtain ⟨hp, g, d, tk, os⟩ := s
    obtain ⟨hl, h⟩ := h
    have f1 := AutoSeq1.idx_int
    have c0 : (decide ((1 : Int) < -(2 ^ 63)) || decide ((1 : Int) ≥ 2 ^ 63)) = false := by decide
    have c1 : (its.isEmpty || (1 : Int) == 1) = true := by simp
    wp_walk using wpAny_loadPart' hl
    repeat (first
      | (refine wpAny_ite_false (decide_eq_false (by rw [c0]; exact Bool.false_ne_true)) ?_; wp_walk using wpAny_loadPart' hl)
      | (refine wpAny_ite_true (decide_eq_true (by rw [c1])) ?_; wp_walk using wpAny_loadPart' hl))
    all_goals first | exact ⟨_, rfl, h⟩ | skip
theorem mul_none (l : Addr) (its : Array Value) (n : Nat) (dd : Option Addr) (sl : Array (Option Value)) (x : Int) (u : Tok) (hx : x ≤ 0) (hx2 : -(2 ^ 63) ≤ x) (hi : its.isEmpty = false) :
    Meets (Builtin.«tuple.__mul__» ⟨[.ref l, .int x u], []⟩) (fun _ R s => s.heap.get? l = some { cls := .type "tuple", dict := dd, data := .seq its n, slots := sl } ∧
      R (.ok (.ret (Value.ref s.heap.objs.size))) { s with heap := s.heap.push { cls := Value.type "tuple", data := Data.seq #[] }, toks := s.toks }) :=
  .of_wp fun prog w A R s h => by
    obtain ⟨hp, g, d, tk, os⟩ := s
    obtain ⟨hl, h⟩ := h
    have f1 := AutoSeq1.idx_int
    have c0 : (decide (x < -(2 ^ 63)) || decide (x ≥ 2 ^ 63)) = false := by
      rw [decide_eq_false (by omega), decide_eq_false (by omega)] <;> rfl
    have c1 : (its.isEmpty || x == 1) = false := by
      rw [hi, Bool.false_or]
      exact beq_eq_false_iff_ne.mpr (by omega)
    have c2 : (decide (x ≤ 0) || its.isEmpty) = true := by
      rw [decide_eq_true hx] <;> rfl
    wp_walk using wpAny_loadPart' hl
    repeat (first
      | (refine wpAny_ite_false (decide_eq_false (by rw [c0]; exact Bool.false_ne_true)) ?_; wp_walk using wpAny_loadPart' hl)
      | (refine wpAny_ite_false (decide_eq_false (by rw [c1]; exact Bool.false_ne_true)) ?_; wp_walk using wpAny_loadPart' hl)
      | (refine wpAny_ite_true (decide_eq_true (by rw [c2])) ?_; wp_walk using wpAny_loadPart' hl))
    all_goals first | exact ⟨_, rfl, h⟩ | skip
/-- t * k, whatever object it is -/
def rRepU (K : PySem.W.Frag) : R2 := fun x y H Q => ∃ l k xs, x = .ref l ∧ y = .int k ∧ SqT K H l xs ∧ xs ≠ [] ∧ 0 ≤ k ∧ k ≤ 1000 ∧ xs.length ≤ 1000 ∧
  ∀ p H', Same H H' → SqT K H' p (List.replicate k.toNat xs).flatten → Q (.ref p) H'
section
variable {X : Cx}
theorem op_repU : OpR X (binaryOp .Mult) (rRepU X.K) := by
  intro pins s σ H x y v u Q I rx ry h
  obtain ⟨l, k, xs, rfl, rfl, hT, hne, h0, h1, hz, q⟩ := h
  by_cases h2 : 2 ≤ k
  · exact op_repT pins s σ H _ _ v u Q I rx ry ⟨l, k, xs, rfl, rfl, hT, hne, h2, h1, hz, fun p np => q p _ (same_new np) (.inl (.inl upd_same))⟩
  · cases rx
    obtain ⟨t, rfl⟩ := ry
    obtain ⟨its, r, ⟨⟨cls, dd, data, sl⟩, ho, hc, n, hd⟩, hs⟩ := I.tuple hT
    simp only at hc hd
    subst hc hd
    have many : its.length = xs.length := r.length.symm
    have full : its.toArray.isEmpty = false := by
      cases its with
      | nil => exact absurd (List.eq_nil_of_length_eq_zero many.symm) hne
      | cons a b => rfl
    by_cases h3 : k = 1
    · subst h3
      refine wpAny_binaryOp_repeat_ref (T := "tuple") (U := "int") (by decide) ⟨_, ho, rfl⟩ (fun s' => typeIs_int s' 1 t) noFill_tuple_mul F.fills_int_mul F.slot_int_rmul repeat_tuple F.slot_int_index.lookup
        (call_meets F.slot_int_rmul (typeIs_int s 1 t) F.entry_int_rmul (F.args_int_rmul_2 _ _) (int_rmul_tuple 1 t l its.toArray n dd sl)
          ⟨ho, rfl, ⟨_, ho, rfl⟩, call_meets F.slot_tuple_mul ⟨_, ho, rfl⟩ F.entry_tuple_mul (F.args_tuple_mul_2 _ _) (mul_same l its.toArray n dd sl t) ⟨ho, ?_⟩⟩)
      refine ⟨.ref l, H, I, rfl, q l H (Same.refl H) ?_⟩
      show SqT X.K H l ([xs].flatten)
      rw [List.flatten_cons, List.flatten_nil, List.append_nil]
      exact hT
    · have h4 : k = 0 := by omega
      subst h4
      refine wpAny_binaryOp_repeat_ref (T := "tuple") (U := "int") (by decide) ⟨_, ho, rfl⟩ (fun s' => typeIs_int s' 0 t) noFill_tuple_mul F.fills_int_mul F.slot_int_rmul repeat_tuple F.slot_int_index.lookup
        (call_meets F.slot_int_rmul (typeIs_int s 0 t) F.entry_int_rmul (F.args_int_rmul_2 _ _) (int_rmul_tuple 0 t l its.toArray n dd sl)
          ⟨ho, rfl, ⟨_, ho, rfl⟩, call_meets F.slot_tuple_mul ⟨_, ho, rfl⟩ F.entry_tuple_mul (F.args_tuple_mul_2 _ _) (mul_none l its.toArray n dd sl 0 t (by decide) (by decide) full) ⟨ho, ?_⟩⟩)
      have nf : H s.heap.objs.size = none := I.hok.fresh (Nat.le_refl _)
      exact ⟨.ref s.heap.objs.size, upd H s.heap.objs.size (.tup []), I.laid (t' := s.toks) (fun b ob g => Heap.get?_push_of_some _ g) (Nat.le_refl _) ⟨Nat.zero_le _, [], .nil, IsTup.new _ _⟩, rfl, q _ _ (same_new nf) (.inl (.inl upd_same))⟩
/-- t + u, whatever object it is -/
def rCatU (K : PySem.W.Frag) : R2 := fun x y H Q => ∃ a b xs ys, x = .ref a ∧ y = .ref b ∧ SqT K H a xs ∧ SqT K H b ys ∧ xs.length + ys.length ≤ sizeLine ∧ ∀ p H', Same H H' → SqT K H' p (xs ++ ys) → Q (.ref p) H'
theorem op_catU : OpR X (binaryOp .Add) (rCatU X.K) := by
  intro pins s σ H x y v u Q I rx ry h
  obtain ⟨a, b, xs, ys, rfl, rfl, ha, hb, hz, q⟩ := h
  refine op_catA pins s σ H _ _ v u Q I rx ry ⟨a, b, xs, ys, rfl, rfl, ha, hb, hz, fun e => ?_, fun _ e => ?_, fun _ _ p np => q p _ (same_new np) (.inl (.inl upd_same))⟩
  · subst e
    exact q b H (Same.refl H) hb
  · subst e
    exact q a H (Same.refl H) (by rw [List.append_nil]; exact ha)
theorem cut_whole {xs : List V} {lo hi : Option Int} (h : HT.sIx xs.length 0 lo = 0 ∧ HT.sIx xs.length xs.length hi = xs.length) : cutV xs lo hi = xs := by
  unfold cutV
  rw [h.1, h.2]
  simp
/-- t[lo:hi], whatever object it is -/
def rSlU (K : PySem.W.Frag) : V → Option Int → Option Int → Hp → VK → Prop := fun x lo hi H Q => ∃ a xs, x = .ref a ∧ SqT K H a xs ∧ ∀ p H', Same H H' → SqT K H' p (cutV xs lo hi) → Q (.ref p) H'
theorem sl_tupU : SlR X (rSlU X.K) := by
  intro pins s σ H x v vl vu lo hi sl Q I rx hs pl pu h
  obtain ⟨a, xs, rfl, hx, q⟩ := h
  exact sl_tupA pins s σ H _ v vl vu lo hi sl Q I rx hs pl pu ⟨a, xs, rfl, hx, fun e => q a H (Same.refl H) (by rw [cut_whole e]; exact hx), fun _ p np => q p _ (same_new np) (.inl (.inl upd_same))⟩
end
theorem cut_to {xs : List V} (n : Nat) : cutV xs none (some (n : Int)) = xs.take n := by
  unfold cutV
  rw [HT.sIx_none, HT.sIx_nat]
  show ((xs.drop 0).take (min n xs.length - 0)) = _
  rw [List.drop_zero, Nat.sub_zero, Nat.min_comm, List.take_eq_take_iff]
  omega
theorem cut_from {xs : List V} (n : Nat) : cutV xs (some (n : Int)) none = xs.drop n := by
  unfold cutV
  rw [HT.sIx_none, HT.sIx_nat]
  by_cases h : n ≤ xs.length
  · rw [Nat.min_eq_left h, List.take_of_length_le (by rw [List.length_drop]; exact Nat.le_refl _)]
  · rw [Nat.min_eq_right (by omega), List.drop_eq_nil_of_le (Nat.le_refl _), List.drop_eq_nil_of_le (by omega)]
    exact List.take_nil
end Gk
namespace Gk
open PySem PySem.Spec PyProof.Rows L2
/-! ### data that is easily shown and compared -/
mutual
def tame : PyData → Bool
  | .none | .bool _ => true
  | .int i => decide (i.natAbs < 10 ^ 20)
  | .str x => x.cps.all (· < 0x110000)
  | .list xs | .tuple xs => tameAll xs
  | .dict _ => false
def tameAll : List PyData → Bool
  | [] => true
  | x :: xs => tame x && tameAll xs
end
mutual
def cost : PyData → Nat
  | .none | .bool _ | .int _ => 70
  | .str x => x.cps.size + 1
  | .list xs | .tuple xs => costAll xs
  | .dict _ => 0
def costAll : List PyData → Nat
  | [] => 1
  | x :: xs => cost x + 1 + costAll xs
end
theorem int_len20 {c : Int} (hc : c.natAbs < 10 ^ 20) : (PyData.shown (.int c)).length ≤ 21 := by
  have h := int_text_length_le10 (a := c) (k := 20) (by decide) hc
  show (Str.ofString (toString c)).length ≤ 21
  rw [PySem.ofString_length]
  exact h
theorem int_log20 {c : Int} (hc : c.natAbs < 10 ^ 20) : c.natAbs.log2 < 68 := PySem.Flt.log2_lt_of (by decide) (Nat.lt_of_lt_of_le hc (by decide))
mutual
theorem tame_showable : ∀ d : PyData, tame d = true → d.showable = true
  | .none, _ => rfl
  | .bool _, _ => rfl
  | .int i, h => by
    have h1 := int_log20 (of_decide_eq_true (by simpa only [tame] using h))
    simp only [PyData.showable]
    exact decide_eq_true (by omega)
  | .str _, _ => rfl
  | .list xs, h => by simpa only [PyData.showable] using tame_showableAll xs (by simpa only [tame] using h)
  | .tuple xs, h => by simpa only [PyData.showable] using tame_showableAll xs (by simpa only [tame] using h)
  | .dict _, h => by simp [tame] at h
theorem tame_showableAll : ∀ ds : List PyData, tameAll ds = true → PyData.showableAll ds = true
  | [], _ => rfl
  | x :: xs, h => by
    simp only [tameAll, Bool.and_eq_true] at h
    simp only [PyData.showableAll, tame_showable x h.1, tame_showableAll xs h.2, Bool.and_self]
end
mutual
theorem tame_nodict : ∀ d : PyData, tame d = true → d.hasDict = false
  | .none, _ => rfl
  | .bool _, _ => rfl
  | .int _, _ => rfl
  | .str _, _ => rfl
  | .list xs, h => by simpa only [PyData.hasDict] using tame_nodictAll xs (by simpa only [tame] using h)
  | .tuple xs, h => by simpa only [PyData.hasDict] using tame_nodictAll xs (by simpa only [tame] using h)
  | .dict _, h => by simp [tame] at h
theorem tame_nodictAll : ∀ ds : List PyData, tameAll ds = true → PyData.hasDictAll ds = false
  | [], _ => rfl
  | x :: xs, h => by
    simp only [tameAll, Bool.and_eq_true] at h
    simp only [PyData.hasDictAll, tame_nodict x h.1, tame_nodictAll xs h.2, Bool.or_self]
end
mutual
theorem tame_short : ∀ d : PyData, tame d = true → d.leavesShort 21 = true
  | .none, _ => rfl
  | .bool _, _ => rfl
  | .int i, h => by
    have h1 := int_len20 (of_decide_eq_true (by simpa only [tame] using h))
    simp only [PyData.leavesShort]
    exact decide_eq_true h1
  | .str x, h => by
    have h1 : x.cps.all (· < 0x110000) = true := by simpa only [tame] using h
    simp only [PyData.leavesShort, List.all_eq_true, decide_eq_true_eq]
    intro c hc
    rw [Array.all_eq_true_iff_forall_mem] at h1
    have h2 := h1 c (Array.mem_toList_iff.mp hc)
    have h3 : c < 0x110000 := by simpa using h2
    exact Nat.lt_of_lt_of_le h3 (by decide)
  | .list xs, h => by simpa only [PyData.leavesShort] using tame_shortAll xs (by simpa only [tame] using h)
  | .tuple xs, h => by simpa only [PyData.leavesShort] using tame_shortAll xs (by simpa only [tame] using h)
  | .dict _, h => by simp [tame] at h
theorem tame_shortAll : ∀ ds : List PyData, tameAll ds = true → PyData.leavesShortAll 21 ds = true
  | [], _ => rfl
  | x :: xs, h => by
    simp only [tameAll, Bool.and_eq_true] at h
    simp only [PyData.leavesShortAll, tame_short x h.1, tame_shortAll xs h.2, Bool.and_self]
end
mutual
theorem tame_weight : ∀ d : PyData, tame d = true → d.weight ≤ cost d
  | .none, _ => Nat.zero_le _
  | .bool _, _ => Nat.zero_le _
  | .int i, h => by
    have h1 := int_log20 (of_decide_eq_true (by simpa only [tame] using h))
    simp only [PyData.weight, cost]
    split <;> omega
  | .str x, h => by
    simp only [PyData.weight, cost]
    omega
  | .list xs, h => by simpa only [PyData.weight, cost] using tame_weightAll xs (by simpa only [tame] using h)
  | .tuple xs, h => by simpa only [PyData.weight, cost] using tame_weightAll xs (by simpa only [tame] using h)
  | .dict _, h => by simp [tame] at h
theorem tame_weightAll : ∀ ds : List PyData, tameAll ds = true → PyData.weightAll ds ≤ costAll ds
  | [], _ => Nat.zero_le _
  | x :: xs, h => by
    simp only [tameAll, Bool.and_eq_true] at h
    have h1 := tame_weight x h.1
    have h2 := tame_weightAll xs h.2
    simp only [PyData.weightAll, costAll]
    omega
end
mutual
theorem tame_lay : ∀ d : PyData, tame d = true → d.canLay0 = true
  | .none, _ => rfl
  | .bool _, _ => rfl
  | .int _, _ => rfl
  | .str x, h => by
    have h1 : x.cps.all (· < 0x110000) = true := by simpa only [tame] using h
    simpa only [PyData.canLay0, PyData.strOk] using h1
  | .list xs, h => by simpa only [PyData.canLay0] using tame_layAll xs (by simpa only [tame] using h)
  | .tuple xs, h => by simpa only [PyData.canLay0] using tame_layAll xs (by simpa only [tame] using h)
  | .dict _, h => by simp [tame] at h
theorem tame_layAll : ∀ ds : List PyData, tameAll ds = true → PyData.canLayAll0 ds = true
  | [], _ => rfl
  | x :: xs, h => by
    simp only [tameAll, Bool.and_eq_true] at h
    simp only [PyData.canLayAll0, tame_lay x h.1, tame_layAll xs h.2, Bool.and_self]
end
theorem Fine.tame {d : PyData} (h : Gk.tame d = true) (hd : d.depth ≤ 40) (hc : cost d ≤ 500000) : Fine d :=
  ⟨tame_showable d h, tame_nodict d h, hd, by
    have h1 := PyData.shown_le 21 (by decide) d (tame_short d h)
    have h2 := tame_weight d h
    have h3 : sizeLine = 16777216 := sizeLine_eq
    omega⟩
theorem tame_shaped {d : PyData} (h : tame d = true) (hd : d.depth ≤ 40) : SeqAt.shaped d = true := by
  unfold SeqAt.shaped
  rw [tame_lay d h, Bool.true_and]
  exact decide_eq_true (by omega)

/-! ### data of tuples stays while other things change -/
def Keep (K : PySem.W.Frag) (H H' : Hp) : Prop := ∀ a xs, SqT K H a xs → SqT K H' a xs
theorem Keep.refl {K : PySem.W.Frag} {H : Hp} : Keep K H H := fun _ _ h => h
theorem Keep.trans {K : PySem.W.Frag} {H H1 H2 : Hp} (a : Keep K H H1) (b : Keep K H1 H2) : Keep K H H2 := fun x xs h => b x xs (a x xs h)
theorem Same.keep {K : PySem.W.Frag} {H H' : Hp} (e : Same H H') : Keep K H H' := fun _ _ h => Same.seqT e h
theorem But.keep {K : PySem.W.Frag} {H H' : Hp} {b : Addr} {m : Nat} (e : But b H H') (hb : Box m H b) : Keep K H H' := by
  intro a xs h
  obtain ⟨x, y, z, g, _⟩ := hb
  rcases h with (h | ⟨o, h⟩) | h
  · exact .inl (.inl (e _ _ (ne_of h g (fun q => HO.noConfusion q)) h))
  · exact .inl (.inr ⟨o, e _ _ (ne_of h g (fun q => HO.noConfusion q)) h⟩)
  · exact .inr h
/-- all but the box, read: a list or a tuple that is not the box -/
theorem But.keepL {K : PySem.W.Frag} {H H' : Hp} {b a : Addr} {xs : List V} (e : But b H H') (n : a ≠ b) (h : SqL K H a xs) : SqL K H' a xs := e.seqL n h
mutual
def tups : PyData → Bool
  | .none | .bool _ | .int _ | .str _ => true
  | .tuple xs => tupsAll xs
  | .list _ | .dict _ => false
def tupsAll : List PyData → Bool
  | [] => true
  | x :: xs => tups x && tupsAll xs
end
mutual
theorem Dp.keep {K : PySem.W.Frag} {H H' : Hp} (k : Keep K H H') : ∀ (d : PyData) (v : V), tups d = true → Dp K H v d → Dp K H' v d
  | .none, _, _, h => by cases h; exact .non
  | .bool _, _, _, h => by cases h; exact .bl _
  | .int _, _, _, h => by cases h; exact .int _
  | .str _, _, _, h => by cases h; exact .str _
  | .tuple ds, _, t, h => by
    cases h with
    | tup h1 h2 => exact .tup (k _ _ h1) (DpAll.keep k ds _ (by simpa only [tups] using t) h2)
  | .list _, _, t, _ => by simp [tups] at t
  | .dict _, _, t, _ => by simp [tups] at t
theorem DpAll.keep {K : PySem.W.Frag} {H H' : Hp} (k : Keep K H H') : ∀ (ds : List PyData) (vs : List V), tupsAll ds = true → DpAll K H vs ds → DpAll K H' vs ds
  | [], _, _, h => by cases h; exact .nil
  | d :: ds, _, t, h => by
    simp only [tupsAll, Bool.and_eq_true] at t
    cases h with
    | cons h1 h2 => exact .cons (Dp.keep k d _ t.1 h1) (DpAll.keep k ds _ t.2 h2)
end
section
variable {K : PySem.W.Frag} {H : Hp}
theorem DpAll.len : ∀ {vs : List V} {ds : List PyData}, DpAll K H vs ds → vs.length = ds.length
  | _, _, .nil => rfl
  | _, _, .cons _ t => by rw [List.length_cons, List.length_cons, DpAll.len t]
theorem DpAll.take : ∀ {vs : List V} {ds : List PyData} (n : Nat), DpAll K H vs ds → DpAll K H (vs.take n) (ds.take n)
  | _, _, 0, _ => .nil
  | _, _, _ + 1, .nil => .nil
  | _, _, n + 1, .cons h t => .cons h (DpAll.take n t)
theorem DpAll.drop : ∀ {vs : List V} {ds : List PyData} (n : Nat), DpAll K H vs ds → DpAll K H (vs.drop n) (ds.drop n)
  | _, _, 0, h => h
  | _, _, _ + 1, .nil => .nil
  | _, _, n + 1, .cons _ t => DpAll.drop n t
theorem DpAll.app : ∀ {vs us : List V} {ds es : List PyData}, DpAll K H vs ds → DpAll K H us es → DpAll K H (vs ++ us) (ds ++ es)
  | _, _, _, _, .nil, h => h
  | _, _, _, _, .cons h t, h2 => .cons h (DpAll.app t h2)
theorem DpAll.rep {vs : List V} {ds : List PyData} (h : DpAll K H vs ds) : ∀ n : Nat, DpAll K H (List.replicate n vs).flatten (List.replicate n ds).flatten
  | 0 => .nil
  | n + 1 => by
    rw [List.replicate_succ, List.replicate_succ, List.flatten_cons, List.flatten_cons]
    exact DpAll.app h (DpAll.rep h n)
theorem DpAll.at : ∀ {vs : List V} {ds : List PyData} {i : Nat} {v : V} {d : PyData}, DpAll K H vs ds → vs[i]? = some v → ds[i]? = some d → Dp K H v d
  | _, _, _, _, _, .nil, h, _ => by simp at h
  | _, _, 0, _, _, .cons h _, e1, e2 => by
    obtain rfl := Option.some.inj e1
    obtain rfl := Option.some.inj e2
    exact h
  | _, _, i + 1, _, _, .cons _ t, e1, e2 => DpAll.at (i := i) t (by simpa using e1) (by simpa using e2)
theorem DpAll.ints : ∀ l : List Int, DpAll K H (l.map V.int) (l.map PyData.int)
  | [] => .nil
  | i :: l => .cons (.int i) (DpAll.ints l)
end
end Gk
namespace Gk
open PySem PySem.Spec PyProof.Rows L2 PySem.Builtin.Str
/-! ### enumerate of a tuple -/
theorem enum_newT (l : Addr) (its : Array Value) :
    Meets (Builtin.«enumerate.__new__» ⟨[.type "enumerate", .ref l], []⟩) (fun _ R s => Heap.IsTuple s.heap l its ∧
      R (.ok (.ret (.ref (s.heap.push { cls := .type "tuple_iterator", data := .fields #[.ref l, .int 0 0] }).objs.size)))
        { s with heap := (s.heap.push { cls := .type "tuple_iterator", data := .fields #[.ref l, .int 0 0] }).push { cls := .type "enumerate", data := .fields #[.none, .bool false, .ref s.heap.objs.size, rawInt 0, .none, .none] } }) :=
  .of_wp fun prog w A R s h => by
    obtain ⟨hp, g, d, tk, os⟩ := s
    obtain ⟨hL, h⟩ := h
    have hsub := sub_enumerate
    obtain ⟨⟨oc, od, dt, sl⟩, hl, hcl, n, hdt⟩ := id hL
    replace hcl : oc = .type "tuple" := hcl
    replace hdt : dt = .seq its n := hdt
    subst hcl hdt
    wp_walk using wpAny_loadPart' hl
    refine wpAny_stack_any fun st => wpAny_pure ?_
    split
    · rename_i c _ _ _ _ _
      cases (c == Value.type "enumerate") <;>
      · wp_walk using wpAny_loadPart' hl, wpAny_pyIter_tuple hL
        exact ⟨_, rfl, h⟩
    · wp_walk using wpAny_loadPart' hl, wpAny_pyIter_tuple hL
      exact ⟨_, rfl, h⟩
section
variable {prog : Program} {w : World} {A : Around} {E : Value → Shared → Prop} {s : Shared}
theorem enumT {l : Addr} {its : Array Value} {Q : Value → Shared → Prop} (hL : s.heap.IsTuple l its)
    (h : ∀ h', IsEnum h' (s.heap.objs.size + 1) s.heap.objs.size 0 .none → h'.IsTupleIter s.heap.objs.size l 0 → (∀ b o, s.heap.get? b = some o → h'.get? b = some o) → Q (.ref (s.heap.objs.size + 1)) { s with heap := h' }) :
    wpAny (model prog w) A (call (.type "enumerate") [.ref l]) Q E s := by
  refine callType_new F.called_enumerate (by decide) (F.typeCall_enumerate_1 _) (F.newCall_enumerate_1 _) (fun obj => F.args_object_init_2 obj _) F.entry_enumerate_new (enum_newT l its) ⟨hL, ?_⟩
  have hz : (s.heap.push { cls := .type "tuple_iterator", data := .fields #[.ref l, .int 0 0] }).objs.size = s.heap.objs.size + 1 := Heap.size_push ..
  show _ ∧ _
  rw [hz]
  have he : IsEnum ((s.heap.push { cls := .type "tuple_iterator", data := .fields #[.ref l, .int 0 0] }).push { cls := .type "enumerate", data := .fields #[.none, .bool false, .ref s.heap.objs.size, rawInt 0, .none, .none] }) (s.heap.objs.size + 1) s.heap.objs.size 0 .none := by
    have g := Heap.get?_push_size (s.heap.push { cls := .type "tuple_iterator", data := .fields #[.ref l, .int 0 0] }) (o := { cls := .type "enumerate", data := .fields #[.none, .bool false, .ref s.heap.objs.size, rawInt 0, .none, .none] }) rfl
    rw [hz] at g
    exact g
  exact ⟨⟨_, he, rfl⟩, h _ he ⟨_, Heap.get?_push_of_some _ (Heap.get?_push_size _ rfl), rfl, rfl⟩ fun b o x => Heap.get?_push_of_some _ (Heap.get?_push_of_some _ x)⟩
end
def Ient (K : PySem.W.Frag) (a : Addr) (N : Nat) : It := ⟨fun i H => i < N ∧ ∃ xs : List V, SqT K H a xs ∧ xs.length = N,
  fun i H v H' => ∃ T x, v = .ref T ∧ H T = none ∧ (∀ xs, SqT K H a xs → xs[i]? = some x) ∧ H' = upd H T (.tup [.int (i : Nat), x]), fun i H => N ≤ i ∧ ∃ xs : List V, SqT K H a xs ∧ xs.length = N⟩
theorem turn_ent {P : Program} {w : World} {K : PySem.W.Frag} {elts : List Expr} {kk : Nat} {tpos : Pos} (e it a : Addr) (N : Nat) :
    Turn P w K (.Tuple elts kk tpos) (Ient K a N) [e, it] e (fun i h => ((∃ old, IsEnum h e it i old) ∧ h.IsTupleIter it a i) ∧ e ≠ it ∧ i ≤ N) where
  mem := List.mem_cons_self
  obj := fun i h st b hb => by
    obtain ⟨⟨⟨old, he⟩, ⟨o, ho, hc, hd⟩⟩, _⟩ := st
    rcases List.mem_cons.mp hb with rfl | hb
    · exact ⟨_, he, fun v g => nomatch g⟩
    · rw [List.mem_singleton.mp hb]
      exact ⟨o, ho, fun v g => by rw [hd] at g; cases g⟩
  keep := fun i h h' st k => by
    obtain ⟨⟨⟨old, he⟩, ⟨o, ho, hc, hd⟩⟩, hne⟩ := st
    exact ⟨⟨⟨old, k e List.mem_cons_self _ he⟩, o, k it (List.mem_cons_of_mem _ List.mem_cons_self) o ho, hc, hd⟩, hne⟩
  item := by
    intro X hP hw hK hc i pins s σ H E I hf st hg
    subst hP hw hK
    obtain ⟨hlt, xs, hq, hN⟩ := hg
    obtain ⟨st, hne, hi⟩ := st
    obtain ⟨its, rv, tup, hz⟩ := I.tuple hq
    have hlen : its.toArray.size = N := by rw [List.size_toArray, ← hN]; exact rv.length.symm
    have nat : a ≠ it := fun z => by
      obtain ⟨o1, g1, c1, _⟩ := tup
      obtain ⟨_, o2, g2, c2, _⟩ := st
      rw [z, g2] at g1
      cases g1
      rw [c2] at c1
      exact absurd c1 (by decide)
    have D : Draws X.prog X.w X.A.in1 it [it, a] its.toArray.size _ _ := Draws.tuple (show X.A.in1.handled = none from I.ok.hd hc) it a nat its.toArray
    have nea : e ≠ a := fun z => by
      obtain ⟨o1, g1, c1, _⟩ := tup
      obtain ⟨⟨old, g2⟩, _⟩ := st
      rw [z] at g2
      rw [g2] at g1
      cases g1
      exact absurd (show Value.type "enumerate" = Value.type "tuple" from c1) (by decide)
    have W := WalksT.enumerateD D e hne (fun q => (List.mem_cons.mp q).elim hne fun q => nea (List.mem_singleton.mp q)) List.mem_cons_self
    have hel : e < s.heap.objs.size := by obtain ⟨⟨old, he⟩, _⟩ := st; exact Heap.lt_size he
    have hil : it < s.heap.objs.size := by obtain ⟨_, o, ho, _⟩ := st; exact Heap.lt_size ho
    refine W.item i s _ _ (by rw [hlen]; exact hlt) ⟨st.1, st.2, tup⟩ fun T vals h' tk hp hT isT mid hk => ?_
    obtain ⟨t1, x1, hx1, rfl⟩ := hp
    have nT := W.apart i T h' mid
    obtain ⟨y, hy⟩ : ∃ y, xs[i]? = some y := ⟨xs[i]'(by omega), List.getElem?_eq_getElem (by omega)⟩
    obtain ⟨u, hu, ru⟩ := rv.get hy
    have hx1 : its.toArray[i]? = some x1 := hx1
    rw [List.getElem?_toArray, hu] at hx1
    obtain rfl := Option.some.inj hx1
    refine ⟨_, rfl, W.go elts kk tpos i T { s with heap := h', toks := tk } _ _ mid fun h2 st2 hk2 => ?_⟩
    obtain ⟨oT, gT, cT, nTT, dT⟩ := isT
    have gT2 := hk2 T oT nT gT
    have new : ObjOk X.prog X.w (upd H T (.tup [.int (i : Nat), y])) h2 T (.tup [.int (i : Nat), y]) :=
      ⟨by show 2 ≤ sizeLine; decide, [.int i t1, u], .cons ⟨_, rfl⟩ (.cons ru .nil), ⟨oT, gT2, cT, nTT, dT⟩⟩
    have I1 : Inv X pins σ (upd H T (.tup [.int (i : Nat), y])) { s with heap := h2, toks := tk } :=
      I.turnedNew (ch := [e, it]) (fun b ob hb g => hk2 b ob hb (hk b ob hb g)) hf hT new
    refine ⟨.ref T, _, I1, rfl, ⟨T, y, rfl, I.hok.fresh hT, fun ys hys => ?_, rfl⟩, ⟨⟨st2.1, st2.2.1⟩, hne, hlt⟩, fun b hb => ?_⟩
    · rw [I.tuple_inj hys hq]
      exact hy
    · have hb' : b < s.heap.objs.size := by
        rcases List.mem_cons.mp hb with rfl | hb
        · exact hel
        · rw [List.mem_singleton.mp hb]; exact hil
      rw [upd_ne (Nat.ne_of_lt (Nat.lt_of_lt_of_le hb' hT))]
      exact (hf b hb).1
  done := by
    intro X hP hw hK hc i pins s σ H E I hf st hg
    subst hP hw hK
    obtain ⟨hge, xs, hq, hN⟩ := hg
    obtain ⟨st, hne, hi⟩ := st
    obtain ⟨its, rv, tup, hz⟩ := I.tuple hq
    have hlen : its.toArray.size = N := by rw [List.size_toArray, ← hN]; exact rv.length.symm
    obtain rfl : i = N := Nat.le_antisymm hi hge
    have nat : a ≠ it := fun z => by
      obtain ⟨o1, g1, c1, _⟩ := tup
      obtain ⟨_, o2, g2, c2, _⟩ := st
      rw [z, g2] at g1
      cases g1
      rw [c2] at c1
      exact absurd c1 (by decide)
    have nea : e ≠ a := fun z => by
      obtain ⟨o1, g1, c1, _⟩ := tup
      obtain ⟨⟨old, g2⟩, _⟩ := st
      rw [z] at g2
      rw [g2] at g1
      cases g1
      exact absurd (show Value.type "enumerate" = Value.type "tuple" from c1) (by decide)
    have D : Draws X.prog X.w X.A.in1 it [it, a] its.toArray.size _ _ := Draws.tuple (show X.A.in1.handled = none from I.ok.hd hc) it a nat its.toArray
    have W := WalksT.enumerateD D e hne (fun q => (List.mem_cons.mp q).elim hne fun q => nea (List.mem_singleton.mp q)) List.mem_cons_self
    rw [← hlen] at st
    refine W.done s _ _ ⟨st.1, st.2, tup⟩ fun h' tk hk => ⟨rfl, ?_⟩
    exact I.step (g' := s.gens) (d' := s.drawn) (ch := [e, it]) (fun b hb => ⟨(hf b hb).2.2.2.1, (hf b hb).2.1, (hf b hb).2.2.2.2.1, (hf b hb).2.2.2.2.2⟩) (fun b o _ _ hc g _ => hk b o hc g) (fun b o _ _ hc g _ => ⟨o.slots, hk b o hc g⟩)
      (fun _ _ _ _ n => n) (fun b o hc g => ⟨o, hk b o hc g⟩) (fun _ _ g => g) (fun _ _ _ g => g) (fun b ps g => ⟨#[], by rw [g]; simp⟩)
      (fun m hm => by
        obtain ⟨o, es, ep, ho, r⟩ := hm
        exact ⟨o, es, ep, hk _ o (fun q => (hf _ q).2.1 rfl) ho, r⟩)
      (fun b u g => by
        have nb : ∀ c v, H c = some v → c ∉ [e, it] := fun c v g q => by
          have g' := (hf c q).1
          rw [g'] at g; cases g
        refine (I.hok b u g).stay (fun c v hcv q => hk c v ?_ q) (fun _ q => q) fun _ _ q => q
        rcases hcv with rfl | hcv
        · exact nb _ _ g
        · exact nb _ _ hcv) I.bare
  self := fun A i s Q E st h => by
    obtain ⟨⟨⟨old, he⟩, _⟩, _⟩ := st
    exact wpAny_pyIter_enum he h
def iEnumU (K : PySem.W.Frag) (ta : TA) : TI := fun σ H R => ta σ H fun vs H1 => ∃ a xs, vs = [.ref a] ∧ SqT K H1 a xs ∧ R (Ient K a xs.length) H1
theorem pi_enumU {X : Cx} {e : Expr} {ta : TA} {p pos tpos : Pos} {elts : List Expr} {kk : Nat} (hg : Gl X "enumerate") (hm : X.mg "enumerate" = none) (ha : PA X [e] ta) (hs : starEach [e] X.env = [(false, eval e X.env)] := by rfl) :
    PI X (.Tuple elts kk tpos) (.Call (.Name "enumerate" p) [e] [] pos) (iEnumU X.K ta) := by
  refine ⟨fun pins s σ H R I h => Call_ (ld_blt I hg hm boot_enumerate (PyProof.Rows.callWith_type1 (thn (ha.run pos pins s σ H _ I h) fun us s1 ⟨vs, H1, I1, r1, a, xs, ez, hq, q⟩ => ?_) hs rfl))⟩
  subst ez
  obtain ⟨u, rfl, r2⟩ := vals1 r1
  cases r2
  obtain ⟨its, rv, tup, hz⟩ := I1.tuple hq
  refine enumT tup fun h' he hit hk => wpAny_pyIter_enum he ?_
  refine ⟨s1.heap.objs.size + 1, [s1.heap.objs.size + 1, s1.heap.objs.size], _, _, H1, rfl, I1.kept (t' := s1.toks) hk, turn_ent (s1.heap.objs.size + 1) s1.heap.objs.size a xs.length, ⟨⟨⟨.none, he⟩, hit⟩, Nat.succ_ne_self _, Nat.zero_le _⟩, fun b hb => ?_, q⟩
  have hle : s1.heap.objs.size ≤ b := by
    rcases List.mem_cons.mp hb with rfl | hb
    · exact Nat.le_succ _
    · rw [List.mem_singleton.mp hb]
      exact Nat.le_refl _
  exact I1.fpOk hle (I1.hok.fresh hle)
theorem walk_ent {K : PySem.W.Frag} {a : Addr} {xs : List V} : Walk (Ient K a xs.length) xs.length (fun H => SqT K H a xs) (fun i H v H' => ∃ T x, v = .ref T ∧ H T = none ∧ xs[i]? = some x ∧ H' = upd H T (.tup [.int (i : Nat), x])) :=
  ⟨fun i _ hi g => ⟨hi, xs, g, rfl⟩, fun _ g => ⟨Nat.le_refl _, xs, g, rfl⟩, fun i H v H' _ g y => by
    obtain ⟨T, x, h1, h2, h3, h4⟩ := y
    exact ⟨T, x, h1, h2, h3 xs g, h4⟩⟩
end Gk
namespace Gk
open PySem PySem.Spec PyProof.Rows L2
/-- a pair (branch, outcome) -/
def pd (x : Int × Int) : PyData := .tuple [.int x.1, .int x.2]
def PairsAt (K : PySem.W.Frag) (H : Hp) (p : Addr) (l : List (Int × Int)) : Prop := Dp K H (.ref p) (.tuple (l.map pd))
theorem tups_pd : ∀ l : List (Int × Int), tupsAll (l.map pd) = true
  | [] => rfl
  | x :: l => by
    show (tups (pd x) && tupsAll (l.map pd)) = true
    rw [tups_pd l]
    rfl
theorem PairsAt.keep {K : PySem.W.Frag} {H H' : Hp} {p : Addr} {l : List (Int × Int)} (h : PairsAt K H p l) (k : Keep K H H') : PairsAt K H' p l :=
  Dp.keep k _ _ (by simpa only [tups] using tups_pd l) h
theorem pairs_keep {K : PySem.W.Frag} {H H' : Hp} {as : List V} {l : List (Int × Int)} (h : DpAll K H as (l.map pd)) (k : Keep K H H') : DpAll K H' as (l.map pd) := DpAll.keep k _ _ (tups_pd l) h
theorem keep_lst {K : PySem.W.Frag} {H : Hp} {D : Addr} {xs : List V} {o : HO} (h : H D = some (.lst xs)) : Keep K H (upd H D o) := by
  intro a ys g
  rcases g with (g | ⟨u, g⟩) | g
  · exact .inl (.inl (by rw [upd_ne (ne_of g h (fun q => HO.noConfusion q))]; exact g))
  · exact .inl (.inr ⟨u, by rw [upd_ne (ne_of g h (fun q => HO.noConfusion q))]; exact g⟩)
  · exact .inr g
/-- one pair more in the list at D -/
theorem pairs_snoc {K : PySem.W.Frag} {H : Hp} {D T : Addr} {as : List V} {l : List (Int × Int)} {x y : Int} {o : HO} (h : DpAll K H as (l.map pd)) (hD : H D = some (.lst as)) (nT : H T = none) :
    DpAll K (upd (upd H T (.tup [.int x, .int y])) D o) (as ++ [.ref T]) ((l ++ [(x, y)]).map pd) := by
  have nd : D ≠ T := ne_of_none hD nT
  have hD2 : (upd H T (.tup [.int x, .int y])) D = some (.lst as) := by rw [upd_ne nd]; exact hD
  have k := (Same.keep (K := K) (same_new (o := HO.tup [V.int x, V.int y]) nT)).trans (keep_lst (o := o) hD2)
  rw [List.map_append]
  refine DpAll.app (pairs_keep h k) (.cons (.tup (.inl (.inl ?_)) (.cons (.int x) (.cons (.int y) .nil))) .nil)
  rw [upd_ne nd.symm, upd_same]
theorem pair_at {K : PySem.W.Frag} {H : Hp} {v : V} {x : Int × Int} (h : Dp K H v (pd x)) : ∃ a, v = .ref a ∧ SqT K H a [.int x.1, .int x.2] := by
  cases h with
  | tup h1 h2 =>
    cases h2 with
    | cons a b =>
      cases a
      cases b with
      | cons c d =>
        cases c
        cases d
        exact ⟨_, rfl, h1⟩
theorem DpAll.set {K : PySem.W.Frag} {H : Hp} {v : V} {d : PyData} (hv : Dp K H v d) : ∀ {vs : List V} {ds : List PyData} (i : Nat), DpAll K H vs ds → DpAll K H (vs.set i v) (ds.set i d)
  | _, _, _, .nil => .nil
  | _, _, 0, .cons _ t => .cons hv t
  | _, _, i + 1, .cons h t => .cons h (DpAll.set hv i t)
theorem lc_len {K : PySem.W.Frag} {H : Hp} {as : List V} {l : List (Int × Int)} (h : DpAll K H as (l.map pd)) : as.length = l.length := by
  have := DpAll.len h
  rwa [List.length_map] at this
/-- branches and outcomes -/
def Fair (l : List (Int × Int)) : Prop := ∀ x ∈ l, (0 ≤ x.1 ∧ x.1 ≤ 7) ∧ (x.2 = 0 ∨ x.2 = 1)
theorem Fair.nil : Fair [] := fun _ h => (nomatch h)
theorem Fair.snoc {l : List (Int × Int)} {x y : Int} (h : Fair l) (a : 0 ≤ x) (b : x ≤ 7) (c : y = 0 ∨ y = 1) : Fair (l ++ [(x, y)]) := fun z hz => by
  rcases List.mem_append.mp hz with g | g
  · exact h z g
  · rw [List.mem_singleton.mp g]
    exact ⟨⟨a, b⟩, c⟩
theorem Fair.take {l : List (Int × Int)} (h : Fair l) (n : Nat) : Fair (l.take n) := fun x hx => h x (List.mem_of_mem_take hx)
theorem tame_pd : ∀ {l : List (Int × Int)}, Fair l → tameAll (l.map pd) = true
  | [], _ => rfl
  | x :: l, h => by
    have h1 := h x List.mem_cons_self
    show (tame (pd x) && tameAll (l.map pd)) = true
    rw [tame_pd fun z hz => h z (List.mem_cons_of_mem _ hz), Bool.and_true]
    simp only [pd, tame, tameAll, Bool.and_true, Bool.and_eq_true, decide_eq_true_eq]
    omega
theorem cost_pd : ∀ l : List (Int × Int), costAll (l.map pd) = 1 + 144 * l.length
  | [] => rfl
  | x :: l => by
    show cost (pd x) + 1 + costAll (l.map pd) = _
    rw [cost_pd l, List.length_cons]
    simp only [pd, cost, costAll]
    omega
theorem depth_pd : ∀ l : List (Int × Int), PyData.depthAll (l.map pd) ≤ 1
  | [] => by decide
  | x :: l => by
    show max (PyData.depth (pd x)) (PyData.depthAll (l.map pd)) ≤ 1
    have h := depth_pd l
    have h2 : PyData.depth (pd x) = 1 := by simp [pd, PyData.depth, PyData.depthAll]
    omega
end Gk
namespace Gk
open PySem PySem.Spec PyProof.Rows L2
/-! ### data whose equality is being the same -/
mutual
def exa : PyData → Bool
  | .none | .int _ | .str _ => true
  | .list xs | .tuple xs => exaAll xs
  | .bool _ | .dict _ => false
def exaAll : List PyData → Bool
  | [] => true
  | x :: xs => exa x && exaAll xs
end
mutual
theorem eqv_exa : ∀ d e : PyData, exa d = true → exa e = true → PyData.eqv d e = true → d = e
  | .none, .none, _, _, _ => rfl
  | .int i, .int j, _, _, h => by
    simp only [PyData.eqv, beq_iff_eq] at h
    rw [h]
  | .str x, .str y, _, _, h => by
    simp only [PyData.eqv, beq_iff_eq] at h
    rw [h]
  | .list xs, .list ys, a, b, h => by
    simp only [PyData.eqv] at h
    rw [eqv_exaAll xs ys (by simpa only [exa] using a) (by simpa only [exa] using b) h]
  | .tuple xs, .tuple ys, a, b, h => by
    simp only [PyData.eqv] at h
    rw [eqv_exaAll xs ys (by simpa only [exa] using a) (by simpa only [exa] using b) h]
  | .none, .int _, _, _, h | .none, .str _, _, _, h | .none, .list _, _, _, h | .none, .tuple _, _, _, h => by simp [PyData.eqv] at h
  | .int _, .none, _, _, h | .int _, .str _, _, _, h | .int _, .list _, _, _, h | .int _, .tuple _, _, _, h => by simp [PyData.eqv] at h
  | .str _, .none, _, _, h | .str _, .int _, _, _, h | .str _, .list _, _, _, h | .str _, .tuple _, _, _, h => by simp [PyData.eqv] at h
  | .list _, .none, _, _, h | .list _, .int _, _, _, h | .list _, .str _, _, _, h | .list _, .tuple _, _, _, h => by simp [PyData.eqv] at h
  | .tuple _, .none, _, _, h | .tuple _, .int _, _, _, h | .tuple _, .str _, _, _, h | .tuple _, .list _, _, _, h => by simp [PyData.eqv] at h
  | .bool _, _, a, _, _ | .dict _, _, a, _, _ => by simp [exa] at a
  | .none, .bool _, _, b, _ | .none, .dict _, _, b, _ | .int _, .bool _, _, b, _ | .int _, .dict _, _, b, _ | .str _, .bool _, _, b, _ | .str _, .dict _, _, b, _ => by simp [exa] at b
  | .list _, .bool _, _, b, _ | .list _, .dict _, _, b, _ | .tuple _, .bool _, _, b, _ | .tuple _, .dict _, _, b, _ => by simp [exa] at b
theorem eqv_exaAll : ∀ xs ys : List PyData, exaAll xs = true → exaAll ys = true → PyData.eqvAll xs ys = true → xs = ys
  | [], [], _, _, _ => rfl
  | x :: xs, y :: ys, a, b, h => by
    simp only [exaAll, Bool.and_eq_true] at a b
    simp only [PyData.eqvAll, Bool.and_eq_true] at h
    rw [eqv_exa x y a.1 b.1 h.1, eqv_exaAll xs ys a.2 b.2 h.2]
  | [], _ :: _, _, _, h => by simp [PyData.eqvAll] at h
  | _ :: _, [], _, _, h => by simp [PyData.eqvAll] at h
end
theorem eqv_same {d : PyData} (h : tame d = true) : PyData.eqv d d = true := SeqAt.eqv_refl d (tame_lay d h)
/-- an item of a row or of a loop -/
structure Item (d : PyData) : Prop where
  e : exa d = true
  t : tups d = true
  m : tame d = true
  dp : d.depth ≤ 1
  c : cost d ≤ 143
def Plain (ds : List PyData) : Prop := ∀ d ∈ ds, Item d
theorem Plain.exa : ∀ {ds : List PyData}, Plain ds → exaAll ds = true
  | [], _ => rfl
  | x :: xs, h => by
    simp only [exaAll, (h x List.mem_cons_self).e, Plain.exa fun z hz => h z (List.mem_cons_of_mem _ hz), Bool.and_self]
theorem Plain.tups : ∀ {ds : List PyData}, Plain ds → tupsAll ds = true
  | [], _ => rfl
  | x :: xs, h => by
    simp only [tupsAll, (h x List.mem_cons_self).t, Plain.tups fun z hz => h z (List.mem_cons_of_mem _ hz), Bool.and_self]
theorem Plain.tame : ∀ {ds : List PyData}, Plain ds → tameAll ds = true
  | [], _ => rfl
  | x :: xs, h => by
    simp only [tameAll, (h x List.mem_cons_self).m, Plain.tame fun z hz => h z (List.mem_cons_of_mem _ hz), Bool.and_self]
theorem Plain.depth : ∀ {ds : List PyData}, Plain ds → PyData.depthAll ds ≤ 1
  | [], _ => Nat.zero_le _
  | x :: xs, h => by
    have h1 := (h x List.mem_cons_self).dp
    have h2 := Plain.depth fun z hz => h z (List.mem_cons_of_mem _ hz)
    simp only [PyData.depthAll]
    omega
theorem Plain.cost : ∀ {ds : List PyData}, Plain ds → costAll ds ≤ 1 + 144 * ds.length
  | [], _ => by decide
  | x :: xs, h => by
    have h1 := (h x List.mem_cons_self).c
    have h2 := Plain.cost fun z hz => h z (List.mem_cons_of_mem _ hz)
    simp only [costAll, List.length_cons]
    omega
theorem Plain.sub {ds es : List PyData} (h : Plain ds) (s : ∀ d ∈ es, d ∈ ds) : Plain es := fun d hd => h d (s d hd)
theorem Plain.take {ds : List PyData} (h : Plain ds) (n : Nat) : Plain (ds.take n) := h.sub fun _ g => List.mem_of_mem_take g
theorem Plain.drop {ds : List PyData} (h : Plain ds) (n : Nat) : Plain (ds.drop n) := h.sub fun _ g => List.mem_of_mem_drop g
theorem Plain.app {ds es : List PyData} (h : Plain ds) (g : Plain es) : Plain (ds ++ es) := fun d hd => (List.mem_append.mp hd).elim (h d) (g d)
theorem Plain.rep {ds : List PyData} (h : Plain ds) (n : Nat) : Plain (List.replicate n ds).flatten := fun x hx => by
  obtain ⟨m, hm, hx⟩ := List.mem_flatten.mp hx
  rw [(List.mem_replicate.mp hm).2] at hx
  exact h x hx
theorem plain_pd {l : List (Int × Int)} (h : Fair l) : Plain (l.map pd) := fun d hd => by
  obtain ⟨x, hx, rfl⟩ := List.mem_map.mp hd
  have g := h x hx
  refine ⟨rfl, rfl, ?_, by simp [pd, PyData.depth, PyData.depthAll], by simp only [pd, Gk.cost, costAll]; omega⟩
  simp only [pd, Gk.tame, tameAll, Bool.and_true, Bool.and_eq_true, decide_eq_true_eq]
  omega
theorem plain_bits {l : List Int} (h : ∀ o ∈ l, o = 0 ∨ o = 1) : Plain (l.map PyData.int) := fun d hd => by
  obtain ⟨x, hx, rfl⟩ := List.mem_map.mp hd
  have g := h x hx
  refine ⟨rfl, rfl, ?_, by simp [PyData.depth], by simp only [Gk.cost]; omega⟩
  simp only [Gk.tame, decide_eq_true_eq]
  omega
theorem Plain.fine {ds : List PyData} (h : Plain ds) (hl : ds.length ≤ 1000) : Fine (.tuple ds) := by
  have h1 := h.depth
  have h2 := h.cost
  refine Fine.tame (by simpa only [Gk.tame] using h.tame) ?_ ?_
  · simp only [PyData.depth]
    omega
  · simp only [Gk.cost]
    omega
theorem Plain.shaped {ds : List PyData} (h : Plain ds) : SeqAt.shaped (.tuple ds) = true := by
  have h1 := h.depth
  refine tame_shaped (by simpa only [Gk.tame] using h.tame) ?_
  simp only [PyData.depth]
  omega
def ItsAt (K : PySem.W.Frag) (H : Hp) (p : Addr) (ds : List PyData) : Prop := Dp K H (.ref p) (.tuple ds)
theorem ItsAt.keep {K : PySem.W.Frag} {H H' : Hp} {p : Addr} {ds : List PyData} (h : ItsAt K H p ds) (hp : Plain ds) (k : Keep K H H') : ItsAt K H' p ds :=
  Dp.keep k _ _ (by simpa only [Gk.tups] using hp.tups) h
theorem ItsAt.out {K : PySem.W.Frag} {H : Hp} {p : Addr} {ds : List PyData} (h : ItsAt K H p ds) : ∃ xs, SqT K H p xs ∧ DpAll K H xs ds ∧ xs.length = ds.length := by
  cases h with
  | tup a b => exact ⟨_, a, b, DpAll.len b⟩
theorem plain_eq {ds es : List PyData} (h : Plain ds) (g : Plain es) : PyData.eqv (.tuple ds) (.tuple es) = true ↔ ds = es :=
  ⟨fun e => PyData.tuple.inj (eqv_exa _ _ (by simpa only [Gk.exa] using h.exa) (by simpa only [Gk.exa] using g.exa) e), fun e => by
    rw [e]
    exact eqv_same (by simpa only [Gk.tame] using g.tame)⟩

/-! ### roots -/
def Rep {α : Type} (l : List α) (s : Nat) : Prop := (List.replicate (l.length / s) (l.take s)).flatten = l
structure RootIs {α : Type} (l : List α) (s : Nat) : Prop where
  lo : 1 ≤ s
  hi : s ≤ l.length
  rep : Rep l s
  least : ∀ t, 1 ≤ t → t < s → ¬ Rep l t
theorem flat_len {α : Type} (n : Nat) (l : List α) : ((List.replicate n l).flatten).length = n * l.length := by
  induction n with
  | zero => simp
  | succ n ih => rw [List.replicate_succ, List.flatten_cons, List.length_append, ih, Nat.succ_mul, Nat.add_comm]
theorem Rep.many {α : Type} {l : List α} {s : Nat} (h : Rep l s) (hs : s ≤ l.length) : s * (l.length / s) = l.length := by
  have e := congrArg List.length h
  rw [flat_len, List.length_take, Nat.min_eq_left hs, Nat.mul_comm] at e
  exact e
theorem RootIs.one {α : Type} {l : List α} {s t : Nat} (a : RootIs l s) (b : RootIs l t) : s = t := by
  by_cases h : s < t
  · exact absurd a.rep (b.least s a.lo h)
  · by_cases g : t < s
    · exact absurd b.rep (a.least t b.lo g)
    · omega
theorem rep_all {α : Type} {l : List α} (h : 1 ≤ l.length) : Rep l l.length := by
  unfold Rep
  rw [Nat.div_self h, List.take_length]
  show [l].flatten = l
  simp
theorem flat_mul {α : Type} (x : List α) (k : Nat) : ∀ m : Nat, (List.replicate m (List.replicate k x).flatten).flatten = (List.replicate (m * k) x).flatten
  | 0 => by simp
  | m + 1 => by
    rw [List.replicate_succ, List.flatten_cons, flat_mul x k m, Nat.succ_mul, Nat.add_comm (m * k) k, ← List.replicate_append_replicate, List.flatten_append]
theorem root_again {α : Type} {l : List α} {s t : Nat} (a : RootIs l s) (b : RootIs (l.take s) t) : t = s := by
  have hl : (l.take s).length = s := by rw [List.length_take]; exact Nat.min_eq_left a.hi
  have ht : t ≤ s := by have := b.hi; rwa [hl] at this
  by_cases h : t < s
  · refine absurd ?_ (a.least t b.lo h)
    have r1 := a.rep
    have r2 := b.rep
    have m1 := Rep.many a.rep a.hi
    have m2 := Rep.many b.rep b.hi
    rw [hl] at m2
    unfold Rep at r1 r2 ⊢
    rw [hl] at r2
    have e1 : l.length / t = l.length / s * (s / t) := by
      have : l.length = t * (l.length / s * (s / t)) := by
        have h2 : t * (s / t) * (l.length / s) = l.length := by
          rw [m2]
          exact m1
        rw [Nat.mul_comm (l.length / s) (s / t), ← Nat.mul_assoc]
        exact h2.symm
      exact Nat.div_eq_of_eq_mul_right b.lo this
    have e2 : (l.take s).take t = l.take t := by rw [List.take_take, Nat.min_eq_left ht]
    rw [e2] at r2
    rw [e1, ← flat_mul, r2, r1]
  · omega
/-! ### turned -/
def rot {α : Type} (l : List α) (k : Nat) : List α := l.drop k ++ l.take k
theorem rot_len {α : Type} (l : List α) (k : Nat) : (rot l k).length = l.length := by
  unfold rot
  rw [List.length_append, List.length_drop, List.length_take]
  omega
theorem rot_at {α : Type} {l : List α} {k i : Nat} (hk : k < l.length) (hi : i < l.length) : (rot l k)[i]? = l[(i + k) % l.length]? := by
  unfold rot
  by_cases h : i < l.length - k
  · rw [List.getElem?_append_left (by rw [List.length_drop]; exact h), List.getElem?_drop, Nat.mod_eq_of_lt (by omega), Nat.add_comm]
  · rw [List.getElem?_append_right (by rw [List.length_drop]; omega), List.length_drop, List.getElem?_take_of_lt (by omega)]
    have : (i + k) % l.length = i - (l.length - k) := by
      rw [Nat.mod_eq_sub_mod (by omega), Nat.mod_eq_of_lt (by omega)]
      omega
    rw [this]
theorem rot_back {α : Type} {l : List α} {j k : Nat} (hk : k < l.length) (h : (j = 0 ∧ k = 0) ∨ j + k = l.length) : rot (rot l k) j = l := by
  rcases h with ⟨rfl, rfl⟩ | h
  · unfold rot
    simp
  · have hj : (l.drop k).length = j := by rw [List.length_drop]; omega
    show (rot l k).drop j ++ (rot l k).take j = l
    unfold rot
    rw [← hj, List.drop_left, List.take_left, List.take_append_drop]
/-! ### rules whose written part is named -/
def rLen2 (K : PySem.W.Frag) : List V → Hp → VK → Prop := fun xs H Q => ∃ p ys, xs = [.ref p] ∧ (SqL K H p ys ∨ SqT K H p ys) ∧ Q (.int ys.length) H
theorem call_lenK {X : Cx} (K : PySem.W.Frag) (h : X.K = K := by rfl) : CallR X (.builtin "len") (rLen2 K) := by
  subst h
  exact call_len_seq
theorem ix_tupK {X : Cx} (K : PySem.W.Frag) (h : X.K = K := by rfl) : IxR X (rIxT K) := by
  subst h
  exact ix_tup
theorem ix_listK {X : Cx} (K : PySem.W.Frag) (h : X.K = K := by rfl) : IxR X (rIxL K) := by
  subst h
  exact ix_list
end Gk
namespace Pf
open PySem PySem.Spec PyProof.Rows L2 Gk
def topS (i : Nat) : Stmt := PySem.Challenge.pw_pastenough_k25_maps_of_values.main.body.getD i (.Pass ⟨0, 0, 0, 0⟩)
abbrev sTake : Stmt := topS 9
abbrev sOf : Stmt := topS 10
abbrev sBox : Stmt := topS 8
theorem scOf : FnScope ["_law_box_here", "_law_some"] ["_law_box_here", "_law_some"] (defScope sOf) := ⟨rfl, rfl, rfl, by decide +kernel, rfl, by decide +kernel, by decide +kernel⟩
theorem scBox : FnScope ["_law_script", "_law_k", "_law_digits", "_law_own"] ["_law_script", "_law_k"] (defScope sBox) := ⟨rfl, rfl, rfl, by decide +kernel, rfl, by decide +kernel, by decide +kernel⟩
theorem scTake : FnScope ["_law_box_here", "_law_many", "_law_digit", "_law_drawn"] ["_law_box_here", "_law_many"] (defScope sTake) := ⟨rfl, rfl, rfl, by decide +kernel, rfl, by decide +kernel, by decide +kernel⟩
def spTake : Sp := fun vs H Q _ => ∃ (b : Addr) (n : Int) (m : Nat), vs = [.ref b, .int n] ∧ 0 < n ∧ n < 1073741824 ∧ Box m H b ∧ m < 1000000000 ∧
  ∀ (d : Int) (H' : Hp), 0 ≤ d → d < n → But b H H' → Box (m + 1) H' b → (∀ p, p ≠ b → H' p = H p) → Q (.int d) H'

section
variable {P : Program} {w : World} {K : PySem.W.Frag} {mg : Str → Option Value} {base : Heap}
theorem ok_take {f : Addr} {fd : FuncData} {k : Nat} (F : L2.Fun K "_law_take" "_law_take" sTake f fd) : FnOk P w K mg base L2.CX0 (k + 1) f fd ["_law_box_here", "_law_many"] spTake := by
  refine F.ok scTake (fun vs H Q E h => ?_) (fun cdv A outer s H vs Q E hr h => ?_)
  · obtain ⟨b, n, m, rfl, _⟩ := h
    rfl
  · obtain ⟨b, n, m, rfl, n0, n1, ⟨x, y, z, hb, z0, z1⟩, hm, q⟩ := h
    refine ⟨_, pss_cons (ps_if (pt_cmpR op_gt (pe_ix ix_list (pv 0) pe_int (fun _ _ => rfl)) pe_int (nomark _))
        (pss_cons (ps_set (i := 2) scTake.nd rfl (.inl rfl) (pe_op op_mod (pe_ix ix_list (pv 0) pe_int (fun _ _ => rfl)) (pv 1)))
        (pss_cons (ps_asg (pe_op op_fdiv (pe_ix ix_list (pv 0) pe_int (fun _ _ => rfl)) (pv 1)) (pg_sub (pv 0) pe_int set_list))
        (pss_one (ps_ret (pv 2))))) pss_nil)
      (pss_cons (ps_asg (pe_op op_add (pe_ix ix_list (pv 0) pe_int (fun _ _ => rfl)) pe_int) (pg_sub (pv 0) pe_int set_list))
      (pss_cons (ps_set (i := 3) scTake.nd rfl (.inl rfl) (pe_op op_mod (pe_op op_mul (pe_op op_add (pe_op op_add (pe_ix ix_list (pv 0) pe_int (fun _ _ => rfl))
          (pe_op op_mul (pe_op op_mul pe_int (pe_ix ix_list (pv 0) pe_int (fun _ _ => rfl))) (pe_ix ix_list (pv 0) pe_int (fun _ _ => rfl)))) pe_int) pe_int) pe_int))
      (pss_cons (ps_set (i := 3) scTake.nd rfl (.inl rfl) (pe_op op_mod (pe_op op_mul (pv 3) (pe_op op_add (pe_op op_mod (pv 3) pe_int) (pe_op op_mul pe_int (pe_ix ix_list (pv 0) pe_int (fun _ _ => rfl))))) pe_int))
      (pss_one (ps_ret (pe_op op_mod (pe_op op_add (pe_op op_fdiv (pv 3) pe_int) (pe_op op_fdiv (pv 3) pe_int)) (pv 1))))))), ?_⟩
    refine ⟨.ref b, rfl, b, _, 0, .int x, rfl, rfl, SqL.of hb, rfl, x, 0, rfl, rfl, _, rfl, ite2 (fun e => ?_) (fun e => ?_)⟩
    · refine ⟨.ref b, rfl, b, _, 0, .int x, rfl, rfl, SqL.of hb, rfl, .int n, rfl, x, n, rfl, rfl, n0, ?_⟩
      refine ⟨.ref b, rfl, b, _, 0, .int x, rfl, rfl, SqL.of hb, rfl, .int n, rfl, x, n, rfl, rfl, ⟨n0, n1⟩, ?_⟩
      refine ⟨.ref b, rfl, b, _, _, 0, rfl, rfl, hb, rfl, ?_⟩
      refine ⟨.int (x % n), rfl, q _ _ (Int.emod_nonneg _ (by omega)) (Int.emod_lt_of_pos _ n0) But.set ⟨_, _, _, upd_same, z0, by omega⟩ fun p hp => upd_ne hp⟩
    · have hz : (z + 1 : Int) < 2 ^ 64 := by omega
      refine ⟨.ref b, rfl, b, _, 2, .int z, rfl, rfl, SqL.of hb, rfl, z, 1, rfl, rfl, ?_⟩
      refine ⟨.ref b, rfl, b, _, _, 2, rfl, rfl, hb, rfl, ?_⟩
      have h1 : upd H b (.lst [.int x, .int y, .int (z + 1)]) b = some (.lst [.int x, .int y, .int (z + 1)]) := upd_same
      refine ⟨.ref b, rfl, b, _, 1, .int y, rfl, rfl, SqL.of h1, rfl, .ref b, rfl, b, _, 2, .int (z + 1), rfl, rfl, SqL.of h1, rfl, _, _, rfl, rfl, .inl ⟨by decide, by decide⟩,
        .ref b, rfl, b, _, 2, .int (z + 1), rfl, rfl, SqL.of h1, rfl, _, _, rfl, rfl, .inr ⟨by omega, hz⟩, _, _, rfl, rfl, _, _, rfl, rfl, _, _, rfl, rfl, .inr ⟨by decide, by decide⟩, _, _, rfl, rfl, by show (0 : Int) < 2305843009213693921; decide, ?_⟩
      refine ⟨_, rfl, _, rfl, _, _, rfl, rfl, by show (0 : Int) < 1000033; decide, .ref b, rfl, b, _, 2, .int (z + 1), rfl, rfl, SqL.of h1, rfl, _, _, rfl, rfl, .inl ⟨by decide, by decide⟩, _, _, rfl, rfl, _, _, rfl, rfl,
        .inl ⟨Int.lt_of_lt_of_le (by decide) (Int.emod_nonneg _ (by decide)), Int.lt_trans (Int.emod_lt_of_pos _ (by decide)) (by decide)⟩, _, _, rfl, rfl, by show (0 : Int) < 2305843009213693907; decide, ?_⟩
      refine ⟨_, rfl, _, _, rfl, rfl, ⟨by decide, by decide⟩, _, rfl, _, _, rfl, rfl, ⟨by decide, by decide⟩, _, _, rfl, rfl, .int n, rfl, _, n, rfl, rfl, n0, ?_⟩
      exact q _ _ (Int.emod_nonneg _ (by omega)) (Int.emod_lt_of_pos _ n0) But.set ⟨_, _, _, h1, by omega, by omega⟩ fun p hp => upd_ne hp
def spOf (K : PySem.W.Frag) : Sp := fun vs H Q _ => ∃ (b a : Addr) (xs : List V) (m : Nat), vs = [.ref b, .ref a] ∧ SqL K H a xs ∧ a ≠ b ∧ 0 < xs.length ∧ xs.length ≤ 1000 ∧ Box m H b ∧ m < 1000000000 ∧
  ∀ (i : Nat) (v : V) (H' : Hp), xs[i]? = some v → But b H H' → Box (m + 1) H' b → (∀ p, p ≠ b → H' p = H p) → Q v H'
theorem ok_of {f : Addr} {fd : FuncData} {k : Nat} (D : Dfn P w K mg base k "_law_take" ["_law_box_here", "_law_many"] spTake) (ml : mg "len" = none)
    (F : L2.Fun K "_law_of" "_law_of" sOf f fd) : FnOk P w K mg base L2.CX0 (k + 1) f fd ["_law_box_here", "_law_some"] (spOf K) := by
  refine F.ok scOf (fun vs H Q E h => ?_) (fun cdv A outer s H vs Q E hr h => ?_)
  · obtain ⟨b, a, xs, m, rfl, _⟩ := h
    rfl
  · obtain ⟨b, a, xs, m, rfl, hS, hne, hl, hl2, hb, hm, q⟩ := h
    refine ⟨_, pss_one (ps_ret (pe_ix ix_list (pv 1) (pe_d D hr (Nat.le_refl _) (by rfl) (pa_cons (pv 0) (pa_cons (pe_callB call_len_seq (by rfl) ml PySem.boot_len (pa_cons (pv 1) pa_nil)) pa_nil))) (fun _ _ => rfl))), ?_⟩
    refine ⟨.ref a, rfl, .ref b, rfl, .ref a, rfl, a, xs, rfl, .inl hS, b, _, m, rfl, by omega, by omega, hb, hm, fun d H' d0 d1 bt bx same => ?_⟩
    have hi : d.toNat < xs.length := by omega
    have g : xs[d.toNat]? = some xs[d.toNat] := List.getElem?_eq_getElem hi
    have ga : atI xs d = some xs[d.toNat] := by
      have := atI_nat g
      rwa [Int.toNat_of_nonneg d0] at this
    exact ⟨a, xs, d, _, rfl, rfl, bt.seqL hne hS, ga, q _ _ H' g bt bx same⟩
def spBox (K : PySem.W.Frag) : Sp := fun vs H Q _ => ∃ (a : Addr) (ns : List Int) (k : Int), vs = [.ref a, .int k] ∧ SqL K H a (ns.map V.int) ∧ ns.length ≤ 63 ∧ 0 ≤ k ∧ k ≤ 1000 ∧
  ∀ p x y, H p = none → Q (.ref p) (upd H p (.lst [.int x, .int y, .int 0]))
theorem flag_small (c : Bool) : -(2 ^ 64) < (if c = true then (1 : Int) else 0) ∧ (if c = true then (1 : Int) else 0) < 2 ^ 64 := by cases c <;> decide
theorem bits60 : CBigPow 10 60 := ⟨by decide, by decide +kernel⟩
theorem bits300 : CBigPow (10 ^ (60 : Int).toNat) 5 := ⟨by decide, by decide +kernel⟩
theorem ok_box {f : Addr} {fd : FuncData} (ml : mg "len" = none) (ma : mg "abs" = none) (mi : mg "int" = none)
    (F : L2.Fun K "_law_box" "_law_box" sBox f fd) : FnOk P w K mg base L2.CX0 1 f fd ["_law_script", "_law_k"] (spBox K) := by
  refine F.ok scBox (fun vs H Q E h => ?_) (fun cdv A outer s H vs Q E hr h => ?_)
  · obtain ⟨a, ns, k, rfl, _⟩ := h
    rfl
  · obtain ⟨a, ns, k, rfl, hS, hl, k0, k1, q⟩ := h
    refine ⟨_, C8.pss_cut (ps_set (i := 2) scBox.nd rfl (.inl rfl) (pe_ifExp (pt_cmpR op_lt (pv 1) (pe_callB call_len_seq (by rfl) ml PySem.boot_len (pa_cons (pv 0) pa_nil)) (nomark _))
        (pe_ix ix_list (pv 0) (pv 1) (fun _ _ => rfl)) (pe_op op_add (pe_op op_mul pe_int (pv 1)) pe_int)))
      (pss_cons (ps_set (i := 3) scBox.nd rfl (.inl rfl) (pe_op op_mul (pe_op op_mod (pe_callB call_abs (by rfl) ma (by decide +kernel) (pa_cons (pv 2) pa_nil)) (pe_op op_bigpow (pe_op op_bigpow pe_int pe_int) pe_int))
          (pe_callTy call_int1 (by rfl) mi (by decide +kernel) (pa_cons (pe_cmpR op_ge (pe_callB call_abs (by rfl) ma (by decide +kernel) (pa_cons (pv 2) pa_nil)) (pe_op op_bigpow pe_int pe_int) (nomark _)) pa_nil))))
      (pss_one (ps_ret (pe_lst (pa_cons (pv 3) (pa_cons (pe_op op_mod (pe_op op_add (pe_op op_add (pe_op op_mul (pe_op op_mod (pv 2) pe_int) pe_int) (pe_op op_mul (pe_op op_mul pe_int (pv 1)) (pv 1))) pe_int) pe_int) (pa_cons pe_int pa_nil))))))), ?_⟩
    refine ⟨fun σ H' => H' = H ∧ ∃ d : Int, σ = [some (.ref a), some (.int k), some (.int d), none], ?_, fun σ' H' hM => ?_⟩
    · refine ⟨.int k, rfl, .ref a, rfl, a, _, rfl, .inl hS, _, _, rfl, rfl, _, rfl, ite2 (fun e => ?_) (fun e => ?_)⟩
      · have hk : k < (ns.map V.int).length := of_decide_eq_true e
        rw [List.length_map] at hk
        have g : (ns.map V.int)[k.toNat]? = some (.int ns[k.toNat]) := by
          rw [List.getElem?_map, List.getElem?_eq_getElem (by omega)]; rfl
        have ga := atI_nat g
        rw [Int.toNat_of_nonneg k0] at ga
        exact ⟨.ref a, rfl, .int k, rfl, a, _, k, _, rfl, rfl, hS, ga, rfl, _, rfl⟩
      · exact ⟨.int k, rfl, _, _, rfl, rfl, .inl ⟨by decide, by decide⟩, _, _, rfl, rfl, rfl, _, rfl⟩
    · obtain ⟨rfl, d, rfl⟩ := hM
      refine ⟨.int d, rfl, d, rfl, _, _, rfl, rfl, bits60, _, _, rfl, rfl, bits300, _, _, rfl, rfl, by show (0 : Int) < (10 ^ (60 : Int).toNat) ^ (5 : Int).toNat; decide +kernel, ?_⟩
      refine ⟨.int d, rfl, d, rfl, _, _, rfl, rfl, ⟨by decide, by decide +kernel⟩, _, _, rfl, rfl, .inr ⟨_, rfl, _, _, rfl, rfl, .inr ?_, ?_⟩⟩
      · exact flag_small _
      · refine ⟨_, rfl, .int d, rfl, _, _, rfl, rfl, by show (0 : Int) < 2305843009213693951; decide, _, _, rfl, rfl, .inr ⟨by decide, by decide⟩, .int k, rfl, _, _, rfl, rfl, .inl ⟨by decide, by decide⟩, .int k, rfl, _, _, rfl, rfl, .inr ⟨by omega, by omega⟩,
          _, _, rfl, rfl, _, _, rfl, rfl, _, _, rfl, rfl, by show (0 : Int) < 2305843009213693921; decide, by show 3 ≤ sizeLine; decide, fun p hp => q p _ _ hp⟩
end
end Pf
namespace Pf
open PySem PySem.Spec PyProof.Rows L2 Gk
abbrev sRow : Stmt := topS 11
abbrev nRow : List Str := ["_law_box_here", "_law_most", "_law_size", "_law_kind", "_law_piece", "_law_found", "_law_is_kept", "_law_turn"]
theorem scRow : FnScope nRow ["_law_box_here", "_law_most"] (defScope sRow) := ⟨rfl, rfl, rfl, by decide +kernel, rfl, by decide +kernel, by decide +kernel⟩
/-- outcomes -/
def Bits (l : List Int) : Prop := ∀ o ∈ l, o = 0 ∨ o = 1
theorem Bits.nil : Bits [] := fun _ h => (nomatch h)
theorem Bits.snoc {l : List Int} {o : Int} (h : Bits l) (h0 : 0 ≤ o) (h1 : o < 2) : Bits (l ++ [o]) := fun x hx => by
  rcases List.mem_append.mp hx with g | g
  · exact h x g
  · rw [List.mem_singleton.mp g]
    omega
theorem Bits.rep {l : List Int} (h : Bits l) (n : Nat) : Bits (List.replicate n l).flatten := fun x hx => by
  obtain ⟨m, hm, hx⟩ := List.mem_flatten.mp hx
  rw [(List.mem_replicate.mp hm).2] at hx
  exact h x hx
theorem Bits.take {l : List Int} (h : Bits l) (n : Nat) : Bits (l.take n) := fun x hx => h x (List.mem_of_mem_take hx)
theorem rep_map (n : Nat) (l : List Int) : (List.replicate n (l.map V.int)).flatten = ((List.replicate n l).flatten).map V.int := by
  induction n with
  | zero => rfl
  | succ n ih => rw [List.replicate_succ, List.replicate_succ, List.flatten_cons, List.flatten_cons, List.map_append, ih]
theorem rep_len (n : Nat) (l : List Int) : ((List.replicate n l).flatten).length = n * l.length := by
  induction n with
  | zero => simp
  | succ n ih => rw [List.replicate_succ, List.flatten_cons, List.length_append, ih, Nat.succ_mul, Nat.add_comm]
theorem last_some {l : List Int} (h : 0 < l.length) : ∃ o, o ∈ l ∧ atI (l.map V.int) (-1) = some (V.int o) := by
  have e : l ≠ [] := fun z => by rw [z] at h; exact absurd h (Nat.lt_irrefl 0)
  refine ⟨l.getLast e, List.getLast_mem e, ?_⟩
  have g : l.map V.int = (l.dropLast.map V.int) ++ [V.int (l.getLast e)] := by
    rw [← List.map_singleton, ← List.map_append, List.dropLast_concat_getLast]
  rw [g]
  exact atI_last _ _
theorem but_local {b D : Addr} {H H1 H2 : Hp} (nD : H D = none) (h : But b H H1) (g : ∀ a o, a ≠ b → a ≠ D → H1 a = some o → H2 a = some o) : But b H H2 := fun a o n e => g a o n (fun z => by rw [z, nD] at e; cases e) (h a o n e)
section
variable {P : Program} {w : World} {K : PySem.W.Frag} {mg : Str → Option Value} {base : Heap}
def spRow (K : PySem.W.Frag) : Sp := fun vs H Q _ => ∃ (b : Addr) (most : Int) (m : Nat), vs = [.ref b, .int most] ∧ 1 ≤ most ∧ most ≤ 64 ∧ Box m H b ∧ m ≤ 1000000 ∧
  ∀ H' p l, But b H H' → Box (m + 150) H' b → SqT K H' p (l.map V.int) → 1 ≤ l.length → (l.length : Int) ≤ most → Bits l → Q (.ref p) H'
theorem ok_row {f : Addr} {fd : FuncData} (DT : Dfn P w K mg base 1 "_law_take" ["_law_box_here", "_law_many"] spTake) (mr : mg "range" = none) (mn : mg "min" = none) (mt : mg "tuple" = none) (ml : mg "len" = none)
    (F : L2.Fun K "_law_row" "_law_row" sRow f fd) : FnOk P w K mg base L2.CX0 2 f fd ["_law_box_here", "_law_most"] (spRow K) := by
  refine F.ok scRow (fun vs H Q E h => ?_) (fun cdv A outer s H vs Q E hr h => ?_)
  · obtain ⟨b, most, m, rfl, _⟩ := h
    rfl
  · obtain ⟨b, most, m, rfl, m1, m2, hb, hm, q⟩ := h
    refine ⟨_, C8.pss_cut (ps_par (i := 2) (j := 3) (by rfl) scRow.nd rfl rfl (by decide) rfl rfl (pa_cons (pe_op op_add pe_int (pe_d DT hr (by decide) (by rfl) (pa_cons (pv 0) (pa_cons (pv 1) pa_nil)))) (pa_cons (pe_d DT hr (by decide) (by rfl) (pa_cons (pv 0) (pa_cons pe_int pa_nil))) pa_nil)) (by rfl))
      (pss_cons (ps_if (pt_cmpR op_eq (pv 3) pe_int (nomark _))
        (pss_one (ps_ret (pe_op op_catU (pe_op op_repU (pe_tup (pa_cons pe_int pa_nil)) (pe_op op_sub (pv 2) pe_int)) (pe_tup (pa_cons pe_int pa_nil))))) pss_nil)
      (pss_cons (ps_if (pt_cmpR op_eq (pv 3) pe_int (nomark _))
        (pss_cons (ps_setLc (i := 4) (own := [("_law_turn", 7)]) (g := gName 7) (by rfl) scRow.nd rfl rfl (sw_true rfl rfl rfl (by decide +kernel)) (pi_range1 rfl mr (pa_cons (pe_op op_add pe_int (pe_d DT hr (by decide) (by rfl) (pa_cons (pv 0) (pa_cons (pe_callB (call_min2 rfl) (by rfl) mn (by decide +kernel) (pa_cons (pv 2) (pa_cons pe_int pa_nil))) pa_nil)))) pa_nil))
            (blkOk_by (N := nRow) (sc := defScope sRow) (by decide +kernel)) (fun _ _ _ _ _ => pg_name (i := 7) scRow.nd rfl (.inl rfl)) (fun _ _ _ _ _ => pts_nil)
            (fun _ _ _ _ _ => pe_d DT hr (by decide) (by rfl) (pa_cons (pv 0) (pa_cons pe_int pa_nil))))
        (pss_one (ps_ret (pe_callTy call_tuple_of (by rfl) mt (by decide +kernel) (pa_cons (pe_slice sl_list (pe_op op_rep (pv 4) (pv 2)) po_none (po_some (pv 2))) pa_nil))))) pss_nil)
      (pss_cons (ps_set (i := 5) scRow.nd rfl (.inl rfl) (pe_lst (pa_cons (pe_d DT hr (by decide) (by rfl) (pa_cons (pv 0) (pa_cons pe_int pa_nil))) pa_nil)))
      (pss_cons (ps_while PassesOwn.never (pt_cmpR op_lt (pe_callB call_len_seq (by rfl) ml PySem.boot_len (pa_cons (pv 5) pa_nil)) (pv 2) (nomark _))
        (pss_cons (ps_set (i := 6) scRow.nd rfl (.inl rfl) (pe_mid (pe_and (pe_cmpR op_eq (pv 3) pe_int (nomark _)) (pe_one (pe_cmpR op_gt (pe_d DT hr (by decide) (by rfl) (pa_cons (pv 0) (pa_cons pe_int pa_nil))) pe_int (nomark _))))))
        (pss_one (ps_expr (pe_bm PySem.F.plainAttrs_list PySem.F.slot_list_append PySem.F.type_list_append mt_append (pv 5) (pa_cons (pe_mid (pe_ifExp (pt_val (pv 6)) (pe_ix ix_list (pv 5) (pe_un un_neg pe_int) (fun _ _ => rfl))
            (pe_d DT hr (by decide) (by rfl) (pa_cons (pv 0) (pa_cons pe_int pa_nil))))) pa_nil))))))
      (pss_one (ps_ret (pe_callTy call_tuple_of (by rfl) mt (by decide +kernel) (pa_cons (pv 5) pa_nil)))))))), ?_⟩
    refine ⟨fun σ H2 => ∃ z k : Int, σ = [some (.ref b), some (.int most), some (.int z), some (.int k), none, none, none, none] ∧ 1 ≤ z ∧ z ≤ most ∧ 0 ≤ k ∧ k < 5 ∧ But b H H2 ∧ Box (m + 1 + 1) H2 b, ?_, fun σ' H2 hM => ?_⟩
    · exact ⟨.ref b, rfl, .int most, rfl, b, most, m, rfl, by omega, by omega, hb, by omega, fun d H1 d0 d1 bt1 bx1 sm1 => ⟨_, _, rfl, rfl, .ref b, rfl, b, 5, m + 1, rfl, by decide, by decide, bx1, by omega,
        fun k H2 k0 k1 bt2 bx2 sm2 => ⟨_, _, rfl, 1 + d, k, rfl, by omega, by omega, k0, k1, bt1.trans bt2, bx2⟩⟩⟩
    obtain ⟨z, k, rfl, size1, size2, k0, k1, bt, bx2⟩ := hM
    refine ⟨.int k, rfl, rfl, _, rfl, ite2 (fun e => ?_) (fun e => ?_)⟩
    · refine ⟨by show 1 ≤ sizeLine; decide, fun p np => ⟨.int z, rfl, z, 1, rfl, rfl, p, z - 1, [.int 1], rfl, rfl, .inl (.inl upd_same), List.cons_ne_nil _ _, by omega, by omega, by show 1 ≤ 1000; decide, fun p2 H3 s3 t3 => ⟨by show 1 ≤ sizeLine; decide, fun p4 np4 => ?_⟩⟩⟩
      refine ⟨p2, p4, _, [.int 0], rfl, rfl, Same.seqT (same_new np4) t3, .inl (.inl upd_same), ?_, fun p5 H5 s5 t5 => ?_⟩
      · show ((List.replicate (z - 1).toNat [V.int 1]).flatten).length + 1 ≤ sizeLine
        rw [show [V.int 1] = [(1 : Int)].map V.int from rfl, rep_map, List.length_map, rep_len]
        show (z - 1).toNat * 1 + 1 ≤ sizeLine
        exact Nat.le_trans (show _ ≤ 100 by omega) (by decide)
      · rw [show [V.int 1] = [(1 : Int)].map V.int from rfl, rep_map, show [V.int 0] = [(0 : Int)].map V.int from rfl, ← List.map_append] at t5
        refine q H5 p5 _ (((bt.trans (But.new np)).trans (But.of_same s3)).trans ((But.new np4).trans (But.of_same s5))) ?_ t5 ?_ ?_ ?_
        · exact (((((bx2.same (same_new np)).same s3).same (same_new np4)).same s5)).up (by omega)
        · rw [List.length_append]
          exact Nat.le_add_left _ _
        · rw [List.length_append, rep_len]
          show (((z - 1).toNat * 1 + 1 : Nat) : Int) ≤ most
          omega
        · exact Bits.snoc (Bits.rep (fun o ho => by rw [List.mem_singleton.mp ho]; exact .inr rfl) _) (by decide) (by decide)
    · refine ⟨.int k, rfl, rfl, _, rfl, ite2 (fun e1 => ?_) (fun e1 => ?_)⟩
      · refine ⟨.ref b, rfl, .int z, rfl, z, 4, rfl, b, _, m + 2, rfl, by split <;> omega, by split <;> omega, bx2, by omega, fun d3 H3 g0 g1 bt3 bx3 sm3 => ?_⟩
        have d34 : d3 < 4 := by
          have : (if (4 : Int) < z then (4 : Int) else z) ≤ 4 := by split <;> omega
          omega
        refine ⟨_, _, rfl, rfl, 1 + d3, rfl, by omega, by omega, fun D nD => lc_range (lo := 0) (n := (1 + d3).toNat)
          (fun i H' => But b H3 H' ∧ Box (m + 3 + i) H' b ∧ ∃ l : List Int, l.length = i ∧ H' D = some (.lst (l.map V.int)) ∧ Bits l) ⟨But.new nD, bx3.same (same_new nD), [], rfl, upd_same, Bits.nil⟩ (fun i H4 hi hp => ?_) (fun H4 hp => ?_)⟩
        · obtain ⟨bt4, bx4, l, hl, hD, hB⟩ := hp
          have nDb : D ≠ b := (bx3.ne nD).symm
          refine ⟨rfl, .ref b, rfl, b, 2, _, rfl, by decide, by decide, bx4, by omega, fun d5 H5 e0 e2 bt5 bx5 sm5 => ⟨l.map V.int, (sm5 D nDb).trans hD, ?_, ?_, ?_, l ++ [d5], ?_, ?_, Bits.snoc hB e0 e2⟩⟩
          · rw [List.length_map, hl]
            exact small1000 (by omega)
          · refine but_local nD (bt4.trans bt5) fun a o n1 n2 h => ?_
            rw [upd_ne n2]
            exact h
          · obtain ⟨x1, x2, x3, g1, g2⟩ := bx5
            exact ⟨x1, x2, x3, by rw [upd_ne nDb.symm]; exact g1, g2.1, by have := g2.2; omega⟩
          · rw [List.length_append, hl]
            rfl
          · rw [upd_same, List.map_append]
            rfl
        · obtain ⟨bt4, bx4, l, hl, hD, hB⟩ := hp
          have hz : l.length ≤ 4 := by omega
          have hz1 : 1 ≤ l.length := by omega
          have hlen : (List.replicate z.toNat l).flatten.length = z.toNat * l.length := rep_len _ _
          have hmul : z.toNat ≤ z.toNat * l.length := Nat.le_mul_of_pos_right _ hz1
          have hmul2 : z.toNat * l.length ≤ 64 * 4 := Nat.mul_le_mul (by omega) hz
          refine ⟨.ref D, rfl, .int z, rfl, D, z, l.map V.int, rfl, rfl, hD, by omega, by omega, ?_, fun p np => ?_⟩
          · rw [List.length_map]
            exact Nat.le_trans (show _ ≤ 256 by rw [Nat.mul_comm]; exact hmul2) (by decide)
          · refine ⟨.int z, rfl, z, rfl, p, _, rfl, .inl (.inl upd_same), fun p2 np2 => ?_⟩
            refine ⟨p2, _, rfl, .inl ⟨.inl (.inl upd_same), fun p3 np3 => ?_⟩⟩
            have ec : cutV (List.replicate z.toNat (l.map V.int)).flatten none (some z) = (((List.replicate z.toNat l).flatten).take z.toNat).map V.int := by
              have := cut_to (xs := (List.replicate z.toNat (l.map V.int)).flatten) z.toNat
              rw [Int.toNat_of_nonneg (by omega)] at this
              rw [this, rep_map, List.map_take]
            have lt : (((List.replicate z.toNat l).flatten).take z.toNat).length = z.toNat := by
              rw [List.length_take, hlen]
              omega
            have new3 : ∀ {G : Hp} {a : Addr} {u : HO}, G a = none → But b G (upd G a u) := fun h => But.new h
            refine q _ p3 (((List.replicate z.toNat l).flatten).take z.toNat) ((((bt.trans bt3).trans bt4).trans (But.new np)).trans ((But.new np2).trans (But.new np3))) ?_ ?_ ?_ ?_ ((Bits.rep hB _).take _)
            · exact (((bx4.same (same_new np)).same (same_new np2)).same (same_new np3)).up (by omega)
            · refine .inl (.inl ?_)
              rw [upd_same, ec]
            · rw [lt]
              omega
            · rw [lt]
              omega
      · refine ⟨.ref b, rfl, b, 2, m + 2, rfl, by decide, by decide, bx2, by omega, fun d3 H3 g0 g1 bt3 bx3 sm3 => ⟨by show 1 ≤ sizeLine; decide, fun D nD => ?_⟩⟩
        have nDb : D ≠ b := (bx3.ne nD).symm
        have nDH : H D = none := by
          cases hh : H D with
          | none => rfl
          | some u =>
            have := (bt.trans bt3) D u nDb hh
            rw [nD] at this
            cases this
        refine while_by (fun σ H' => ∃ (l : List Int) (y6 : Option V), σ = [some (.ref b), some (.int most), some (.int z), some (.int k), none, some (.ref D), y6, none] ∧ But b H H' ∧ Box (m + 3 + 2 * l.length) H' b ∧ H' D = some (.lst (l.map V.int)) ∧ 1 ≤ l.length ∧ l.length ≤ z.toNat ∧ Bits l)
          (fun σ H' => match H' D with
            | some (HO.lst xs) => z.toNat - xs.length
            | _ => 0) ⟨[d3], none, rfl, (bt.trans bt3).trans (But.new nD), (bx3.same (same_new nD)).up (by omega), upd_same, Nat.le_refl _, by show 1 ≤ z.toNat; omega, Bits.snoc Bits.nil g0 g1⟩
          (fun σ H4 hp => ?_) (fun σ H Q Q' hq h => ?_)
        · obtain ⟨l, y6, rfl, bt4, bx4, hD, l1, l2, hB⟩ := hp
          refine ⟨.ref D, rfl, D, _, rfl, .inl (.inl (.inl hD)), .int z, rfl, _, _, rfl, rfl, _, rfl, ite2 (fun e2 => ?_) (fun e2 => ?_)⟩
          · have hlt : ((l.map V.int).length : Int) < z := of_decide_eq_true e2
            rw [List.length_map] at hlt
            refine ⟨fun v H' => (∃ c : Bool, v = .bl c) ∧ But b H4 H' ∧ Box (m + 3 + 2 * l.length + 1) H' b ∧ H' D = some (.lst (l.map V.int)), ?_, fun v H5 hv => ?_⟩
            · refine ⟨.int k, rfl, rfl, _, rfl, ite2 (fun _ => ?_) (fun _ => ?_)⟩
              · exact ⟨.ref b, rfl, b, 4, _, rfl, by decide, by decide, bx4, by omega, fun d5 H5 e0 e2 bt5 bx5 sm5 => ⟨_, _, rfl, rfl, ⟨_, rfl⟩, bt5, bx5, (sm5 D nDb).trans hD⟩⟩
              · exact ⟨⟨_, rfl⟩, But.refl _ _, bx4.up (by omega), hD⟩
            · obtain ⟨⟨c, rfl⟩, bt5, bx5, hD5⟩ := hv
              refine ⟨.ref D, rfl, .inl ⟨rfl, _, .inl (.inl hD5)⟩, fun v H' => (∃ o : Int, v = .int o ∧ 0 ≤ o ∧ o < 2) ∧ But b H5 H' ∧ Box (m + 3 + 2 * l.length + 2) H' b ∧ H' D = some (.lst (l.map V.int)), ?_, fun v H6 hv => ?_⟩
              · refine ⟨.bl c, rfl, c, rfl, ite2 (fun _ => ?_) (fun _ => ?_)⟩
                · obtain ⟨o, ho, hat⟩ := last_some (l := l) l1
                  refine ⟨.ref D, rfl, 1, rfl, D, _, _, _, rfl, rfl, .inl (.inl hD5), hat, ⟨o, rfl, ?_⟩, But.refl _ _, bx5.up (by omega), hD5⟩
                  have := hB o ho
                  omega
                · exact ⟨.ref b, rfl, b, 2, _, rfl, by decide, by decide, bx5, by omega, fun d6 H6 e0 e2 bt6 bx6 sm6 => ⟨⟨d6, rfl, e0, e2⟩, bt6, bx6, (sm6 D nDb).trans hD5⟩⟩
              · obtain ⟨⟨o, rfl, o0, o1⟩, bt6, bx6, hD6⟩ := hv
                refine ⟨D, _, _, rfl, rfl, hD6, ?_, ⟨l ++ [o], _, rfl, ?_, ?_, ?_, ?_, ?_, Bits.snoc hB o0 o1⟩, ?_⟩
                · rw [List.length_map]
                  exact small1000 (by omega)
                · refine but_local nDH ((bt4.trans bt5).trans bt6) fun a o n1 n2 h => ?_
                  rw [upd_ne n2]
                  exact h
                · obtain ⟨x1, x2, x3, g1, g2⟩ := bx6
                  refine ⟨x1, x2, x3, by rw [upd_ne nDb.symm]; exact g1, g2.1, ?_⟩
                  rw [List.length_append]
                  have := g2.2
                  show x3 ≤ ((m + 3 + 2 * (l.length + 1) : Nat) : Int)
                  omega
                · rw [upd_same, List.map_append]
                  rfl
                · rw [List.length_append]
                  exact Nat.le_add_left _ _
                · rw [List.length_append]
                  show l.length + 1 ≤ _
                  omega
                · show (match upd H6 D (.lst (l.map V.int ++ [V.int o])) D with
                    | some (HO.lst xs) => z.toNat - xs.length
                    | _ => 0) < (match H4 D with
                    | some (HO.lst xs) => z.toNat - xs.length
                    | _ => 0)
                  rw [upd_same, hD]
                  show z.toNat - (l.map V.int ++ [V.int o]).length < z.toNat - (l.map V.int).length
                  rw [List.length_append, List.length_map]
                  show z.toNat - (l.length + 1) < z.toNat - l.length
                  omega
          · refine ⟨.ref D, rfl, D, _, rfl, .inl ⟨.inl (.inl hD), fun p np => ?_⟩⟩
            exact q _ p l (bt4.trans (But.new np)) ((bx4.same (same_new np)).up (by omega)) (.inl (.inl upd_same)) l1 (by omega) hB
        · obtain ⟨v, h1, a, xs, h2, h3, v2, h4, i, j, h5, h6, c, h7, h8⟩ := h
          exact ⟨v, h1, a, xs, h2, h3, v2, h4, i, j, h5, h6, c, h7, hq _ _ h8⟩
end
end Pf
namespace Pf
open PySem PySem.Spec PyProof.Rows L2 Gk
/-! ### one counter -/
def top (w : Int) : Int := 1 * 2 ^ w.toNat - 1
def prd (w v : Int) : Int := if 2 * v > top w then 1 else 0
def aft (w v o : Int) : Int := if o = 1 then (if top w < v + 1 then top w else v + 1) else (if 0 > v - 1 then 0 else v - 1)
theorem pow2_mono {a b : Nat} (h : a ≤ b) : (2 : Int) ^ a ≤ 2 ^ b := by
  have e := Nat.pow_le_pow_right (n := 2) (by decide) h
  exact_mod_cast e
theorem top_pos {w : Int} (h : 1 ≤ w) : 1 ≤ top w := by
  unfold top
  have : (2 : Int) ^ 1 ≤ 2 ^ w.toNat := pow2_mono (by omega)
  omega
theorem top_le {w : Int} {n : Nat} (h : w ≤ (n : Int)) : top w ≤ 2 ^ n := by
  unfold top
  have : (2 : Int) ^ w.toNat ≤ 2 ^ n := pow2_mono (by omega)
  omega
theorem aft_in {w v o : Int} (h : 1 ≤ w) (h0 : 0 ≤ v) (h1 : v ≤ top w) : 0 ≤ aft w v o ∧ aft w v o ≤ top w := by
  have := top_pos h
  unfold aft
  repeat' split
  all_goals omega
theorem prd_in (w v : Int) : prd w v = 0 ∨ prd w v = 1 := by
  unfold prd
  split
  · exact .inr rfl
  · exact .inl rfl
abbrev sMost : Stmt := topS 1
abbrev sPred : Stmt := topS 2
abbrev sAft : Stmt := topS 3
theorem scMost : FnScope ["bits"] ["bits"] (defScope sMost) := ⟨rfl, rfl, rfl, by decide +kernel, rfl, by decide +kernel, by decide +kernel⟩
theorem scPred : FnScope ["bits", "value"] ["bits", "value"] (defScope sPred) := ⟨rfl, rfl, rfl, by decide +kernel, rfl, by decide +kernel, by decide +kernel⟩
theorem scAft : FnScope ["bits", "value", "outcome"] ["bits", "value", "outcome"] (defScope sAft) := ⟨rfl, rfl, rfl, by decide +kernel, rfl, by decide +kernel, by decide +kernel⟩
section
variable {P : Program} {w : World} {K : PySem.W.Frag} {mg : Str → Option Value} {base : Heap}
def spMost : Sp := fun vs H Q _ => ∃ n : Int, vs = [.int n] ∧ 1 ≤ n ∧ n ≤ 64 ∧ Q (.int (top n)) H
theorem ok_most {f : Addr} {fd : FuncData} {k : Nat} (mx : mg "max" = none) (F : L2.Fun K "most_value" "most_value" sMost f fd) : FnOk P w K mg base L2.CX0 (k + 1) f fd ["bits"] spMost := by
  refine F.ok scMost (fun vs H Q E h => ?_) (fun cdv A outer s H vs Q E hr h => ?_)
  · obtain ⟨n, rfl, _⟩ := h
    rfl
  · obtain ⟨n, rfl, n1, n2, q⟩ := h
    refine ⟨_, pss_one (ps_ret (pe_op op_sub (pe_op op_shl pe_int (pe_callB (call_max2 rfl) (by rfl) mx (by decide +kernel) (pa_cons pe_int (pa_cons (pv 0) pa_nil)))) pe_int)), ?_⟩
    have e : (if n > 0 then n else 0) = n := if_pos (by omega)
    refine ⟨.int n, rfl, _, _, rfl, _, _, rfl, rfl, ?_, _, _, rfl, rfl, ?_⟩
    · rw [e]
      exact ⟨by omega, by omega, by decide⟩
    · rw [e]
      exact q
def spPred : Sp := fun vs H Q _ => ∃ n v : Int, vs = [.int n, .int v] ∧ 1 ≤ n ∧ n ≤ 64 ∧ Q (.int (prd n v)) H
theorem ok_pred {f : Addr} {fd : FuncData} (DM : Dfn P w K mg base 1 "most_value" ["bits"] spMost) (F : L2.Fun K "predicted" "predicted" sPred f fd) : FnOk P w K mg base L2.CX0 2 f fd ["bits", "value"] spPred := by
  refine F.ok scPred (fun vs H Q E h => ?_) (fun cdv A outer s H vs Q E hr h => ?_)
  · obtain ⟨n, v, rfl, _⟩ := h
    rfl
  · obtain ⟨n, v, rfl, n1, n2, q⟩ := h
    refine ⟨_, pss_one (ps_ret (pe_ifExp (pt_cmpR op_gt (pe_op op_mul pe_int (pv 1)) (pe_d DM hr (by decide) (by rfl) (pa_cons (pv 0) pa_nil)) (nomark _)) pe_int pe_int)), ?_⟩
    refine ⟨.int v, rfl, _, _, rfl, rfl, .inl ⟨by decide, by decide⟩, .int n, rfl, n, rfl, n1, n2, _, _, rfl, rfl, _, rfl, ite2 (fun e => ?_) (fun e => ?_)⟩
    · have g : prd n v = 1 := if_pos (of_decide_eq_true e)
      rw [g] at q
      exact q
    · have g : prd n v = 0 := if_neg (fun z => e (decide_eq_true z))
      rw [g] at q
      exact q
def spAft : Sp := fun vs H Q _ => ∃ n v o : Int, vs = [.int n, .int v, .int o] ∧ 1 ≤ n ∧ n ≤ 64 ∧ Q (.int (aft n v o)) H
theorem ok_aft {f : Addr} {fd : FuncData} (DM : Dfn P w K mg base 1 "most_value" ["bits"] spMost) (mx : mg "max" = none) (mn : mg "min" = none) (F : L2.Fun K "value_after" "value_after" sAft f fd) : FnOk P w K mg base L2.CX0 2 f fd ["bits", "value", "outcome"] spAft := by
  refine F.ok scAft (fun vs H Q E h => ?_) (fun cdv A outer s H vs Q E hr h => ?_)
  · obtain ⟨n, v, o, rfl, _⟩ := h
    rfl
  · obtain ⟨n, v, o, rfl, n1, n2, q⟩ := h
    refine ⟨_, pss_cons (ps_if (pt_cmpR op_eq (pv 2) pe_int (nomark _))
        (pss_one (ps_ret (pe_callB (call_min2 rfl) (by rfl) mn (by decide +kernel) (pa_cons (pe_op op_add (pv 1) pe_int) (pa_cons (pe_d DM hr (by decide) (by rfl) (pa_cons (pv 0) pa_nil)) pa_nil))))) pss_nil)
      (pss_one (ps_ret (pe_callB (call_max2 rfl) (by rfl) mx (by decide +kernel) (pa_cons (pe_op op_sub (pv 1) pe_int) (pa_cons pe_int pa_nil))))), ?_⟩
    refine ⟨.int o, rfl, rfl, _, rfl, ite2 (fun e => ?_) (fun e => ?_)⟩
    · have e1 : V.int o = V.int 1 := of_decide_eq_true e
      injection e1 with e2
      unfold aft at q
      rw [if_pos e2] at q
      exact ⟨.int v, rfl, _, _, rfl, rfl, .int n, rfl, n, rfl, n1, n2, _, _, rfl, q⟩
    · have e2 : o ≠ 1 := fun z => e (decide_eq_true (by rw [z]))
      unfold aft at q
      rw [if_neg e2] at q
      exact ⟨.int v, rfl, _, _, rfl, rfl, _, _, rfl, q⟩
end
end Pf
namespace Pf
open PySem PySem.Spec PyProof.Rows L2 Gk
/-! ### outcomes that a cell learns -/
def cntStep (n : Int) (p : Int × Int) (o : Int) : Int × Int := (p.1 + (if prd n p.2 = o then 0 else 1), aft n p.2 o)
def cnt (n v : Int) (os : List Int) : Int × Int := os.foldl (cntStep n) (0, v)
theorem cnt_snoc (n v : Int) (os : List Int) (o : Int) : cnt n v (os ++ [o]) = cntStep n (cnt n v os) o := by
  unfold cnt
  rw [List.foldl_append]
  rfl
theorem cnt_take {n v : Int} {os : List Int} {i : Nat} {o : Int} (h : os[i]? = some o) : cnt n v (os.take (i + 1)) = cntStep n (cnt n v (os.take i)) o := by
  rw [List.take_add_one, h]
  exact cnt_snoc _ _ _ _
theorem cnt_from (n : Int) (os : List Int) : ∀ e v : Int, os.foldl (cntStep n) (e, v) = (e + (cnt n v os).1, (cnt n v os).2) := by
  induction os with
  | nil => intro e v; simp [cnt]
  | cons o os ih =>
    intro e v
    unfold cnt
    simp only [List.foldl_cons, cntStep]
    rw [ih, ih (0 + _)]
    simp only [Int.zero_add, Int.add_assoc]
theorem cnt_app (n v : Int) (a b : List Int) : cnt n v (a ++ b) = ((cnt n v a).1 + (cnt n (cnt n v a).2 b).1, (cnt n (cnt n v a).2 b).2) := by
  have h : cnt n v (a ++ b) = b.foldl (cntStep n) (cnt n v a) := by
    unfold cnt
    rw [List.foldl_append]
  rw [h, ← cnt_from]
theorem cnt_err (n : Int) (os : List Int) : ∀ v, 0 ≤ (cnt n v os).1 ∧ (cnt n v os).1 ≤ os.length := by
  induction os with
  | nil => intro v; exact ⟨Int.le_refl _, Int.le_refl _⟩
  | cons o os ih =>
    intro v
    have h := ih (aft n v o)
    have e : cnt n v (o :: os) = _ := cnt_app n v [o] os
    rw [e]
    have f : (cnt n v [o]).1 = 0 + (if prd n v = o then 0 else 1) := rfl
    have g : (cnt n v [o]).2 = aft n v o := rfl
    rw [f, g]
    simp only [List.length_cons]
    split <;> omega
theorem cnt_val {n : Int} (n1 : 1 ≤ n) (os : List Int) : ∀ v, 0 ≤ v → v ≤ top n → 0 ≤ (cnt n v os).2 ∧ (cnt n v os).2 ≤ top n := by
  induction os with
  | nil => intro v h0 h1; exact ⟨h0, h1⟩
  | cons o os ih =>
    intro v h0 h1
    have e : cnt n v (o :: os) = _ := cnt_app n v [o] os
    rw [e]
    have g : (cnt n v [o]).2 = aft n v o := rfl
    rw [g]
    have a := aft_in (o := o) n1 h0 h1
    exact ih _ a.1 a.2
abbrev sCnt : Stmt := topS 4
abbrev nCnt : List Str := ["counter", "outcomes", "bits", "value", "errors", "outcome"]
theorem scCnt : FnScope nCnt ["counter", "outcomes"] (defScope sCnt) := ⟨rfl, rfl, rfl, by decide +kernel, rfl, by decide +kernel, by decide +kernel⟩
theorem at_ints {os : List Int} {i : Nat} {x : V} (hx : (os.map V.int)[i]? = some x) : ∃ o, os[i]? = some o ∧ x = .int o := by
  rw [List.getElem?_map] at hx
  cases e : os[i]? with
  | none => rw [e] at hx; cases hx
  | some o =>
    rw [e] at hx
    exact ⟨o, rfl, (Option.some.inj hx).symm⟩
section
variable {P : Program} {w : World} {K : PySem.W.Frag} {mg : Str → Option Value} {base : Heap}
def spCnt (K : PySem.W.Frag) : Sp := fun vs H Q _ => ∃ (c t : Addr) (n v : Int) (os : List Int), vs = [.ref c, .ref t] ∧ 1 ≤ n ∧ n ≤ 64 ∧ SqT K H c [.int n, .int v] ∧ SqT K H t (os.map V.int) ∧
  ∀ p H', Same H H' → SqT K H' p [.int (cnt n v os).1, .int (cnt n v os).2] → Q (.ref p) H'
theorem ok_cnt {f : Addr} {fd : FuncData} (DP : Dfn P w K mg base 2 "predicted" ["bits", "value"] spPred) (DA : Dfn P w K mg base 2 "value_after" ["bits", "value", "outcome"] spAft) (F : L2.Fun K "counted" "counted" sCnt f fd) :
    FnOk P w K mg base L2.CX0 3 f fd ["counter", "outcomes"] (spCnt K) := by
  refine F.ok scCnt (fun vs H Q E h => ?_) (fun cdv A outer s H vs Q E hr h => ?_)
  · obtain ⟨c, t, n, v, os, rfl, _⟩ := h
    rfl
  · obtain ⟨c, t, n, v, os, rfl, n1, n2, hc, ht, q⟩ := h
    refine ⟨_, pss_cons (ps_asg (pv 0) (pg_tup (by rfl) (pgs_cons (pg_name (i := 2) scCnt.nd rfl (.inl rfl)) (pgs_cons (pg_name (i := 3) scCnt.nd rfl (.inl rfl)) pgs_nil))))
      (pss_cons (ps_set (i := 4) scCnt.nd rfl (.inl rfl) pe_int)
      (pss_cons (ps_for PassesOwn.never rfl (pi_tup (pv 1)) (pg_name (i := 5) scCnt.nd rfl (.inl rfl))
        (pss_cons (ps_if (pt_cmpR op_ne (pe_d DP hr (by decide) (by rfl) (pa_cons (pv 2) (pa_cons (pv 3) pa_nil))) (pv 5) (nomark _)) (pss_one (ps_aug (i := 4) scCnt.nd rfl (.inl rfl) pe_int ip_add)) pss_nil)
        (pss_one (ps_set (i := 3) scCnt.nd rfl (.inl rfl) (pe_d DA hr (by decide) (by rfl) (pa_cons (pv 2) (pa_cons (pv 3) (pa_cons (pv 5) pa_nil))))))))
      (pss_one (ps_ret (pe_tup (pa_cons (pv 4) (pa_cons (pv 3) pa_nil))))))), ?_⟩
    refine ⟨.ref c, rfl, c, _, rfl, hc, rfl, _, _, rfl, _, _, rfl, rfl, .ref t, rfl, t, rfl, ⟨_, ht⟩, ?_⟩
    refine for_tup (K := K) (xs := os.map V.int) (fun i σ H' => H' = H ∧ ∃ y5, σ = [some (.ref c), some (.ref t), some (.int n), some (.int (cnt n v (os.take i)).2), some (.int (cnt n v (os.take i)).1), y5]) ⟨rfl, none, rfl⟩ (fun i σ H' hi hp => by rw [hp.1]; exact ht) (fun i x σ H1 hx hp => ?_) (fun σ H1 hp => ?_)
    · obtain ⟨rfl, y5, rfl⟩ := hp
      obtain ⟨o, ho, rfl⟩ := at_ints hx
      have hs := cnt_take (n := n) (v := v) ho
      refine ⟨.int n, rfl, .int (cnt n v (os.take i)).2, rfl, n, _, rfl, n1, n2, .int o, rfl, rfl, _, rfl, ite2 (fun e => ?_) (fun e => ?_)⟩
      · have ne : prd n (cnt n v (os.take i)).2 ≠ o := fun z => by
          rw [z] at e
          simp at e
        refine ⟨.int (cnt n v (os.take i)).1, rfl, _, _, rfl, rfl, .int n, rfl, .int (cnt n v (os.take i)).2, rfl, .int o, rfl, n, _, o, rfl, n1, n2, rfl, some (.int o), ?_⟩
        rw [hs]
        unfold cntStep
        rw [if_neg ne]
        rfl
      · have eq : prd n (cnt n v (os.take i)).2 = o := by
          by_cases z : prd n (cnt n v (os.take i)).2 = o
          · exact z
          · exact absurd (by simp [z]) e
        refine ⟨.int n, rfl, .int (cnt n v (os.take i)).2, rfl, .int o, rfl, n, _, o, rfl, n1, n2, rfl, some (.int o), ?_⟩
        rw [hs]
        unfold cntStep
        rw [if_pos eq, Int.add_zero]
        rfl
    · obtain ⟨rfl, y5, rfl⟩ := hp
      rw [List.length_map, List.take_length]
      exact ⟨.int _, rfl, .int _, rfl, by show 2 ≤ sizeLine; decide, fun p np => q p _ (same_new np) (.inl (.inl upd_same))⟩
end
end Pf
namespace Pf
open PySem PySem.Spec PyProof.Rows L2 Gk
theorem go_asP {te : TE} {g : TG} {D : Ends} {σ : L2.St} {H : Hp} (h : te σ H fun v H' => g v σ H' D.nx) : tAsg te g D σ H := h
/-- outcomes on the heap -/
def Outs (K : PySem.W.Frag) (H : Hp) (v : V) : Prop := ∃ p os, v = .ref p ∧ SqT K H p (os.map V.int) ∧ os.length ≤ 64 ∧ Bits os
theorem Outs.keep {K : PySem.W.Frag} {H H' : Hp} {v : V} (k : Keep K H H') (h : Outs K H v) : Outs K H' v := by
  obtain ⟨p, os, rfl, s, l, b⟩ := h
  exact ⟨p, os, rfl, k _ _ s, l, b⟩
/-- expressions that make a tuple of ints -/
def MkI (K : PySem.W.Frag) (t : TE) (os : List Int) : Prop := ∀ σ H Q, (∀ p H', Same H H' → SqT K H' p (os.map V.int) → Q (.ref p) H') → t σ H Q
def MkIs (t : TA) (os : List Int) : Prop := ∀ σ H (Q : List V → Hp → Prop), Q (os.map V.int) H → t σ H Q
theorem mkIs_nil : MkIs tNil [] := fun σ H Q q => q
theorem mkIs_cons {i : Int} {t : TA} {os : List Int} (h : MkIs t os) : MkIs (tCons (tC (.int i)) t) (i :: os) := fun σ H Q q => h σ H _ q
theorem mkI_tup {K : PySem.W.Frag} {t : TA} {os : List Int} (h : MkIs t os) (l : os.length ≤ 1000) : MkI K (tTup t) os := fun σ H Q q =>
  h σ H _ ⟨by rw [List.length_map, sizeLine_eq]; omega, fun p np => q p _ (same_new np) (.inl (.inl upd_same))⟩
theorem mkI_rep {K : PySem.W.Frag} {t : TE} {os : List Int} {k : Int} (h : MkI K t os) (h0 : os ≠ []) (k0 : 0 ≤ k) (k1 : k ≤ 1000) (l : os.length ≤ 1000) (l2 : k.toNat * os.length ≤ 100000) : MkI K (tOp (rRepU K) t (tC (.int k))) (List.replicate k.toNat os).flatten := fun σ H Q q =>
  h σ H _ fun p H1 s1 t1 => ⟨p, k, os.map V.int, rfl, rfl, t1, fun z => h0 (List.map_eq_nil_iff.mp z), k0, k1, by rw [List.length_map]; exact l, fun p2 H2 s2 t2 => by
    rw [rep_map] at t2
    exact q p2 H2 (s1.trans s2) t2⟩
theorem mkI_cat {K : PySem.W.Frag} {t u : TE} {os ps : List Int} (h : MkI K t os) (g : MkI K u ps) (l : os.length + ps.length ≤ 100000) : MkI K (tOp (rCatU K) t u) (os ++ ps) := fun σ H Q q =>
  h σ H _ fun p H1 s1 t1 => g σ H1 _ fun r H2 s2 t2 => ⟨p, r, _, _, rfl, rfl, Same.seqT s2 t1, t2, by rw [List.length_map, List.length_map, sizeLine_eq]; omega, fun p3 H3 s3 t3 => by
    rw [← List.map_append] at t3
    exact q p3 H3 ((s1.trans s2).trans s3) t3⟩
def MkOs (K : PySem.W.Frag) (t : TA) (n : Nat) : Prop := ∀ σ H (Q : List V → Hp → Prop), (∀ vs H', Same H H' → vs.length = n → (∀ v ∈ vs, Outs K H' v) → Q vs H') → t σ H Q
theorem mkOs_nil {K : PySem.W.Frag} : MkOs K tNil 0 := fun σ H Q q => q [] H (Same.refl H) rfl fun v hv => nomatch hv
theorem mkOs_cons {K : PySem.W.Frag} {t : TE} {r : TA} {os : List Int} {n : Nat} (h : MkI K t os) (hl : os.length ≤ 64) (hb : Bits os) (hr : MkOs K r n) : MkOs K (tCons t r) (n + 1) := fun σ H Q q =>
  h σ H _ fun p H1 s1 t1 => hr σ H1 _ fun vs H2 s2 l2 o2 => q _ _ (s1.trans s2) (by rw [List.length_cons, l2]) fun v hv => by
    rcases List.mem_cons.mp hv with rfl | hv
    · exact ⟨p, os, rfl, Same.seqT s2 t1, hl, hb⟩
    · exact o2 v hv
theorem fine_outs {os : List Int} (hb : Bits os) (l : os.length ≤ 64) : Fine (.tuple (os.map PyData.int)) := by
  have h : ∀ xs : List Int, Bits xs → tameAll (xs.map PyData.int) = true ∧ costAll (xs.map PyData.int) = 71 * xs.length + 1 ∧ PyData.depthAll (xs.map PyData.int) ≤ 1 := by
    intro xs
    induction xs with
    | nil => intro _; exact ⟨rfl, rfl, by decide⟩
    | cons x xs ih =>
      intro hx
      obtain ⟨a, b, c⟩ := ih fun o ho => hx o (List.mem_cons_of_mem _ ho)
      have x2 := hx x (List.mem_cons_self ..)
      refine ⟨?_, ?_, ?_⟩
      · simp only [List.map_cons, tameAll, Gk.tame, a, Bool.and_true]
        exact decide_eq_true (by omega)
      · simp only [List.map_cons, costAll, Gk.cost, b, List.length_cons]
        omega
      · simp only [List.map_cons, PyData.depthAll, PyData.depth]
        omega
  obtain ⟨a, b, c⟩ := h os hb
  refine Fine.tame ?_ ?_ ?_
  · simpa only [Gk.tame] using a
  · simp only [PyData.depth]
    omega
  · simp only [Gk.cost, b]
    omega
theorem bits_all {l : List Int} (h : l.all (fun o => o == 0 || o == 1) = true) : Bits l := fun o ho => by
  have := List.all_eq_true.mp h o ho
  simpa using this
theorem none_was {H H' : Hp} {p : Addr} (s : Same H H') (n : H' p = none) : H p = none := by
  cases e : H p with
  | none => rfl
  | some o => rw [s _ _ e] at n; cases n
theorem lst_outs {K : PySem.W.Frag} {t : TA} {n : Nat} {σ : L2.St} {H : Hp} {Q : VK} (h : MkOs K t n) (hn : n ≤ 1000) (q : ∀ p xs H', Same H H' → H p = none → H' p = some (.lst xs) → xs.length = n → (∀ v ∈ xs, Outs K H' v) → Q (.ref p) H') : tLst t σ H Q :=
  h σ H _ fun vs H1 s1 l o => ⟨by rw [l, sizeLine_eq]; omega, fun p np => q p vs _ (s1.trans (same_new np)) (none_was s1 np) upd_same l fun v hv => (o v hv).keep (Same.keep (same_new np))⟩
theorem Same.seqL {K : PySem.W.Frag} {H H' : Hp} {a : Addr} {xs : List V} (e : Same H H') (h : SqL K H a xs) : SqL K H' a xs := by
  rcases h with (h | ⟨o, h⟩) | h
  · exact .inl (.inl (e _ _ h))
  · exact .inl (.inr ⟨o, e _ _ h⟩)
  · exact .inr h
theorem tame_two {a b : Int} (ha : a.natAbs < 10 ^ 20) (hb : b.natAbs < 10 ^ 20) : Gk.tame (.tuple [.int a, .int b]) = true := by
  simp only [Gk.tame, tameAll, ha, hb, decide_true, Bool.and_self]
theorem depth_two {a b : Int} : (PyData.tuple [.int a, .int b]).depth ≤ 40 := by
  simp only [PyData.depth, PyData.depthAll]
  omega
theorem fine_two {a b : Int} (ha : a.natAbs < 10 ^ 20) (hb : b.natAbs < 10 ^ 20) : Fine (.tuple [.int a, .int b]) :=
  Fine.tame (tame_two ha hb) depth_two (by simp only [Gk.cost, costAll]; omega)
theorem two_dp {K : PySem.W.Frag} {H : Hp} {p : Addr} {a b : Int} (h : SqT K H p [.int a, .int b]) : Dp K H (.ref p) (.tuple [.int a, .int b]) := .tup h (.cons (.int a) (.cons (.int b) .nil))
theorem outs_dp {K : PySem.W.Frag} {H : Hp} {p : Addr} {os : List Int} (h : SqT K H p (os.map V.int)) : Dp K H (.ref p) (.tuple (os.map PyData.int)) := .tup h (DpAll.ints os)
abbrev sLaw : Stmt := topS 14
abbrev nLaw : List Str := ["_law_script", "_law_k"]
theorem scLaw : FnScope nLaw ["_law_script"] (defScope sLaw) := ⟨rfl, rfl, rfl, by decide +kernel, rfl, by decide +kernel, by decide +kernel⟩
section
variable {P : Program} {w : World} {K : PySem.W.Frag} {mg : Str → Option Value} {base : Heap}
def spRight : Sp := fun vs H Q _ => ∃ (b : Addr) (m : Nat), vs = [.ref b] ∧ Box m H b ∧ m ≤ 900000 ∧ ∀ H', But b H H' → Box (m + 20000) H' b → Q (.bl true) H'
def spLaw (K : PySem.W.Frag) : Sp := fun vs H Q _ => ∃ (a : Addr) (ns : List Int), vs = [.ref a] ∧ SqL K H a (ns.map V.int) ∧ ns.length ≤ 63 ∧ ∀ H', Q (.bl true) H'
theorem ok_law {f : Addr} {fd : FuncData} {lv : Nat} (hlv : 1 ≤ lv) (DB : Dfn P w K mg base 1 "_law_box" ["_law_script", "_law_k"] (spBox K)) (DR : DfG P w K mg base lv "_law_right" ["_law_box_here"] spRight)
    (mr : mg "range" = none) (mx : mg "max" = none) (mn : mg "min" = none) (ml : mg "len" = none) (ma : mg "all" = none) (F : L2.Fun K "law" "law" sLaw f fd) : FnG P w K mg base (lv + 1) f fd ["_law_script"] (spLaw K) := by
  refine fnG F scLaw (fun vs H Q E h => ?_) (fun cdv A outer s H vs Q hr hg h => ?_)
  · obtain ⟨a, ns, rfl, _⟩ := h
    rfl
  · obtain ⟨a, ns, rfl, hS, hl, q⟩ := h
    refine ⟨_, pss_one (ps_ret (pe_callB (cr_all rfl) (by rfl) ma (by decide +kernel) (pa_cons (pe_lc (own := [("_law_k", 1)]) (g := gName 1) (by rfl) scLaw.nd (pi_range1 rfl mr (pa_cons (pe_callB (call_max2 rfl) (by rfl) mx (by decide +kernel) (pa_cons pe_int (pa_cons (pe_callB (call_min2 rfl) (by rfl) mn (by decide +kernel)
            (pa_cons (pe_callB call_len_seq (by rfl) ml PySem.boot_len (pa_cons (pv 0) pa_nil)) (pa_cons pe_int pa_nil))) pa_nil))) pa_nil)) (blkOk_by (N := nLaw) (sc := defScope sLaw) (by decide +kernel))
          (fun _ _ _ _ _ => pg_name (i := 1) scLaw.nd rfl (.inl rfl)) (fun _ _ _ _ _ => pts_nil) (fun _ _ _ _ _ => pe_dg DR hr hg (Nat.le_refl _) (by rfl) (pa_cons (pe_d DB hr hlv (by rfl) (pa_cons (pv 0) (pa_cons (pv 1) pa_nil))) pa_nil))) pa_nil))), ?_⟩
    refine ⟨.ref a, rfl, a, _, rfl, .inl hS, _, _, rfl, _, _, rfl, _, rfl, ?_, ?_, ?_⟩
    · split <;> split <;> omega
    · split <;> split <;> omega
    · generalize hz : (if (if (3 : Int) < ((ns.map V.int).length : Int) then (3 : Int) else ((ns.map V.int).length : Int)) > 1 then (if (3 : Int) < ((ns.map V.int).length : Int) then (3 : Int) else ((ns.map V.int).length : Int)) else 1) = z
      have z3 : z ≤ 3 := by rw [← hz]; split <;> split <;> omega
      refine fun D nD => lc_range (lo := 0) (n := z.toNat)
        (fun j H' => Same H H' ∧ H' D = some (.lst ((List.replicate j true).map V.bl))) ⟨same_new nD, upd_same⟩ (fun j H2 hj hp => ?_) (fun H2 hp => ?_)
      · obtain ⟨sm2, hD⟩ := hp
        refine ⟨rfl, .ref a, rfl, .int (0 + (j : Nat)), rfl, a, ns, 0 + (j : Nat), rfl, Same.seqL sm2 hS, hl, by omega, by omega, fun b x y nb => ?_⟩
        refine ⟨b, 0, rfl, ⟨x, y, 0, upd_same, Int.le_refl _, Int.le_refl _⟩, by decide, fun H4 bt4 bx4 => ⟨(List.replicate j true).map V.bl, bt4 D _ (ne_of_none hD nb) (same_new nb D _ hD), ?_, ?_, ?_⟩⟩
        · rw [List.length_map, List.length_replicate]
          exact small1000 (by omega)
        · intro c o h
          rw [upd_ne (ne_of_none h nD)]
          have h2 := sm2 c o h
          exact bt4 c o (ne_of_none h2 nb) (same_new nb c o h2)
        · rw [upd_same, List.replicate_succ', List.map_append]
          rfl
      · obtain ⟨sm2, hD⟩ := hp
        refine ⟨D, List.replicate _ true, rfl, .inl (.inl hD), ?_⟩
        rw [show (List.replicate z.toNat true).all id = true from by simp]
        exact q _
theorem law_start {K : PySem.W.Frag} {H : Hp} {a : Addr} {ns : List Int} (hl : ns.length ≤ 63) (hO : Only H) (hS : SqL K H a (ns.map V.int)) : spLaw K [.ref a] H (fun v _ => v = .bl true) L2.E0 :=
  ⟨a, ns, rfl, hS, hl, fun _ => rfl⟩
end
end Pf
namespace Pf
open PySem PySem.Spec PyProof.Rows L2 Gk
abbrev sLrn : Stmt := topS 12
abbrev nLrn : List Str := ["_law_gauge", "_law_deeds", "_law_found", "_law_here", "_law_half", "_law_deed"]
theorem scLrn : FnScope nLrn ["_law_gauge", "_law_deeds"] (defScope sLrn) := ⟨rfl, rfl, rfl, by decide +kernel, rfl, by decide +kernel, by decide +kernel⟩
theorem half_top {n : Int} (n1 : 1 ≤ n) : 2 * ((1 : Int) * 2 ^ (n - 1).toNat) - 1 = top n := by
  unfold top
  have : n.toNat = (n - 1).toNat + 1 := by omega
  rw [this, Int.pow_succ]
  omega
theorem half_prd {n v : Int} (n1 : 1 ≤ n) : (if decide (v ≥ (1 : Int) * 2 ^ (n - 1).toNat) = true then (1 : Int) else 0) = prd n v := by
  have h := half_top n1
  unfold prd
  by_cases g : 2 * v > top n
  · rw [if_pos g, decide_eq_true (by omega)]
    rfl
  · rw [if_neg g, decide_eq_false (by omega)]
    rfl
theorem half_aft {n v o : Int} (n1 : 1 ≤ n) (e : o = 1) : (if 2 * ((1 : Int) * 2 ^ (n - 1).toNat) - 1 < v + 1 then 2 * ((1 : Int) * 2 ^ (n - 1).toNat) - 1 else v + 1) = aft n v o := by
  unfold aft
  rw [if_pos e, half_top n1]
section
variable {P : Program} {w : World} {K : PySem.W.Frag} {mg : Str → Option Value} {base : Heap}
theorem ok_lrn {f : Addr} {fd : FuncData} {k : Nat} (mx : mg "max" = none) (mn : mg "min" = none) (mi : mg "int" = none) (F : L2.Fun K "_law_learned" "_law_learned" sLrn f fd) :
    FnOk P w K mg base L2.CX0 (k + 1) f fd ["_law_gauge", "_law_deeds"] (spCnt K) := by
  refine F.ok scLrn (fun vs H Q E h => ?_) (fun cdv A outer s H vs Q E hr h => ?_)
  · obtain ⟨c, t, n, v, os, rfl, _⟩ := h
    rfl
  · obtain ⟨c, t, n, v, os, rfl, n1, n2, hc, ht, q⟩ := h
    refine ⟨_, C8.pss_cut (ps_par3 (i := 2) (j := 3) (l := 4) (by rfl) scLrn.nd rfl rfl rfl (by decide) (by decide) (by decide) rfl rfl rfl (pa_cons pe_int (pa_cons (pe_ix ix_tup (pv 0) pe_int (fun _ _ => rfl)) (pa_cons (pe_op op_shl pe_int (pe_op op_sub (pe_ix ix_tup (pv 0) pe_int (fun _ _ => rfl)) pe_int)) pa_nil))) (by rfl))
      (pss_cons (ps_for PassesOwn.never rfl (pi_tup (pv 1)) (pg_name (i := 5) scLrn.nd rfl (.inl rfl))
        (pss_cons (ps_set (i := 2) scLrn.nd rfl (.inl rfl) (pe_op op_add (pv 2) (pe_callTy call_int1 (by rfl) mi (by decide +kernel) (pa_cons (pe_cmpR op_ne (pe_callTy call_int1 (by rfl) mi (by decide +kernel) (pa_cons (pe_cmpR op_ge (pv 3) (pv 4) (nomark _)) pa_nil)) (pv 5) (nomark _)) pa_nil))))
        (pss_one (ps_set (i := 3) scLrn.nd rfl (.inl rfl) (pe_ifExp (pt_cmpR op_eq (pv 5) pe_int (nomark _))
          (pe_callB (call_min2 rfl) (by rfl) mn (by decide +kernel) (pa_cons (pe_op op_add (pv 3) pe_int) (pa_cons (pe_op op_sub (pe_op op_mul pe_int (pv 4)) pe_int) pa_nil)))
          (pe_callB (call_max2 rfl) (by rfl) mx (by decide +kernel) (pa_cons (pe_op op_sub (pv 3) pe_int) (pa_cons pe_int pa_nil))))))))
      (pss_one (ps_ret (pe_tup (pa_cons (pv 2) (pa_cons (pv 3) pa_nil)))))), ?_⟩
    refine ⟨fun σ H' => H' = H ∧ σ = [some (.ref c), some (.ref t), some (.int 0), some (.int v), some (.int ((1 : Int) * 2 ^ (n - 1).toNat)), none], ?_, fun σ H0 hM => ?_⟩
    · exact ⟨.ref c, rfl, c, _, 1, .int v, rfl, rfl, hc, rfl, .ref c, rfl, c, _, 0, .int n, rfl, rfl, hc, rfl, _, _, rfl, rfl, _, _, rfl, rfl, ⟨by omega, by omega, by decide⟩, _, _, _, rfl, rfl, rfl⟩
    obtain ⟨rfl, rfl⟩ := hM
    have sm := Same.refl H0
    have ht0 := ht
    refine ⟨.ref t, rfl, t, rfl, ⟨_, ht0⟩, ?_⟩
    refine for_tup (K := K) (xs := os.map V.int) (fun i σ H' => H' = H0 ∧ ∃ y5, σ = [some (.ref c), some (.ref t), some (.int (cnt n v (os.take i)).1), some (.int (cnt n v (os.take i)).2), some (.int ((1 : Int) * 2 ^ (n - 1).toNat)), y5]) ⟨rfl, none, rfl⟩ (fun i σ H' hi hp => by rw [hp.1]; exact ht0) (fun i x σ H1 hx hp => ?_) (fun σ H1 hp => ?_)
    · obtain ⟨rfl, y5, rfl⟩ := hp
      obtain ⟨o, ho, rfl⟩ := at_ints hx
      have hs := cnt_take (n := n) (v := v) ho
      have hs1 : (cnt n v (os.take (i + 1))).1 = (cnt n v (os.take i)).1 + (if prd n (cnt n v (os.take i)).2 = o then 0 else 1) := by rw [hs]; rfl
      have hs2 : (cnt n v (os.take (i + 1))).2 = aft n (cnt n v (os.take i)).2 o := by rw [hs]; rfl
      clear hs
      generalize (cnt n v (os.take i)).1 = e at *
      generalize (cnt n v (os.take i)).2 = v1 at *
      refine ⟨.int e, rfl, .int v1, rfl, .int ((1 : Int) * 2 ^ (n - 1).toNat), rfl, _, _, rfl, rfl, .inr ⟨_, rfl, .int o, rfl, rfl, .inr ⟨_, rfl, _, _, rfl, rfl, ?_⟩⟩⟩
      rw [half_prd n1]
      have e1 : (if (!decide (V.int (prd n v1) = V.int o)) = true then (1 : Int) else 0) = (if prd n v1 = o then 0 else 1) := by
        by_cases z : prd n v1 = o
        · simp [z]
        · simp [z]
      rw [e1]
      refine ⟨.int o, rfl, rfl, _, rfl, ite2 (fun g => ?_) (fun g => ?_)⟩
      · have g1 : V.int o = V.int 1 := of_decide_eq_true g
        injection g1 with g2
        refine ⟨.int v1, rfl, _, _, rfl, rfl, .int ((1 : Int) * 2 ^ (n - 1).toNat), rfl, _, _, rfl, rfl, .inl ⟨by decide, by decide⟩, _, _, rfl, rfl, _, _, rfl, ?_⟩
        rw [half_aft n1 g2]
        refine ⟨rfl, some (.int o), ?_⟩
        rw [hs1, hs2]
        rfl
      · have g2 : o ≠ 1 := fun z => g (decide_eq_true (by rw [z]))
        have g3 : aft n v1 o = (if 0 > v1 - 1 then 0 else v1 - 1) := if_neg g2
        refine ⟨.int v1, rfl, _, _, rfl, rfl, _, _, rfl, rfl, some (.int o), ?_⟩
        rw [hs1, hs2, g3]
        rfl
    · obtain ⟨rfl, y5, rfl⟩ := hp
      rw [List.length_map, List.take_length]
      exact ⟨.int _, rfl, .int _, rfl, by show 2 ≤ sizeLine; decide, fun p np => q p _ (sm.trans (same_new np)) (.inl (.inl upd_same))⟩
end
end Pf
namespace Pf
open PySem PySem.Spec PyProof.Rows L2 Gk
/-! ### maps of values -/
def vmapTo (n : Int) (os : List Int) (j : Nat) : List Int := (List.range j).map fun i => (cnt n ((i : Nat) : Int) os).2
def vmap (n : Int) (os : List Int) : List Int := vmapTo n os (top n + 1).toNat
theorem vmapTo_succ (n : Int) (os : List Int) (j : Nat) : vmapTo n os (j + 1) = vmapTo n os j ++ [(cnt n ((j : Nat) : Int) os).2] := by
  unfold vmapTo
  rw [List.range_succ, List.map_append]
  rfl
theorem vmapTo_len (n : Int) (os : List Int) (j : Nat) : (vmapTo n os j).length = j := by
  unfold vmapTo
  rw [List.length_map, List.length_range]
theorem vmap_at {n : Int} {os : List Int} {i : Nat} (h : i < (top n + 1).toNat) : (vmap n os)[i]? = some (cnt n ((i : Nat) : Int) os).2 := by
  unfold vmap vmapTo
  rw [List.getElem?_map, List.getElem?_range h]
  rfl
/-- the places at which the place itself stands -/
def fixTo (xs : List Int) : Nat → List Int
  | 0 => []
  | i + 1 => fixTo xs i ++ (if xs[i]? = some (i : Int) then [(i : Int)] else [])
theorem fixTo_len (xs : List Int) : ∀ i, (fixTo xs i).length ≤ i
  | 0 => Nat.le_refl _
  | i + 1 => by
    have := fixTo_len xs i
    unfold fixTo
    split
    · rw [List.length_append]; show _ + 1 ≤ _; omega
    · rw [List.length_append]; show _ + 0 ≤ _; omega
abbrev sMap : Stmt := topS 5
abbrev sFix : Stmt := topS 6
abbrev nMap : List Str := ["bits", "outcomes", "first"]
abbrev nFix : List Str := ["bits", "outcomes", "first", "value"]
theorem scMap : FnScope nMap ["bits", "outcomes"] (defScope sMap) := ⟨rfl, rfl, rfl, by decide +kernel, rfl, by decide +kernel, by decide +kernel⟩
theorem scFix : FnScope nFix ["bits", "outcomes"] (defScope sFix) := ⟨rfl, rfl, rfl, by decide +kernel, rfl, by decide +kernel, by decide +kernel⟩
section
variable {P : Program} {w : World} {K : PySem.W.Frag} {mg : Str → Option Value} {base : Heap}
def spMap (K : PySem.W.Frag) : Sp := fun vs H Q _ => ∃ (t : Addr) (n : Int) (os : List Int), vs = [.int n, .ref t] ∧ 1 ≤ n ∧ n ≤ 8 ∧ SqT K H t (os.map V.int) ∧
  ∀ p H', Same H H' → SqT K H' p ((vmap n os).map V.int) → Q (.ref p) H'
def spFix (K : PySem.W.Frag) : Sp := fun vs H Q _ => ∃ (t : Addr) (n : Int) (os : List Int), vs = [.int n, .ref t] ∧ 1 ≤ n ∧ n ≤ 8 ∧ SqT K H t (os.map V.int) ∧
  ∀ p H', Same H H' → SqT K H' p ((fixTo (vmap n os) (vmap n os).length).map V.int) → Q (.ref p) H'
theorem ok_map {f : Addr} {fd : FuncData} (DM : Dfn P w K mg base 1 "most_value" ["bits"] spMost) (DC : Dfn P w K mg base 3 "counted" ["counter", "outcomes"] (spCnt K)) (mr : mg "range" = none) (mt : mg "tuple" = none)
    (F : L2.Fun K "value_map" "value_map" sMap f fd) : FnOk P w K mg base L2.CX0 4 f fd ["bits", "outcomes"] (spMap K) := by
  refine F.ok scMap (fun vs H Q E h => ?_) (fun cdv A outer s H vs Q E hr h => ?_)
  · obtain ⟨t, n, os, rfl, _⟩ := h
    rfl
  · obtain ⟨t, n, os, rfl, n1, n8, ht, q⟩ := h
    refine ⟨_, pss_one (ps_ret (pe_callTy call_tuple_of (by rfl) mt (by decide +kernel) (pa_cons (pe_lc (own := [("first", 2)]) (g := gName 2) (by rfl) scMap.nd (pi_range1 rfl mr (pa_cons (pe_op op_add (pe_d DM hr (by decide) (by rfl) (pa_cons (pv 0) pa_nil)) pe_int) pa_nil))
        (blkOk_by (N := nMap) (sc := defScope sMap) (by decide +kernel)) (fun _ _ _ _ _ => pg_name (i := 2) scMap.nd rfl (.inl rfl)) (fun _ _ _ _ _ => pts_nil)
        (fun _ _ _ _ _ => pe_ix (ix_tupK K) (pe_d DC hr (by decide) (by rfl) (pa_cons (pe_tup (pa_cons (pv 0) (pa_cons (pv 2) pa_nil))) (pa_cons (pv 1) pa_nil))) pe_int (fun _ _ => rfl))) pa_nil))), ?_⟩
    have t1 := top_pos n1
    have t2 : top n ≤ 2 ^ 8 := top_le (n := 8) n8
    refine ⟨.int n, rfl, n, rfl, n1, by omega, _, _, rfl, rfl, _, rfl, by omega, by omega, fun D nD => lc_range (lo := 0) (n := (top n + 1).toNat)
      (fun j H' => Same H H' ∧ H' D = some (.lst ((vmapTo n os j).map V.int))) ⟨same_new nD, upd_same⟩ (fun j H2 hj hp => ?_) (fun H2 hp => ?_)⟩
    · obtain ⟨sm2, hD⟩ := hp
      refine ⟨rfl, .int n, rfl, .int (0 + (j : Nat)), rfl, by show 2 ≤ sizeLine; decide, fun c nc => ⟨.ref t, rfl, c, t, n, 0 + (j : Nat), os, rfl, n1, by omega, .inl (.inl upd_same), Same.seqT (sm2.trans (same_new nc)) ht, fun d H3 s3 t3 => ?_⟩⟩
      refine ⟨d, _, 1, .int (cnt n (0 + (j : Nat)) os).2, rfl, rfl, t3, rfl, (vmapTo n os j).map V.int, s3 _ _ (same_new nc _ _ hD), ?_, ?_, ?_⟩
      · rw [List.length_map, vmapTo_len]
        exact small1000 (by omega)
      · intro a o h
        rw [upd_ne (ne_of_none h nD)]
        exact s3 _ _ (same_new nc _ _ (sm2 _ _ h))
      · rw [upd_same, vmapTo_succ, List.map_append, Int.zero_add]
        rfl
    · obtain ⟨sm2, hD⟩ := hp
      exact ⟨D, _, rfl, .inl ⟨.inl (.inl hD), fun p np => q p _ (sm2.trans (same_new np)) (.inl (.inl upd_same))⟩⟩
theorem ok_fix {f : Addr} {fd : FuncData} (DV : Dfn P w K mg base 4 "value_map" ["bits", "outcomes"] (spMap K)) (me : mg "enumerate" = none) (mt : mg "tuple" = none)
    (F : L2.Fun K "fixed_values" "fixed_values" sFix f fd) : FnOk P w K mg base L2.CX0 5 f fd ["bits", "outcomes"] (spFix K) := by
  refine F.ok scFix (fun vs H Q E h => ?_) (fun cdv A outer s H vs Q E hr h => ?_)
  · obtain ⟨t, n, os, rfl, _⟩ := h
    rfl
  · obtain ⟨t, n, os, rfl, n1, n8, ht, q⟩ := h
    refine ⟨_, pss_one (ps_ret (pe_callTy call_tuple_of (by rfl) mt (by decide +kernel) (pa_cons (pe_lc (own := [("first", 2), ("value", 3)]) (g := gTup K 2 (gCons (gName 2) (gCons (gName 3) gNil))) (by rfl) scFix.nd (pi_enumU rfl me (pa_cons (pe_d DV hr (by decide) (by rfl) (pa_cons (pv 0) (pa_cons (pv 1) pa_nil))) pa_nil))
        (blkOk_by (N := nFix) (sc := defScope sFix) (by decide +kernel)) (fun _ _ _ _ _ => pg_tup rfl (pgs_cons (pg_name (i := 2) scFix.nd rfl (.inl rfl)) (pgs_cons (pg_name (i := 3) scFix.nd rfl (.inl rfl)) pgs_nil)))
        (fun _ _ _ _ _ => pts_one (pt_cmpR op_eq (pv 2) (pv 3) (nomark _))) (fun _ _ _ _ _ => pv 2)) pa_nil))), ?_⟩
    have t1 := top_pos n1
    have t2 : top n ≤ 2 ^ 8 := top_le (n := 8) n8
    refine ⟨.int n, rfl, .ref t, rfl, t, n, os, rfl, n1, n8, ht, fun r H1 s1 t1' => ⟨r, _, rfl, t1', fun D nD => ?_⟩⟩
    have vl : (vmap n os).length = (top n + 1).toNat := vmapTo_len _ _ _
    generalize vmap n os = xs at *
    refine lc_it walk_ent (fun i H' => Same H1 H' ∧ H' D = some (.lst ((fixTo xs i).map V.int))) ⟨same_new nD, upd_same⟩ (fun i H' _ hp => Same.seqT hp.1 t1') (fun i x H2 H3 hi hp hy => ?_) (fun H2 hp => ?_)
    · obtain ⟨sm2, hD⟩ := hp
      obtain ⟨R, x, rfl, nR, hx, rfl⟩ := hy
      obtain ⟨o, ho, rfl⟩ := at_ints hx
      have hi2 : i < xs.length := (List.getElem?_eq_some_iff.mp ho).1
      have dR : D ≠ R := ne_of_none hD nR
      have hD3 : (upd H2 R (.tup [.int (i : Nat), .int o])) D = some (.lst ((fixTo xs i).map V.int)) := by rw [upd_ne dR]; exact hD
      have sm3 : Same H1 (upd H2 R (.tup [.int (i : Nat), .int o])) := sm2.trans (same_new nR)
      refine ⟨R, _, rfl, .inl (.inl upd_same), rfl, _, _, rfl, _, _, rfl, rfl, rfl, .int (i : Nat), rfl, .int o, rfl, rfl, _, rfl, ite2 (fun e => ?_) (fun e => ?_)⟩
      · have e1 : V.int (i : Nat) = V.int o := of_decide_eq_true e
        injection e1 with e2
        refine ⟨.int (i : Nat), rfl, (fixTo xs i).map V.int, hD3, ?_, ?_, ?_⟩
        · have := fixTo_len xs i
          rw [List.length_map]
          exact small1000 (by omega)
        · intro a u h
          rw [upd_ne (ne_of_none h nD)]
          exact sm3 a u h
        · rw [upd_same]
          show _ = some (HO.lst ((fixTo xs i ++ (if xs[i]? = some (i : Int) then [(i : Int)] else [])).map V.int))
          rw [if_pos (by rw [ho, e2]), List.map_append]
          rfl
      · have e2 : ¬ xs[i]? = some (i : Int) := fun z => by
          rw [ho] at z
          injection z with z
          exact e (decide_eq_true (by rw [z]))
        refine ⟨sm3, ?_⟩
        rw [hD3]
        show _ = some (HO.lst ((fixTo xs i ++ (if xs[i]? = some (i : Int) then [(i : Int)] else [])).map V.int))
        rw [if_neg e2, List.append_nil]
    · obtain ⟨sm2, hD⟩ := hp
      rw [List.length_map] at hD
      exact ⟨D, _, rfl, .inl ⟨.inl (.inl hD), fun p np => q p _ ((s1.trans sm2).trans (same_new np)) (.inl (.inl upd_same))⟩⟩
end
end Pf
namespace Pf
open PySem PySem.Spec PyProof.Rows L2 Gk
abbrev sRight : Stmt := topS 13
abbrev nRight : List Str := ["_law_box_here", "_law_turn", "_law_some", "_law_deeds", "_law_width", "_law_due", "_law_fixed", "_law_first", "_law_here"]
theorem scRight : FnScope nRight ["_law_box_here"] (defScope sRight) := ⟨rfl, rfl, rfl, by decide +kernel, rfl, by decide +kernel, by decide +kernel⟩
/-- small numbers in two tuples are easily shown -/
theorem ints_tame : ∀ {xs : List Int}, (∀ x ∈ xs, 0 ≤ x ∧ x ≤ 100) → tameAll (xs.map PyData.int) = true ∧ costAll (xs.map PyData.int) = 71 * xs.length + 1 ∧ PyData.depthAll (xs.map PyData.int) ≤ 1
  | [], _ => ⟨rfl, rfl, by decide⟩
  | x :: xs, hx => by
    obtain ⟨a, b, c⟩ := ints_tame fun o ho => hx o (List.mem_cons_of_mem _ ho)
    have x2 := hx x (List.mem_cons_self ..)
    refine ⟨?_, ?_, ?_⟩
    · simp only [List.map_cons, tameAll, Gk.tame, a, Bool.and_true]
      exact decide_eq_true (by omega)
    · simp only [List.map_cons, costAll, Gk.cost, b, List.length_cons]
      omega
    · simp only [List.map_cons, PyData.depthAll, PyData.depth]
      omega
theorem two_fine {xs ys : List Int} (hx : ∀ x ∈ xs, 0 ≤ x ∧ x ≤ 100) (hy : ∀ y ∈ ys, 0 ≤ y ∧ y ≤ 100) (lx : xs.length ≤ 100) (ly : ys.length ≤ 100) : Fine (.list [.tuple (xs.map PyData.int), .tuple (ys.map PyData.int)]) := by
  obtain ⟨a1, a2, a3⟩ := ints_tame hx
  obtain ⟨b1, b2, b3⟩ := ints_tame hy
  refine Fine.tame ?_ ?_ ?_
  · simp only [Gk.tame, tameAll, a1, b1, Bool.and_self]
  · simp only [PyData.depth, PyData.depthAll]
    omega
  · simp only [Gk.cost, costAll]
    omega
theorem vmap_ok {n : Int} (n1 : 1 ≤ n) (n4 : n ≤ 4) (os : List Int) : (∀ x ∈ vmap n os, 0 ≤ x ∧ x ≤ 100) ∧ (vmap n os).length ≤ 100 := by
  have t1 := top_pos n1
  have t2 : top n ≤ 2 ^ 4 := top_le (n := 4) n4
  refine ⟨fun x hx => ?_, ?_⟩
  · unfold vmap vmapTo at hx
    obtain ⟨i, hi, rfl⟩ := List.mem_map.mp hx
    have := List.mem_range.mp hi
    have := cnt_val n1 os ((i : Nat) : Int) (by omega) (by omega)
    omega
  · unfold vmap
    rw [vmapTo_len]
    omega
theorem fix_ok (xs : List Int) (h : xs.length ≤ 100) : ∀ i, i ≤ 100 → (∀ x ∈ fixTo xs i, 0 ≤ x ∧ x ≤ 100) ∧ (fixTo xs i).length ≤ 100
  | 0, _ => ⟨fun x hx => absurd hx List.not_mem_nil, Nat.zero_le _⟩
  | i + 1, hi => by
    refine ⟨fun x hx => ?_, ?_⟩
    · unfold fixTo at hx
      rcases List.mem_append.mp hx with hx | hx
      · exact (fix_ok xs h i (by omega)).1 x hx
      · split at hx
        · rw [List.mem_singleton.mp hx]
          omega
        · exact absurd hx List.not_mem_nil
    · have := fixTo_len xs (i + 1)
      omega
section
variable {P : Program} {w : World} {K : PySem.W.Frag} {mg : Str → Option Value} {base : Heap}
theorem ok_right {f : Addr} {fd : FuncData} (DT : Dfn P w K mg base 1 "_law_take" ["_law_box_here", "_law_many"] spTake) (DO : Dfn P w K mg base 2 "_law_of" ["_law_box_here", "_law_some"] (spOf K))
    (DW : Dfn P w K mg base 2 "_law_row" ["_law_box_here", "_law_most"] (spRow K)) (DV : Dfn P w K mg base 4 "value_map" ["bits", "outcomes"] (spMap K)) (DX : Dfn P w K mg base 5 "fixed_values" ["bits", "outcomes"] (spFix K)) (DL : Dfn P w K mg base 1 "_law_learned" ["_law_gauge", "_law_deeds"] (spCnt K))
    (mr : mg "range" = none) (mp : mg "repr" = none) (ml : mg "len" = none) (me : mg "enumerate" = none) (mt : mg "tuple" = none) (F : L2.Fun K "_law_right" "_law_right" sRight f fd) : FnG P w K mg base 6 f fd ["_law_box_here"] spRight := by
  refine fnG F scRight (fun vs H Q E h => ?_) (fun cdv A outer s H vs Q hr hg h => ?_)
  · obtain ⟨b, m, rfl, _⟩ := h
    rfl
  · obtain ⟨b, m, rfl, hb, hm, q⟩ := h
    refine ⟨_, pss_cons (ps_for PassesOwn.never rfl (pi_range1 rfl mr (pa_cons pe_int pa_nil)) (pg_name (i := 1) scRight.nd rfl (.inl rfl))
        (C8.pss_cut (ps_set (i := 2) scRight.nd rfl (.inl rfl) (pe_lst (pa_cons (pe_tup pa_nil) (pa_cons (pe_op op_repU (pe_tup (pa_cons pe_int pa_nil)) pe_int) (pa_cons (pe_tup (pa_cons pe_int pa_nil)) (pa_cons (pe_op op_repU (pe_tup (pa_cons pe_int (pa_cons pe_int pa_nil))) pe_int) (pa_cons (pe_tup (pa_cons pe_int (pa_cons pe_int pa_nil))) pa_nil)))))))
        (C8.pss_cut (ps_set (i := 3) scRight.nd rfl (.inr rfl) (pe_d DO hr (by decide) (by rfl) (pa_cons (pv 0) (pa_cons (pe_op op_cat (pv 2) (pe_lst (pa_cons (pe_d DW hr (by decide) (by rfl) (pa_cons (pv 0) (pa_cons pe_int pa_nil))) (pa_cons (pe_d DW hr (by decide) (by rfl) (pa_cons (pv 0) (pa_cons pe_int pa_nil))) pa_nil)))) pa_nil))))
        (pss_one (ps_for PassesOwn.never rfl (pi_tup (pe_tup (pa_cons pe_int (pa_cons pe_int (pa_cons pe_int (pa_cons pe_int pa_nil)))))) (pg_name (i := 4) scRight.nd rfl (.inr rfl))
          (pss_cons (ps_set (i := 5) scRight.nd rfl (.inl rfl) (pe_callTy call_tuple_of (by rfl) mt (by decide +kernel) (pa_cons (pe_lc (own := [("_law_first", 7)]) (g := gName 7) (by rfl) scRight.nd (pi_range1 rfl mr (pa_cons (pe_op op_shl pe_int (pv 4)) pa_nil)) (blkOk_by (N := nRight) (sc := defScope sRight) (by decide +kernel))
              (fun _ _ _ _ _ => pg_name (i := 7) scRight.nd rfl (.inl rfl)) (fun _ _ _ _ _ => pts_nil)
              (fun _ _ _ _ _ => pe_ix (ix_tupK K) (pe_d DL hr (by decide) (by rfl) (pa_cons (pe_tup (pa_cons (pv 4) (pa_cons (pv 7) pa_nil))) (pa_cons (pv 3) pa_nil))) pe_int (fun _ _ => rfl))) pa_nil)))
          (pss_cons (ps_set (i := 6) scRight.nd rfl (.inl rfl) (pe_callTy call_tuple_of (by rfl) mt (by decide +kernel) (pa_cons (pe_lc (own := [("_law_first", 7), ("_law_here", 8)]) (g := gTup K 2 (gCons (gName 7) (gCons (gName 8) gNil))) (by rfl) scRight.nd (pi_enumU rfl me (pa_cons (pv 5) pa_nil)) (blkOk_by (N := nRight) (sc := defScope sRight) (by decide +kernel))
              (fun _ _ _ _ _ => pg_tup rfl (pgs_cons (pg_name (i := 7) scRight.nd rfl (.inl rfl)) (pgs_cons (pg_name (i := 8) scRight.nd rfl (.inl rfl)) pgs_nil)))
              (fun _ _ _ _ _ => pts_one (pt_cmpR op_eq (pv 7) (pv 8) (nomark _))) (fun _ _ _ _ _ => pv 7)) pa_nil)))
          (pss_one (ps_if (pt_cmpR op_ne (pe_callB (call_reprF hr hg) (by rfl) mp (by decide +kernel) (pa_cons (pe_lst (pa_cons (pe_d DV hr (by decide) (by rfl) (pa_cons (pv 4) (pa_cons (pv 3) pa_nil))) (pa_cons (pe_d DX hr (by decide) (by rfl) (pa_cons (pv 4) (pa_cons (pv 3) pa_nil))) pa_nil))) pa_nil))
              (pe_callB (call_reprF hr hg) (by rfl) mp (by decide +kernel) (pa_cons (pe_lst (pa_cons (pv 5) (pa_cons (pv 6) pa_nil))) pa_nil)) (nomark _)) (pss_one (ps_ret pe_bl)) pss_nil)))))))))
      (pss_one (ps_ret pe_bl)), ?_⟩
    refine ⟨12, rfl, by decide, by decide, for_range (lo := 0) (n := (12 : Int).toNat) (fun i σ H' => (∃ y1 y2 y3 y4 y5 y6, σ = [some (.ref b), y1, y2, y3, y4, y5, y6, none, none]) ∧ But b H H' ∧ Box (m + 400 * i) H' b) ⟨⟨none, none, none, none, none, none, rfl⟩, But.refl b H, hb⟩ (fun i σ H1 hi hp => ?_) (fun σ H1 hp => ?_)⟩
    · obtain ⟨⟨y1, y2, y3, y4, y5, y6, rfl⟩, bt, bx⟩ := hp
      have hi : i < 12 := hi
      refine ⟨fun σ' H2 => ∃ l xs, σ' = [some (.ref b), some (.int (0 + (i : Nat))), some (.ref l), y3, y4, y5, y6, none, none] ∧ l ≠ b ∧ H2 l = some (.lst xs) ∧ xs.length = 5 ∧ (∀ v ∈ xs, Outs K H2 v) ∧ Same H1 H2, ?_, fun σ' H2 hM => ?_⟩
      · refine go_asP ?_
        refine lst_outs (K := K) (n := 5) (mkOs_cons (mkI_tup mkIs_nil (by decide)) (by decide) (bits_all (by decide)) (mkOs_cons (mkI_rep (mkI_tup (mkIs_cons mkIs_nil) (by decide)) (by decide) (by decide) (by decide) (by decide) (by decide)) (by decide) (bits_all (by decide +kernel))
          (mkOs_cons (mkI_tup (mkIs_cons mkIs_nil) (by decide)) (by decide) (bits_all (by decide)) (mkOs_cons (mkI_rep (mkI_tup (mkIs_cons (mkIs_cons mkIs_nil)) (by decide)) (by decide) (by decide) (by decide) (by decide) (by decide)) (by decide) (bits_all (by decide +kernel))
          (mkOs_cons (mkI_tup (mkIs_cons (mkIs_cons mkIs_nil)) (by decide)) (by decide) (bits_all (by decide)) mkOs_nil))))) (by decide) fun p xs H2 s np hp l o => ?_
        exact ⟨p, xs, rfl, (bx.ne np).symm, hp, l, o, s⟩
      obtain ⟨l, xs, rfl, lb, hl, xl, xo, s2⟩ := hM
      have bx2 := bx.same s2
      refine ⟨fun σ' H3 => ∃ (p : Addr) (os : List Int), σ' = [some (.ref b), some (.int (0 + (i : Nat))), some (.ref l), some (.ref p), y4, y5, y6, none, none] ∧ SqT K H3 p (os.map V.int) ∧ os.length ≤ 64 ∧ Bits os ∧ But b H H3 ∧ Box (m + 400 * i + 310) H3 b, ?_, fun σ' H3 hM => ?_⟩
      · refine go_asP ?_
        refine ⟨.ref b, rfl, .ref l, rfl, .ref b, rfl, b, 64, m + 400 * i, rfl, by decide, by decide, bx2, by omega, fun H3 p3 l3 bt3 bx3 t3 a3 c3 e3 => ?_⟩
        refine ⟨.ref b, rfl, b, 9, m + 400 * i + 150, rfl, by decide, by decide, bx3, by omega, fun H4 p4 l4 bt4 bx4 t4 a4 c4 e4 => ?_⟩
        refine ⟨by show 2 ≤ sizeLine; decide, fun p6 n6 => ?_⟩
        have h4 : H4 l = some (.lst xs) := bt4 _ _ lb (bt3 _ _ lb hl)
        have n6l : l ≠ p6 := ne_of_none h4 n6
        have bx6 := bx4.same (same_new (o := .lst [.ref p3, .ref p4]) n6)
        refine ⟨l, p6, xs, _, rfl, rfl, by rw [upd_ne n6l]; exact h4, upd_same, by rw [xl]; show 5 + 2 ≤ sizeLine; decide, fun p7 n7 => ?_⟩
        have s6 : Same H4 (upd (upd H4 p6 (.lst [.ref p3, .ref p4])) p7 (.lst (xs ++ [.ref p3, .ref p4]))) := (same_new n6).trans (same_new n7)
        have bx7 := bx4.same s6
        have k4 : Keep K H2 H4 := (But.keep bt3 bx2).trans (But.keep bt4 bx3)
        have o7 : ∀ v ∈ xs ++ [.ref p3, .ref p4], Outs K (upd (upd H4 p6 (.lst [.ref p3, .ref p4])) p7 (.lst (xs ++ [.ref p3, .ref p4]))) v := fun v hv => by
          refine Outs.keep (Same.keep s6) ?_
          rcases List.mem_append.mp hv with hv | hv
          · exact (xo v hv).keep k4
          · rcases List.mem_cons.mp hv with rfl | hv
            · exact ⟨p3, l3, rfl, But.keep bt4 bx3 _ _ t3, by omega, e3⟩
            · rw [List.mem_singleton.mp hv]
              exact ⟨p4, l4, rfl, t4, by omega, e4⟩
        refine ⟨b, p7, _, m + 400 * i + 150 + 150, rfl, SqL.of upd_same, (bx6.ne n7).symm, ?_, ?_, bx7, by omega, fun j v H8 hv bt8 bx8 sm8 => ?_⟩
        · rw [List.length_append, xl]; show 0 < 5 + 2; decide
        · rw [List.length_append, xl]; show 5 + 2 ≤ 1000; decide
        · obtain ⟨p, os, rfl, t8, a8, e8⟩ := (o7 v (List.mem_of_getElem? hv)).keep (But.keep bt8 bx7)
          exact ⟨p, os, rfl, t8, a8, e8, ((((bt.trans (But.of_same s2)).trans bt3).trans bt4).trans (But.of_same s6)).trans bt8, bx8.up (by omega)⟩
      · obtain ⟨p, os, rfl, ht, ol, ob, bt3, bx3⟩ := hM
        refine ⟨by show 4 ≤ sizeLine; decide, fun t nt => ⟨t, rfl, ⟨_, .inl (.inl upd_same)⟩, for_tup (K := K) (xs := [.int 1, .int 2, .int 3, .int 4])
          (fun j σ H' => (∃ y4 y5 y6, σ = [some (.ref b), some (.int (0 + (i : Nat))), some (.ref l), some (.ref p), y4, y5, y6, none, none]) ∧ Same (upd H3 t (.tup [.int 1, .int 2, .int 3, .int 4])) H') ⟨⟨y4, y5, y6, rfl⟩, Same.refl _⟩ (fun j σ H' _ hp => Same.seqT hp.2 (.inl (.inl upd_same))) (fun j y σ H4 hy hp => ?_) (fun σ H4 hp => ?_)⟩⟩
        · obtain ⟨⟨y4, y5, y6, rfl⟩, s4⟩ := hp
          have s34 : Same H3 H4 := (same_new nt).trans s4
          obtain ⟨n, rfl, n1, n4⟩ : ∃ n : Int, y = .int n ∧ 1 ≤ n ∧ n ≤ 4 := by
            match j, hy with
            | 0, hy => exact ⟨1, (Option.some.inj hy).symm, by decide, by decide⟩
            | 1, hy => exact ⟨2, (Option.some.inj hy).symm, by decide, by decide⟩
            | 2, hy => exact ⟨3, (Option.some.inj hy).symm, by decide, by decide⟩
            | 3, hy => exact ⟨4, (Option.some.inj hy).symm, by decide, by decide⟩
          have hpow : (2 : Int) ^ n.toNat ≤ 2 ^ 4 := pow2_mono (by omega)
          have hpow0 : (0 : Int) < 2 ^ n.toNat := Int.pow_pos (by decide)
          have htn : ((1 : Int) * 2 ^ n.toNat).toNat = (top n + 1).toNat := by unfold top; omega
          have t1 := top_pos n1
          have t2 : top n ≤ 2 ^ 4 := top_le (n := 4) n4
          have ht4 := Same.seqT s34 ht
          refine ⟨.int n, rfl, _, _, rfl, rfl, ⟨by omega, by omega, by decide⟩, _, rfl, by omega, by omega, fun D nD => lc_range (lo := 0) (n := ((1 : Int) * 2 ^ n.toNat).toNat)
            (fun k H' => Same H4 H' ∧ H' D = some (.lst ((vmapTo n os k).map V.int))) ⟨same_new nD, upd_same⟩ (fun k H5 hk hp => ?_) (fun H5 hp => ?_)⟩
          · obtain ⟨sm5, hD⟩ := hp
            rw [htn] at hk
            refine ⟨rfl, .int n, rfl, .int (0 + (k : Nat)), rfl, by show 2 ≤ sizeLine; decide, fun c nc => ⟨.ref p, rfl, c, p, n, 0 + (k : Nat), os, rfl, n1, by omega, .inl (.inl upd_same), Same.seqT (sm5.trans (same_new nc)) ht4, fun d H6 s6 t6 => ?_⟩⟩
            refine ⟨d, _, 1, .int (cnt n (0 + (k : Nat)) os).2, rfl, rfl, t6, rfl, (vmapTo n os k).map V.int, s6 _ _ (same_new nc _ _ hD), ?_, ?_, ?_⟩
            · rw [List.length_map, vmapTo_len]
              exact small1000 (by omega)
            · intro a o h
              rw [upd_ne (ne_of_none h nD)]
              exact s6 _ _ (same_new nc _ _ (sm5 _ _ h))
            · rw [upd_same, vmapTo_succ, List.map_append, Int.zero_add]
              rfl
          · obtain ⟨sm5, hD⟩ := hp
            rw [htn] at hD
            refine ⟨D, _, rfl, .inl ⟨.inl (.inl hD), fun u nu => ?_⟩⟩
            have s5 : Same H4 (upd H5 u (.tup ((vmapTo n os (top n + 1).toNat).map V.int))) := sm5.trans (same_new nu)
            have tu : SqT K (upd H5 u (.tup ((vmapTo n os (top n + 1).toNat).map V.int))) u ((vmap n os).map V.int) := .inl (.inl upd_same)
            generalize upd H5 u (.tup ((vmapTo n os (top n + 1).toNat).map V.int)) = H6 at s5 tu
            obtain ⟨v1, v2⟩ := vmap_ok n1 n4 os
            obtain ⟨f1, f2⟩ := fix_ok (vmap n os) v2 (vmap n os).length v2
            have fin := two_fine v1 f1 v2 f2
            have rest : ∀ (u2 : Addr) (H7 : Hp), Same H6 H7 → SqT K H7 u2 ((fixTo (vmap n os) (vmap n os).length).map V.int) → SqT K H7 u ((vmap n os).map V.int) ∧ True := fun u2 H7 s7 _ => ⟨Same.seqT s7 tu, trivial⟩
            refine ⟨.ref u, rfl, u, _, rfl, tu, fun D2 nD2 => ?_⟩
            generalize hxs : vmap n os = xs at *
            refine lc_it walk_ent (fun k H' => Same H6 H' ∧ H' D2 = some (.lst ((fixTo xs k).map V.int))) ⟨same_new nD2, upd_same⟩ (fun k H' _ hp => Same.seqT hp.1 tu) (fun k x H7 H8 hk hp hy => ?_) (fun H7 hp => ?_)
            · obtain ⟨sm2, hD2⟩ := hp
              obtain ⟨R, x, rfl, nR, hx, rfl⟩ := hy
              obtain ⟨o, ho, rfl⟩ := at_ints hx
              have hk2 : k < xs.length := (List.getElem?_eq_some_iff.mp ho).1
              have dR : D2 ≠ R := ne_of_none hD2 nR
              have hD3 : (upd H7 R (.tup [.int (k : Nat), .int o])) D2 = some (.lst ((fixTo xs k).map V.int)) := by rw [upd_ne dR]; exact hD2
              have sm3 : Same H6 (upd H7 R (.tup [.int (k : Nat), .int o])) := sm2.trans (same_new nR)
              refine ⟨R, _, rfl, .inl (.inl upd_same), rfl, _, _, rfl, _, _, rfl, rfl, rfl, .int (k : Nat), rfl, .int o, rfl, rfl, _, rfl, ite2 (fun e => ?_) (fun e => ?_)⟩
              · have e1 : V.int (k : Nat) = V.int o := of_decide_eq_true e
                injection e1 with e2
                refine ⟨.int (k : Nat), rfl, (fixTo xs k).map V.int, hD3, ?_, ?_, ?_⟩
                · have := fixTo_len xs k
                  rw [List.length_map]
                  exact small1000 (by omega)
                · intro a u h
                  rw [upd_ne (ne_of_none h nD2)]
                  exact sm3 a u h
                · rw [upd_same]
                  show _ = some (HO.lst ((fixTo xs k ++ (if xs[k]? = some (k : Int) then [(k : Int)] else [])).map V.int))
                  rw [if_pos (by rw [ho, e2]), List.map_append]
                  rfl
              · have e2 : ¬ xs[k]? = some (k : Int) := fun z => by
                  rw [ho] at z
                  injection z with z
                  exact e (decide_eq_true (by rw [z]))
                refine ⟨sm3, ?_⟩
                rw [hD3]
                show _ = some (HO.lst ((fixTo xs k ++ (if xs[k]? = some (k : Int) then [(k : Int)] else [])).map V.int))
                rw [if_neg e2, List.append_nil]
            · obtain ⟨sm2, hD2⟩ := hp
              rw [List.length_map] at hD2
              refine ⟨D2, _, rfl, .inl ⟨.inl (.inl hD2), fun u2 nu2 => ?_⟩⟩
              have s7 : Same H6 (upd H7 u2 (.tup ((fixTo xs xs.length).map V.int))) := sm2.trans (same_new nu2)
              have tu2 : SqT K (upd H7 u2 (.tup ((fixTo xs xs.length).map V.int))) u2 ((fixTo xs xs.length).map V.int) := .inl (.inl upd_same)
              generalize upd H7 u2 (.tup ((fixTo xs xs.length).map V.int)) = H8 at s7 tu2
              have s48 := s5.trans s7
              refine ⟨.int n, rfl, .ref p, rfl, p, n, os, rfl, n1, by omega, Same.seqT s48 ht4, fun a H9 s9 t9 => ?_⟩
              rw [hxs] at t9
              refine ⟨.int n, rfl, .ref p, rfl, p, n, os, rfl, n1, by omega, Same.seqT (s48.trans s9) ht4, fun c H10 s10 t10 => ?_⟩
              rw [hxs] at t10
              refine ⟨by show 2 ≤ sizeLine; decide, fun g ng => ⟨_, _, rfl, .lst (.inl (.inl upd_same)) (.cons (outs_dp (Same.seqT (s10.trans (same_new ng)) t9)) (.cons (outs_dp (Same.seqT (same_new ng) t10)) .nil)), fin, ?_⟩⟩
              have s8 : Same H8 (upd H10 g (.lst [.ref a, .ref c])) := (s9.trans s10).trans (same_new ng)
              refine ⟨.ref u, rfl, .ref u2, rfl, by show 2 ≤ sizeLine; decide, fun g2 ng2 => ⟨_, _, rfl, .lst (.inl (.inl upd_same)) (.cons (outs_dp (Same.seqT ((s7.trans s8).trans (same_new ng2)) tu)) (.cons (outs_dp (Same.seqT (s8.trans (same_new ng2)) tu2)) .nil)), fin, rfl, _, rfl, iteNS rfl ?_⟩⟩
              exact ⟨⟨_, _, _, rfl⟩, s4.trans ((s48.trans s8).trans (same_new ng2))⟩
        · obtain ⟨⟨y4, y5, y6, rfl⟩, s4⟩ := hp
          exact ⟨⟨_, _, _, _, _, _, rfl⟩, bt3.trans (But.of_same ((same_new nt).trans s4)), (bx3.same ((same_new nt).trans s4)).up (by omega)⟩
    · obtain ⟨⟨y1, y2, y3, y4, y5, y6, rfl⟩, bt, bx⟩ := hp
      exact q H1 bt (bx.up (by show m + 400 * 12 ≤ m + 20000; omega))
end
end Pf
namespace Pf
open PySem PySem.Spec PyProof.Rows L2 Gk
theorem all_mk {P : Program} {w : World} {K : PySem.W.Frag} {h : Heap} {mg : Str → Option Value} {fa : Addr} (X : K.In h) (G : h.Ns mainGlobals mg) (hfa : mg "law" = some (.ref fa))
    {f0 : Addr} {od0 an0 : Option Addr} {sl0 : Array (Option Value)} {oc0 kV0 dc0 pm0 cd0 ct0 : Value} {f1 : Addr} {od1 an1 : Option Addr} {sl1 : Array (Option Value)} {oc1 kV1 dc1 pm1 cd1 ct1 : Value} {f2 : Addr} {od2 an2 : Option Addr} {sl2 : Array (Option Value)} {oc2 kV2 dc2 pm2 cd2 ct2 : Value} {f3 : Addr} {od3 an3 : Option Addr} {sl3 : Array (Option Value)} {oc3 kV3 dc3 pm3 cd3 ct3 : Value} {f4 : Addr} {od4 an4 : Option Addr} {sl4 : Array (Option Value)} {oc4 kV4 dc4 pm4 cd4 ct4 : Value} {f5 : Addr} {od5 an5 : Option Addr} {sl5 : Array (Option Value)} {oc5 kV5 dc5 pm5 cd5 ct5 : Value} {f6 : Addr} {od6 an6 : Option Addr} {sl6 : Array (Option Value)} {oc6 kV6 dc6 pm6 cd6 ct6 : Value} {f7 : Addr} {od7 an7 : Option Addr} {sl7 : Array (Option Value)} {oc7 kV7 dc7 pm7 cd7 ct7 : Value} {f8 : Addr} {od8 an8 : Option Addr} {sl8 : Array (Option Value)} {oc8 kV8 dc8 pm8 cd8 ct8 : Value} {f9 : Addr} {od9 an9 : Option Addr} {sl9 : Array (Option Value)} {oc9 kV9 dc9 pm9 cd9 ct9 : Value} {f10 : Addr} {od10 an10 : Option Addr} {sl10 : Array (Option Value)} {oc10 kV10 dc10 pm10 cd10 ct10 : Value} {f11 : Addr} {od11 an11 : Option Addr} {sl11 : Array (Option Value)} {oc11 kV11 dc11 pm11 cd11 ct11 : Value} {f12 : Addr} {od12 an12 : Option Addr} {sl12 : Array (Option Value)} {oc12 kV12 dc12 pm12 cd12 ct12 : Value}
    (a0 : PySem.W.nsIn K mainGlobals "most_value" = some (some (.ref f0)))
    (l0 : K.lookup f0 = some ⟨oc0, od0, .func (PySem.W.fnOf "most_value" "most_value" (defArgs sMost) (defBody sMost) (defScope sMost) .none kV0 dc0 pm0 an0 cd0 ct0), sl0⟩)
    (c0 : PySem.W.codeIn K cd0 "most_value" = true) (k0 : PySem.W.keepIn K (.ref f0) = true)
    (a1 : PySem.W.nsIn K mainGlobals "predicted" = some (some (.ref f1)))
    (l1 : K.lookup f1 = some ⟨oc1, od1, .func (PySem.W.fnOf "predicted" "predicted" (defArgs sPred) (defBody sPred) (defScope sPred) .none kV1 dc1 pm1 an1 cd1 ct1), sl1⟩)
    (c1 : PySem.W.codeIn K cd1 "predicted" = true) (k1 : PySem.W.keepIn K (.ref f1) = true)
    (a2 : PySem.W.nsIn K mainGlobals "value_after" = some (some (.ref f2)))
    (l2 : K.lookup f2 = some ⟨oc2, od2, .func (PySem.W.fnOf "value_after" "value_after" (defArgs sAft) (defBody sAft) (defScope sAft) .none kV2 dc2 pm2 an2 cd2 ct2), sl2⟩)
    (c2 : PySem.W.codeIn K cd2 "value_after" = true) (k2 : PySem.W.keepIn K (.ref f2) = true)
    (a3 : PySem.W.nsIn K mainGlobals "counted" = some (some (.ref f3)))
    (l3 : K.lookup f3 = some ⟨oc3, od3, .func (PySem.W.fnOf "counted" "counted" (defArgs sCnt) (defBody sCnt) (defScope sCnt) .none kV3 dc3 pm3 an3 cd3 ct3), sl3⟩)
    (c3 : PySem.W.codeIn K cd3 "counted" = true) (k3 : PySem.W.keepIn K (.ref f3) = true)
    (a4 : PySem.W.nsIn K mainGlobals "value_map" = some (some (.ref f4)))
    (l4 : K.lookup f4 = some ⟨oc4, od4, .func (PySem.W.fnOf "value_map" "value_map" (defArgs sMap) (defBody sMap) (defScope sMap) .none kV4 dc4 pm4 an4 cd4 ct4), sl4⟩)
    (c4 : PySem.W.codeIn K cd4 "value_map" = true) (k4 : PySem.W.keepIn K (.ref f4) = true)
    (a5 : PySem.W.nsIn K mainGlobals "fixed_values" = some (some (.ref f5)))
    (l5 : K.lookup f5 = some ⟨oc5, od5, .func (PySem.W.fnOf "fixed_values" "fixed_values" (defArgs sFix) (defBody sFix) (defScope sFix) .none kV5 dc5 pm5 an5 cd5 ct5), sl5⟩)
    (c5 : PySem.W.codeIn K cd5 "fixed_values" = true) (k5 : PySem.W.keepIn K (.ref f5) = true)
    (a6 : PySem.W.nsIn K mainGlobals "_law_box" = some (some (.ref f6)))
    (l6 : K.lookup f6 = some ⟨oc6, od6, .func (PySem.W.fnOf "_law_box" "_law_box" (defArgs sBox) (defBody sBox) (defScope sBox) .none kV6 dc6 pm6 an6 cd6 ct6), sl6⟩)
    (c6 : PySem.W.codeIn K cd6 "_law_box" = true) (k6 : PySem.W.keepIn K (.ref f6) = true)
    (a7 : PySem.W.nsIn K mainGlobals "_law_take" = some (some (.ref f7)))
    (l7 : K.lookup f7 = some ⟨oc7, od7, .func (PySem.W.fnOf "_law_take" "_law_take" (defArgs sTake) (defBody sTake) (defScope sTake) .none kV7 dc7 pm7 an7 cd7 ct7), sl7⟩)
    (c7 : PySem.W.codeIn K cd7 "_law_take" = true) (k7 : PySem.W.keepIn K (.ref f7) = true)
    (a8 : PySem.W.nsIn K mainGlobals "_law_of" = some (some (.ref f8)))
    (l8 : K.lookup f8 = some ⟨oc8, od8, .func (PySem.W.fnOf "_law_of" "_law_of" (defArgs sOf) (defBody sOf) (defScope sOf) .none kV8 dc8 pm8 an8 cd8 ct8), sl8⟩)
    (c8 : PySem.W.codeIn K cd8 "_law_of" = true) (k8 : PySem.W.keepIn K (.ref f8) = true)
    (a9 : PySem.W.nsIn K mainGlobals "_law_row" = some (some (.ref f9)))
    (l9 : K.lookup f9 = some ⟨oc9, od9, .func (PySem.W.fnOf "_law_row" "_law_row" (defArgs sRow) (defBody sRow) (defScope sRow) .none kV9 dc9 pm9 an9 cd9 ct9), sl9⟩)
    (c9 : PySem.W.codeIn K cd9 "_law_row" = true) (k9 : PySem.W.keepIn K (.ref f9) = true)
    (a10 : PySem.W.nsIn K mainGlobals "_law_learned" = some (some (.ref f10)))
    (l10 : K.lookup f10 = some ⟨oc10, od10, .func (PySem.W.fnOf "_law_learned" "_law_learned" (defArgs sLrn) (defBody sLrn) (defScope sLrn) .none kV10 dc10 pm10 an10 cd10 ct10), sl10⟩)
    (c10 : PySem.W.codeIn K cd10 "_law_learned" = true) (k10 : PySem.W.keepIn K (.ref f10) = true)
    (a11 : PySem.W.nsIn K mainGlobals "_law_right" = some (some (.ref f11)))
    (l11 : K.lookup f11 = some ⟨oc11, od11, .func (PySem.W.fnOf "_law_right" "_law_right" (defArgs sRight) (defBody sRight) (defScope sRight) .none kV11 dc11 pm11 an11 cd11 ct11), sl11⟩)
    (c11 : PySem.W.codeIn K cd11 "_law_right" = true) (k11 : PySem.W.keepIn K (.ref f11) = true)
    (a12 : PySem.W.nsIn K mainGlobals "law" = some (some (.ref f12)))
    (l12 : K.lookup f12 = some ⟨oc12, od12, .func (PySem.W.fnOf "law" "law" (defArgs sLaw) (defBody sLaw) (defScope sLaw) .none kV12 dc12 pm12 an12 cd12 ct12), sl12⟩)
    (c12 : PySem.W.codeIn K cd12 "law" = true) (k12 : PySem.W.keepIn K (.ref f12) = true)
    (z0 : PySem.W.nsIn K mainGlobals "int" = some none)
    (z1 : PySem.W.nsIn K mainGlobals "len" = some none)
    (z2 : PySem.W.nsIn K mainGlobals "abs" = some none)
    (z3 : PySem.W.nsIn K mainGlobals "range" = some none)
    (z4 : PySem.W.nsIn K mainGlobals "repr" = some none)
    (z5 : PySem.W.nsIn K mainGlobals "max" = some none)
    (z6 : PySem.W.nsIn K mainGlobals "min" = some none)
    (z7 : PySem.W.nsIn K mainGlobals "all" = some none)
    (z8 : PySem.W.nsIn K mainGlobals "tuple" = some none)
    (z9 : PySem.W.nsIn K mainGlobals "enumerate" = some none)
    : ∃ fd : FuncData, (∀ (s : Shared) (v : Value), BindsTo s fd ⟨[v], []⟩ [("_law_script", v)]) ∧ ∀ base : Heap, K.In base → base.Ns mainGlobals mg → FnG P w K mg base 7 fa fd ["_law_script"] (spLaw K) := by
  have e := hfa.symm.trans (PySem.W.mg_of X G a12)
  cases e
  have F0 := fun_mk (st := sMost) l0 c0 k0
  have b0 := F0.binds (ps := ["bits"]) fun _ _ _ _ _ _ us hl => match us, hl with | [_], _ => rfl
  have g0 := PySem.W.mg_of X G a0
  have F1 := fun_mk (st := sPred) l1 c1 k1
  have b1 := F1.binds (ps := ["bits", "value"]) fun _ _ _ _ _ _ us hl => match us, hl with | [_, _], _ => rfl
  have g1 := PySem.W.mg_of X G a1
  have F2 := fun_mk (st := sAft) l2 c2 k2
  have b2 := F2.binds (ps := ["bits", "value", "outcome"]) fun _ _ _ _ _ _ us hl => match us, hl with | [_, _, _], _ => rfl
  have g2 := PySem.W.mg_of X G a2
  have F3 := fun_mk (st := sCnt) l3 c3 k3
  have b3 := F3.binds (ps := ["counter", "outcomes"]) fun _ _ _ _ _ _ us hl => match us, hl with | [_, _], _ => rfl
  have g3 := PySem.W.mg_of X G a3
  have F4 := fun_mk (st := sMap) l4 c4 k4
  have b4 := F4.binds (ps := ["bits", "outcomes"]) fun _ _ _ _ _ _ us hl => match us, hl with | [_, _], _ => rfl
  have g4 := PySem.W.mg_of X G a4
  have F5 := fun_mk (st := sFix) l5 c5 k5
  have b5 := F5.binds (ps := ["bits", "outcomes"]) fun _ _ _ _ _ _ us hl => match us, hl with | [_, _], _ => rfl
  have g5 := PySem.W.mg_of X G a5
  have F6 := fun_mk (st := sBox) l6 c6 k6
  have b6 := F6.binds (ps := ["_law_script", "_law_k"]) fun _ _ _ _ _ _ us hl => match us, hl with | [_, _], _ => rfl
  have g6 := PySem.W.mg_of X G a6
  have F7 := fun_mk (st := sTake) l7 c7 k7
  have b7 := F7.binds (ps := ["_law_box_here", "_law_many"]) fun _ _ _ _ _ _ us hl => match us, hl with | [_, _], _ => rfl
  have g7 := PySem.W.mg_of X G a7
  have F8 := fun_mk (st := sOf) l8 c8 k8
  have b8 := F8.binds (ps := ["_law_box_here", "_law_some"]) fun _ _ _ _ _ _ us hl => match us, hl with | [_, _], _ => rfl
  have g8 := PySem.W.mg_of X G a8
  have F9 := fun_mk (st := sRow) l9 c9 k9
  have b9 := F9.binds (ps := ["_law_box_here", "_law_most"]) fun _ _ _ _ _ _ us hl => match us, hl with | [_, _], _ => rfl
  have g9 := PySem.W.mg_of X G a9
  have F10 := fun_mk (st := sLrn) l10 c10 k10
  have b10 := F10.binds (ps := ["_law_gauge", "_law_deeds"]) fun _ _ _ _ _ _ us hl => match us, hl with | [_, _], _ => rfl
  have g10 := PySem.W.mg_of X G a10
  have F11 := fun_mk (st := sRight) l11 c11 k11
  have b11 := F11.binds (ps := ["_law_box_here"]) fun _ _ _ _ _ _ us hl => match us, hl with | [_], _ => rfl
  have g11 := PySem.W.mg_of X G a11
  have F12 := fun_mk (st := sLaw) l12 c12 k12
  have n_int := PySem.W.mg_none_of X G z0
  have n_len := PySem.W.mg_none_of X G z1
  have n_abs := PySem.W.mg_none_of X G z2
  have n_range := PySem.W.mg_none_of X G z3
  have n_repr := PySem.W.mg_none_of X G z4
  have n_max := PySem.W.mg_none_of X G z5
  have n_min := PySem.W.mg_none_of X G z6
  have n_all := PySem.W.mg_none_of X G z7
  have n_tuple := PySem.W.mg_none_of X G z8
  have n_enumerate := PySem.W.mg_none_of X G z9
  refine ⟨PySem.W.fnOf "law" "law" (defArgs sLaw) (defBody sLaw) (defScope sLaw) .none kV12 dc12 pm12 an12 cd12 ct12, fun s v => .of_eq rfl, fun base _ _ => ?_⟩
  have dMost : Dfn P w K mg base 1 "most_value" ["bits"] spMost := ⟨_, _, ok_most (k := 0) n_max F0, g0, F0.kp, b0⟩
  have dPred : Dfn P w K mg base 2 "predicted" ["bits", "value"] spPred := ⟨_, _, ok_pred dMost F1, g1, F1.kp, b1⟩
  have dAft : Dfn P w K mg base 2 "value_after" ["bits", "value", "outcome"] spAft := ⟨_, _, ok_aft dMost n_max n_min F2, g2, F2.kp, b2⟩
  have dCnt : Dfn P w K mg base 3 "counted" ["counter", "outcomes"] (spCnt K) := ⟨_, _, ok_cnt dPred dAft F3, g3, F3.kp, b3⟩
  have dMap : Dfn P w K mg base 4 "value_map" ["bits", "outcomes"] (spMap K) := ⟨_, _, ok_map dMost dCnt n_range n_tuple F4, g4, F4.kp, b4⟩
  have dFix : Dfn P w K mg base 5 "fixed_values" ["bits", "outcomes"] (spFix K) := ⟨_, _, ok_fix dMap n_enumerate n_tuple F5, g5, F5.kp, b5⟩
  have dBox : Dfn P w K mg base 1 "_law_box" ["_law_script", "_law_k"] (spBox K) := ⟨_, _, ok_box n_len n_abs n_int F6, g6, F6.kp, b6⟩
  have dTake : Dfn P w K mg base 1 "_law_take" ["_law_box_here", "_law_many"] spTake := ⟨_, _, ok_take F7, g7, F7.kp, b7⟩
  have dOf : Dfn P w K mg base 2 "_law_of" ["_law_box_here", "_law_some"] (spOf K) := ⟨_, _, ok_of dTake n_len F8, g8, F8.kp, b8⟩
  have dRow : Dfn P w K mg base 2 "_law_row" ["_law_box_here", "_law_most"] (spRow K) := ⟨_, _, ok_row dTake n_range n_min n_tuple n_len F9, g9, F9.kp, b9⟩
  have dLrn : Dfn P w K mg base 1 "_law_learned" ["_law_gauge", "_law_deeds"] (spCnt K) := ⟨_, _, ok_lrn (k := 0) n_max n_min n_int F10, g10, F10.kp, b10⟩
  have dRight : DfG P w K mg base 6 "_law_right" ["_law_box_here"] spRight := ⟨_, _, ok_right dTake dOf dRow dMap dFix dLrn n_range n_repr n_len n_enumerate n_tuple F11, g11, F11.kp, b11⟩
  exact ok_law (by decide) dBox dRight n_range n_max n_min n_len n_all F12
end Pf
open PySem PySem.W PyProof.Rows
set_option maxHeartbeats 0 in
theorem PySem.Challenge.cw_pastenough_k25_maps_of_values_holds : PySem.Challenge.rw_pastenough_k25_maps_of_values.Holds := by
  w_on; o_law; k_head; (case hw => w_witness2)
  k_fill
  refine Gk.walkG (l := PySem.Challenge.rw_pastenough_k25_maps_of_values) (n := 63) (k := 7) (x := "_law_script") (sp := fun w => Pf.spLaw _) rfl (by decide) rfl ⟨rfl, by decide, by decide⟩ (fun w h Y => PySem.W.kIn_of Y) ?F (fun _ _ a ns hl hO hS => Pf.law_start hl hO hS)
  case F =>
    intro w mg fa h KX G hmg
    refine' Pf.all_mk KX G hmg ?a0 ?l0 ?c0 ?k0 ?a1 ?l1 ?c1 ?k1 ?a2 ?l2 ?c2 ?k2 ?a3 ?l3 ?c3 ?k3 ?a4 ?l4 ?c4 ?k4 ?a5 ?l5 ?c5 ?k5 ?a6 ?l6 ?c6 ?k6 ?a7 ?l7 ?c7 ?k7 ?a8 ?l8 ?c8 ?k8 ?a9 ?l9 ?c9 ?k9 ?a10 ?l10 ?c10 ?k10 ?a11 ?l11 ?c11 ?k11 ?a12 ?l12 ?c12 ?k12 ?z0 ?z1 ?z2 ?z3 ?z4 ?z5 ?z6 ?z7 ?z8 ?z9
    (case a0 => k_is)
    (case l0 => k_is)
    (case c0 => k_is)
    (case k0 => k_is)
    (case a1 => k_is)
    (case l1 => k_is)
    (case c1 => k_is)
    (case k1 => k_is)
    (case a2 => k_is)
    (case l2 => k_is)
    (case c2 => k_is)
    (case k2 => k_is)
    (case a3 => k_is)
    (case l3 => k_is)
    (case c3 => k_is)
    (case k3 => k_is)
    (case a4 => k_is)
    (case l4 => k_is)
    (case c4 => k_is)
    (case k4 => k_is)
    (case a5 => k_is)
    (case l5 => k_is)
    (case c5 => k_is)
    (case k5 => k_is)
    (case a6 => k_is)
    (case l6 => k_is)
    (case c6 => k_is)
    (case k6 => k_is)
    (case a7 => k_is)
    (case l7 => k_is)
    (case c7 => k_is)
    (case k7 => k_is)
    (case a8 => k_is)
    (case l8 => k_is)
    (case c8 => k_is)
    (case k8 => k_is)
    (case a9 => k_is)
    (case l9 => k_is)
    (case c9 => k_is)
    (case k9 => k_is)
    (case a10 => k_is)
    (case l10 => k_is)
    (case c10 => k_is)
    (case k10 => k_is)
    (case a11 => k_is)
    (case l11 => k_is)
    (case c11 => k_is)
    (case k11 => k_is)
    (case a12 => k_is)
    (case l12 => k_is)
    (case c12 => k_is)
    (case k12 => k_is)
    (case z0 => k_is)
    (case z1 => k_is)
    (case z2 => k_is)
    (case z3 => k_is)
    (case z4 => k_is)
    (case z5 => k_is)
    (case z6 => k_is)
    (case z7 => k_is)
    (case z8 => k_is)
    (case z9 => k_is)
