import PyProof.Rows.All
import Wide.All
import OpenK.AllK
import Wide.FinOn
import PySem.Challenge.RW_evenlead_k06_either_and_behind
import HandS.ForMost
import HandS.Style
import HandS.Wide
import HandS.IsInst
import HandS.Evl
import PyProof.ReprRoads
import PyProof.Rows.StrPadFill
import KE.KDictZip
import KE.GoesMore
import KE.GoesEnum
import PyProof.CollectWalk
import HandS.RevTup
import HandS.Walk
import HandS.TupAny
import PyProof.Rows.StrPadWhole
import KE.KRevSl
import HandS.TupMul
import HandS.Zip
import HandS.SetKeys
import KE.GoesComp
import HandS.StrMore
import PyProof.SumWalkG
import HandS.OwnEq
import HandS.ListItems
import HandS.SetFor
import HandS.Strs
import HandS.SortInts
import HandS.More
import HandS.DictComp
set_option Elab.async false
set_option linter.all false
set_option maxRecDepth 100000
set_option maxHeartbeats 4000000
namespace EL
open PySem PySem.Spec PyProof.Rows L2
/-! ### the deck of draws: a list [queue, blend, count]; the queue a list of ints -/
structure Dk (a q : Addr) (c : Nat) (H : Hp) : Prop where
  ne : a ≠ q
  top : ∃ b : Int, 0 ≤ b ∧ b < 2147483648 ∧ H a = some (.lst [.ref q, .int b, .int (c : Int)])
  que : ∃ ns : List Int, ns.length ≤ 63 ∧ H q = some (.lst (ns.map V.int))
/-- at most m draws so far -/
def Dw (a q : Addr) (m : Nat) (H : Hp) : Prop := ∃ c, c ≤ m ∧ Dk a q c H
/-- all but the deck stands -/
def Off (a q : Addr) (H H' : Hp) : Prop := ∀ b o, b ≠ a → b ≠ q → H b = some o → H' b = some o
theorem Off.refl {a q : Addr} (H : Hp) : Off a q H H := fun _ _ _ _ h => h
theorem Off.trans {a q : Addr} {H H1 H2 : Hp} (x : Off a q H H1) (y : Off a q H1 H2) : Off a q H H2 := fun b o h1 h2 h => y b o h1 h2 (x b o h1 h2 h)
theorem Off.of_same {a q : Addr} {H H' : Hp} (x : Same H H') : Off a q H H' := fun b o _ _ h => x b o h
/-- the heap without the deck -/
def hid (a q : Addr) (H : Hp) : Hp := fun b => if b = a ∨ b = q then none else H b
theorem hid_ne {a q b : Addr} {H : Hp} (h1 : b ≠ a) (h2 : b ≠ q) : hid a q H b = H b := by unfold hid; rw [if_neg (fun z => z.elim h1 h2)]
theorem hid_some {a q b : Addr} {H : Hp} {o : HO} (h : hid a q H b = some o) : b ≠ a ∧ b ≠ q ∧ H b = some o := by
  unfold hid at h
  by_cases z : b = a ∨ b = q
  · rw [if_pos z] at h; cases h
  · rw [if_neg z] at h; exact ⟨fun e => z (.inl e), fun e => z (.inr e), h⟩
theorem hid_sub {a q : Addr} {H : Hp} : Same (hid a q H) H := fun b o h => (hid_some h).2.2
theorem Off.hid {a q : Addr} {H H' : Hp} (x : Off a q H H') : Same (hid a q H) (hid a q H') := fun b o h => by
  obtain ⟨h1, h2, h3⟩ := hid_some h
  rw [hid_ne h1 h2]; exact x b o h1 h2 h3
theorem same_upd {H : Hp} {p : Addr} {o : HO} (h : H p = none) : Same H (upd H p o) := fun b x e => by
  rw [upd_ne (ne_of_none e h)]; exact e
theorem Dk.same {a q : Addr} {c : Nat} {H H' : Hp} (d : Dk a q c H) (s : Same H H') : Dk a q c H' := by
  obtain ⟨b, h1, h2, h3⟩ := d.top
  obtain ⟨ns, h4, h5⟩ := d.que
  exact ⟨d.ne, ⟨b, h1, h2, s _ _ h3⟩, ⟨ns, h4, s _ _ h5⟩⟩
theorem Dw.same {a q : Addr} {m : Nat} {H H' : Hp} (d : Dw a q m H) (s : Same H H') : Dw a q m H' := by
  obtain ⟨c, hc, k⟩ := d; exact ⟨c, hc, k.same s⟩
theorem Dw.mono {a q : Addr} {m n : Nat} {H : Hp} (d : Dw a q m H) (h : m ≤ n) : Dw a q n H := by
  obtain ⟨c, hc, k⟩ := d; exact ⟨c, Nat.le_trans hc h, k⟩
theorem Dk.na {a q p : Addr} {c : Nat} {H : Hp} (d : Dk a q c H) (h : H p = none) : p ≠ a ∧ p ≠ q := by
  obtain ⟨b, _, _, h3⟩ := d.top
  obtain ⟨ns, _, h5⟩ := d.que
  exact ⟨fun e => (by rw [e, h3] at h; cases h), fun e => (by rw [e, h5] at h; cases h)⟩
theorem Dw.na {a q p : Addr} {m : Nat} {H : Hp} (d : Dw a q m H) (h : H p = none) : p ≠ a ∧ p ≠ q := by
  obtain ⟨c, _, k⟩ := d; exact k.na h
/-- a store at an object beside the deck -/
theorem Dk.upd {a q p : Addr} {c : Nat} {H : Hp} {o : HO} (d : Dk a q c H) (h1 : p ≠ a) (h2 : p ≠ q) : Dk a q c (upd H p o) := by
  obtain ⟨b, h3, h4, h5⟩ := d.top
  obtain ⟨ns, h6, h7⟩ := d.que
  exact ⟨d.ne, ⟨b, h3, h4, by rw [upd_ne (Ne.symm h1)]; exact h5⟩, ⟨ns, h6, by rw [upd_ne (Ne.symm h2)]; exact h7⟩⟩
theorem Dw.upd {a q p : Addr} {m : Nat} {H : Hp} {o : HO} (d : Dw a q m H) (h1 : p ≠ a) (h2 : p ≠ q) : Dw a q m (upd H p o) := by
  obtain ⟨c, hc, k⟩ := d; exact ⟨c, hc, k.upd h1 h2⟩
theorem len_sz {n : Nat} (h : n ≤ 1000000) : n ≤ sizeLine := Nat.le_trans h (by decide)
theorem lt_sz {n : Nat} (h : n ≤ 1000000) : n < sizeLine := Nat.lt_of_le_of_lt h (by decide)
theorem dpInts {K : PySem.W.Frag} {H : Hp} : ∀ ns : List Int, DpAll K H (ns.map V.int) (ns.map PyData.int)
  | [] => .nil
  | n :: r => .cons (.int n) (dpInts r)
/-! ### slices of lists of ints -/
def cutI (ns : List Int) (k : Nat) : List Int := ns.take k
theorem cutI_map (ns : List Int) : cutV (ns.map V.int) none (some 63) = (cutI ns 63).map V.int := by
  unfold cutV cutI
  rw [show HT.sIx (ns.map V.int).length (ns.map V.int).length (some 63) = min 63 (ns.map V.int).length from HT.sIx_nat _ _ 63, HT.sIx_none, List.drop_zero, Nat.sub_zero, List.map_take, List.take_eq_take_iff]
  omega
theorem cutI_len (ns : List Int) (k : Nat) (h : ns.length ≤ 63) : (cutI ns k).length ≤ 63 := by
  unfold cutI; rw [List.length_take]; omega
theorem get_map_int {ms : List Int} {i : Nat} {x : V} (h : (ms.map V.int)[i]? = some x) : ∃ z, ms[i]? = some z ∧ x = V.int z := by
  rw [List.getElem?_map] at h
  cases e : ms[i]? with
  | none => rw [e] at h; cases h
  | some z => rw [e] at h; exact ⟨z, rfl, (Option.some.inj h).symm⟩
theorem sqOf {K : PySem.W.Frag} {H : Hp} {a : Addr} {xs : List V} (h : H a = some (.lst xs)) : SqL K H a xs := .inl (.inl h)
theorem stOf {K : PySem.W.Frag} {H : Hp} {a : Addr} {xs : List V} (h : H a = some (.tup xs)) : SqT K H a xs := .inl (.inl h)
theorem ex_l' {K : PySem.W.Frag} {H H' : Hp} {a : Addr} {xs : List V} (e : Same H H') (h : SqL K H a xs) : SqL K H' a xs := e.seq h
theorem ex_t' {K : PySem.W.Frag} {H H' : Hp} {a : Addr} {xs : List V} (e : Same H H') (h : SqT K H a xs) : SqT K H' a xs := Evl.ex_t e h
theorem canLay_ints : ∀ ns : List Int, PyData.canLayAll0 (ns.map PyData.int) = true
  | [] => by simp [PyData.canLayAll0]
  | n :: r => by simp [PyData.canLayAll0, PyData.canLay0, canLay_ints r]
theorem depth_ints : ∀ ns : List Int, PyData.depthAll (ns.map PyData.int) = 0
  | [] => by simp [PyData.depthAll]
  | n :: r => by simp [PyData.depthAll, PyData.depth, depth_ints r]
theorem shaped_ints (ns : List Int) : SeqAt.shaped (.list (ns.map PyData.int)) = true := by
  simp [SeqAt.shaped, PyData.canLay0, PyData.depth, canLay_ints, depth_ints]
theorem eqv_nil (ns : List Int) : PyData.eqv (.list (ns.map PyData.int)) (.list []) = decide (ns = []) := by
  cases ns <;> simp [PyData.eqv, PyData.eqvAll]
theorem last_int {ns : List Int} (h : ns ≠ []) : ∃ y, (ns.map V.int)[(ns.map V.int).length - 1]? = some (.int y) := by
  have hl : 0 < ns.length := List.length_pos_iff.mpr h
  refine ⟨ns[ns.length - 1]'(by omega), ?_⟩
  rw [List.getElem?_map, List.length_map, List.getElem?_eq_getElem (by omega)]; rfl
/-! ### a def that may be called -/
structure Cal (P : Program) (w : World) (K : PySem.W.Frag) (mg : Str → Option Value) (base : Heap) (k : Nat) (x : Str) (ps : List Str) (sp : Sp) where
  f : Addr
  fd : FuncData
  ok : FnOk P w K mg base CX0 k f fd ps sp
  g : mg x = some (.ref f)
  kp : PySem.W.keepIn K (.ref f) = true
  b : Binds K fd ps []
theorem pe_cal {X : Cx} {k : Nat} {x : Str} {ps : List Str} {sp : Sp} {E : XK} {e : Expr} {es : List Expr} {t : TA} {p pos : Pos} (C : Cal X.prog X.w X.K X.mg X.base k x ps sp) (hr : Room k X.A) (hg : Gl X x) (hx : Passes CX0 X E) (ha : PA X (e :: es) t)
    (hdb : (x == ("__debug__" : Str)) = false := by decide) (he : starEach (e :: es) X.env = (false, eval e X.env) :: starEach es X.env := by rfl) (hpl : (backTo pos (starEach es X.env)).any (·.1) = false := by rfl) :
    PE X (.Call (.Name x p) (e :: es) [] pos) (tCall sp [] E t) := pe_call C.ok hr hg C.g C.kp C.b .nil hx ha hdb he hpl
/-- the names of built-ins that the text leaves alone -/
abbrev Nn (mg : Str → Option Value) (x : Str) : Prop := mg x = none
/-! ### promises of the deck's defs -/
def spDeck (K : PySem.W.Frag) : Sp := fun vs H Q _ => ∃ (a : Addr) (ns : List Int), vs = [.ref a] ∧ SqL K H a (ns.map V.int) ∧ ns.length ≤ 63 ∧
  ∀ p q H', Same H H' → Dw p q 0 H' → H p = none → H q = none → Q (.ref p) H'
def spDraw : Sp := fun vs H Q _ => ∃ (a q : Addr) (m : Nat) (n : Int), vs = [.ref a, .int n] ∧ Dw a q m H ∧ m < 1000000000 ∧ 0 < n ∧ n < 1073741824 ∧
  ∀ k H', 0 ≤ k → k < n → Off a q H H' → Dw a q (m + 1) H' → Q (.int k) H'
/-- a pick of a list's item (not the deck's) -/
def spPick (K : PySem.W.Frag) : Sp := fun vs H Q _ => ∃ (a q : Addr) (m : Nat) (y : V) , vs = [.ref a, y] ∧ Dw a q m H ∧ m < 1000000000 ∧
  ((∃ (l : Addr) (xs : List V), y = .ref l ∧ SqL K (hid a q H) l xs ∧ xs ≠ [] ∧ xs.length ≤ 1000000 ∧ ∀ (i : Nat) (x : V) (H' : Hp), xs[i]? = some x → Off a q H H' → Dw a q (m + 1) H' → Q x H') ∨
   (∃ z : Str, y = .str z ∧ z.length ≠ 0 ∧ z.length ≤ 1000000 ∧ ∀ (i c : Nat) (H' : Hp), z.cps.toList[i]? = some c → Off a q H H' → Dw a q (m + 1) H' → Q (.str ⟨#[c]⟩) H'))
end EL
/-! Defs that show data (repr): a call where no display is under way around it. -/
namespace EL
open PySem PySem.Spec PyProof.Rows L2
/-- room, and nothing around is being shown -/
structure RoomG (k : Nat) (A : Around) : Prop where
  r : Room k A
  g : A.guards = some []
theorem RoomG.mono {j k : Nat} {A : Around} (h : RoomG k A) (hj : j ≤ k) : RoomG j A := ⟨h.r.mono hj, h.g⟩
/-- a def's promise where nothing around is being shown -/
structure FnG (P : Program) (w : World) (K : PySem.W.Frag) (mg : Str → Option Value) (base : Heap) (k : Nat) (f : Addr) (fd : FuncData) (ps : List Str) (sp : Sp) : Prop where
  ln : ∀ (vs : List V) (H : Hp) (Q : VK) (E : XK), sp vs H Q E → vs.length = ps.length
  go : ∀ {A : Around} {outer : List Env} {s : Shared} {H : Hp} {args : Args} {us : List Value} {vs : List V} {Q : VK} {E : XK},
    RoomG k A → Env0 P w K mg base A outer s H → BindsTo s fd args (ps.zip us) → Vals vs us → sp vs H Q E → codeAny (model P w) A (.call (.ref f) args) (CR CX0 outer P w H s Q E) s
section
variable {P : Program} {w : World} {K : PySem.W.Frag} {mg : Str → Option Value} {base : Heap}
theorem FnG.of {k : Nat} {f : Addr} {fd : FuncData} {ps : List Str} {sp : Sp} (F : FnOk P w K mg base CX0 k f fd ps sp) : FnG P w K mg base k f fd ps sp :=
  ⟨F.len, fun hr e hb hv hs => F.run _ _ _ _ _ _ _ _ _ hr.r e hb hv hs⟩
/-- by its body -/
theorem FnG.body {x : Str} {st : Stmt} {f : Addr} {fd : FuncData} {N ps : List Str} {k : Nat} {sp : Sp} (F : Fun K x x st f fd) (S : FnScope N ps (defScope st)) (ln : ∀ vs H Q E, sp vs H Q E → vs.length = ps.length)
    (hb : ∀ (cdv : Value) (A : Around) (outer : List Env) (s : Shared) (H : Hp) (vs : List V) (Q : VK) (E : XK), RoomG k (A.deeper (envOfC x (defScope st) s.heap.objs.size f cdv)) → sp vs H Q E →
      ∃ t, PSs (cxOf CX0 P w K mg base N x (defScope st) f cdv A outer s H E).nox (defBody st) t ∧ t { nx := fun _ H' => Q .non H', rt := Q } (start N vs) H) : FnG P w K mg base (k + 1) f fd ps sp := by
  obtain ⟨oc, od, kV, doc, pm, an, cdv, ct, osl, rfl, lk, hcd⟩ := F.ex
  refine ⟨ln, fun {A outer s H args us vs Q E} hr e0 bd rv hs => ?_⟩
  have stands : ∀ b o, base.get? b = some o → s.heap.get? b = some o := fun b o e => (e0.bs b o e).1
  have KX := e0.mod.kin.keeps stands
  have named : ∀ y ∈ ps.zip us, (defScope st).names.lookup y.1 = some .local ∨ ((defScope st).names.lookup y.1 = some .cell ∧ ((cellsFrom (s.heap.objs.size + 1) (defScope st).names []).lookup y.1).isSome = true) := by
    rintro ⟨n, v⟩ hy
    exact (S.par n (List.of_mem_zip hy).1).imp id fun q => ⟨q, PySem.W.cellsFrom_some _ _ _ (.inl q)⟩
  refine codeAny_call_function hr.r.depth (KX _ _ lk) rfl S.co S.gen rfl (PySem.W.codeRec_of KX hcd) (bd _ _ _ _ ?_)
  refine wpAny_newFunctionEnv_cells S.kind named fun env he s1 x1 => ?_
  subst he
  refine ⟨(e0.mod.nolimit.keeps stands).keeps x1.toInCall.keep, codeAny_func ?_⟩
  obtain ⟨t, ht, hq⟩ := hb cdv A outer s H vs Q E ⟨hr.r.deeper _, hr.g⟩ hs
  have I := inv_start (CX := CX0) (mg := mg) (base := base) (E := E) (qual := x) (f := f) (cd := cdv) S hr.r.hd e0 (ln _ _ _ _ hs) rv x1
  refine wpAny_mono (ht.nox.run [] s1 (start N vs) H _ I hq) (fun fl s2 end2 => ?_) fun _ _ z => z
  cases fl with
  | ret u =>
    obtain ⟨v, σ2, H2, J, r2, q2⟩ := end2
    exact ⟨v, H2, J.os, J.bare, J.base, J.hok, r2, q2⟩
  | next =>
    obtain ⟨σ2, H2, J, q2⟩ := end2
    exact ⟨.non, H2, J.os, J.bare, J.base, J.hok, rfl, q2⟩
  | brk => exact end2.elim fun _ z => z.elim fun _ y => y.2.elim
  | cont => exact end2.elim fun _ z => z.elim fun _ y => y.2.elim
end
/-- a def that may be called where nothing around is being shown -/
structure CalG (P : Program) (w : World) (K : PySem.W.Frag) (mg : Str → Option Value) (base : Heap) (k : Nat) (x : Str) (ps : List Str) (sp : Sp) where
  f : Addr
  fd : FuncData
  ok : FnG P w K mg base k f fd ps sp
  g : mg x = some (.ref f)
  kp : PySem.W.keepIn K (.ref f) = true
  b : Binds K fd ps []
section
variable {X : Cx} {k : Nat} {x : Str} {ps : List Str} {sp : Sp} {E : XK} {e : Expr} {es : List Expr} {t : TA} {p pos : Pos}
theorem pe_calG (C : CalG X.prog X.w X.K X.mg X.base k x ps sp) (hr : RoomG k X.A) (hg : Gl X x) (hx : Passes CX0 X E) (ha : PA X (e :: es) t)
    (hdb : (x == ("__debug__" : Str)) = false := by decide) (he : starEach (e :: es) X.env = (false, eval e X.env) :: starEach es X.env := by rfl) (hpl : (backTo pos (starEach es X.env)).any (·.1) = false := by rfl) :
    PE X (.Call (.Name x p) (e :: es) [] pos) (tCall sp [] E t) := by
  refine ⟨fun pins s σ H Q I h => wpAny_Call_Name_kw (ld_glob I hg C.g ?_ hdb)⟩
  refine PySem.W.callWith_K (h₀ := X.base) I.ok.mod.kin C.kp (thn (ha.run pos pins s σ H _ I h) fun us s1 hh => ?_) he hpl
  obtain ⟨vs, H1, I1, r, q⟩ := hh
  refine ⟨I1.kIn, ?_⟩
  have q' : sp vs H1 Q E := by rw [List.append_nil] at q; exact q
  have hl : us.length = ps.length := r.length.symm.trans (C.ok.ln _ _ _ _ q')
  have bd := C.b s1 us I1.kIn (by rw [List.append_nil]; exact hl)
  rw [List.append_nil] at bd
  refine wpAny_call (codeAny_mono (C.ok.go hr I1.env0 bd r q') fun r2 s2 h2 => ?_)
  match r2, h2 with
  | .error e, h2 => exact hx pins σ H1 s1 e s2 I1 h2
  | .ok (.ret u), h2 => exact I1.after h2
  | .ok .next, h2 => exact h2.elim
  | .ok .brk, h2 => exact h2.elim
  | .ok .cont, h2 => exact h2.elim
end
/-! ### the end: the law's def, called by the claim -/
section
variable {P : Program} {w : World} {K : PySem.W.Frag} {mg mb : Str → Option Value} {s₁ : Shared}
/-- the base under an abstract heap that tracks one list at most -/
theorem base_one {H : Hp} {a : Addr} {vs : List Value} (KX : K.In s₁.heap) (hns : s₁.heap.Ns mainGlobals mg) (hb : s₁.heap.Ns builtinsNs mb) (hbb : ∀ x : Str, x ≠ "__name__" → mb x = bootBuiltins x) (hlim : s₁.heap.NoLimit)
    (ha : s₁.heap.get? a = some { cls := .type "list", data := .seq vs.toArray }) (hA : ∀ b u, H b = some u → b = a) (hK : ∀ u, H a = some u → K.lookup a = none) :
    K.In (hidT s₁.heap H) ∧ Mod K mg (hidT s₁.heap H) := by
  have dictFree : ∀ {b : Addr} {o : Obj} {es : Array DictEntry} {n : Nat}, s₁.heap.get? b = some o → o.data = .dict es n → H b = none := by
    intro b o es n e d
    cases q : H b with
    | none => rfl
    | some u =>
      obtain rfl := hA b u q
      rw [ha] at e
      obtain rfl := Option.some.inj e
      exact nomatch d
  have ns : ∀ {b : Addr} {m : Str → Option Value}, s₁.heap.Ns b m → (hidT s₁.heap H).Ns b m := by
    rintro b m ⟨o, es, n, e, d, r⟩
    exact ⟨o, es, n, hidT_get e (dictFree e d), d, r⟩
  have kin : K.In (hidT s₁.heap H) := by
    intro b o e
    refine hidT_get (KX b o e) ?_
    cases q : H b with
    | none => rfl
    | some u =>
      obtain rfl := hA b u q
      rw [hK u q] at e
      exact nomatch e
  obtain ⟨mc, l1, l2⟩ := hlim
  exact ⟨kin, ⟨kin, ns hns, ⟨mb, ns hb, hbb⟩, ⟨mc, ns l1, l2⟩⟩⟩
theorem law_callG {k : Nat} {fa a : Addr} {fd : FuncData} {x : Str} {sp : Sp} {vs : List Value} {ns : List Int}
    (KX : K.In s₁.heap) (hns : s₁.heap.Ns mainGlobals mg) (hb : s₁.heap.Ns builtinsNs mb) (hbb : ∀ x : Str, x ≠ "__name__" → mb x = bootBuiltins x) (hlim : s₁.heap.NoLimit) (hg : s₁.gens = #[])
    (ha : s₁.heap.get? a = some { cls := .type "list", data := .seq vs.toArray }) (hi : IntsAre vs ns) (hl : ns.length ≤ sizeLine) (hr : Room k callerA)
    (F : ∀ base : Heap, K.In base → base.Ns mainGlobals mg → FnG P w K mg base k fa fd [x] sp) (hbind : ∀ (s : Shared) (u : Value), BindsTo s fd ⟨[u], []⟩ [(x, u)])
    (hsp : ∀ H : Hp, Only H → SqL K H a (ns.map V.int) → sp [.ref a] H (fun v _ => v = .bl true) fun _ _ _ => False) :
    codeAny (model P w) callerA (.call (.ref fa) ⟨[.ref a], []⟩) (fun r s' => r = .ok (.ret (.bool true)) ∧ OldK s₁.heap s'.heap ∧ s'.os = s₁.os ∧ AllBare s'.gens) s₁ := by
  have rv : Vals (ns.map V.int) vs := vals_ints hi
  have key : ∀ H : Hp, Only H → SqL K H a (ns.map V.int) → HOk P w H s₁.heap → (∀ b u, H b = some u → b = a) → (∀ u, H a = some u → K.lookup a = none) →
      codeAny (model P w) callerA (.call (.ref fa) ⟨[.ref a], []⟩) (fun r s' => r = .ok (.ret (.bool true)) ∧ OldK s₁.heap s'.heap ∧ s'.os = s₁.os ∧ AllBare s'.gens) s₁ := by
    intro H hO hS hok hA hK
    obtain ⟨kb, md⟩ := base_one KX hns hb hbb hlim ha hA hK
    have e0 : Env0 P w K mg (hidT s₁.heap H) callerA [] s₁ H := ⟨rfl, md, fun _ _ e => of_hidT e, Nat.le_of_eq (hidT_size s₁.heap H), trivial, fun _ z => (List.not_mem_nil z).elim, hok, .of_eq hg⟩
    have run := (F _ kb md.glob).go (Q := fun v _ => v = .bl true) (E := fun _ _ _ => False) ⟨hr, rfl⟩ e0 (vs := [.ref a]) (us := [.ref a]) (hbind s₁ (.ref a)) (Paired.cons (show RelV (.ref a) (.ref a) from rfl) .nil) (hsp H hO hS)
    refine codeAny_mono run fun r s2 h2 => ?_
    match r, h2 with
    | .error e, h2 => exact h2.elim
    | .ok .next, h2 => exact h2.elim
    | .ok .brk, h2 => exact h2.elim
    | .ok .cont, h2 => exact h2.elim
    | .ok (.ret u), ⟨v, H2, os, bare, un, ok2, r2, q2⟩ =>
      obtain rfl : v = .bl true := q2
      obtain rfl : u = Value.bool true := r2
      refine ⟨rfl, OldK.of_keep fun b o e => ?_, os, bare⟩
      cases q : H b with
      | none => exact un.keep b o e q (List.not_mem_nil) (List.not_mem_nil)
      | some u =>
        obtain ⟨ob, xs, z⟩ := (hO b).resolve_left (by rw [q]; exact fun y => nomatch y)
        have e1 : s₁.heap.get? b = some ob := (hok b _ z).1
        have e2 : s2.heap.get? b = some ob := (ok2 b _ (un.frzs b ob _ z)).1
        rw [e] at e1
        rw [Option.some.inj e1]; exact e2
  by_cases hk : K.lookup a = none
  · refine key (fun b => if b = a then some (.frz { cls := .type "list", data := .seq vs.toArray } (.lst (ns.map V.int))) else none) (fun b => ?_) (.inl (.inr ⟨_, if_pos rfl⟩)) (fun b u z => ?_) (fun b u z => ?_) fun _ _ => hk
    · by_cases e : b = a
      · exact .inr ⟨_, _, if_pos e⟩
      · exact .inl (if_neg e)
    · by_cases e : b = a
      · subst e
        obtain rfl := Option.some.inj ((if_pos rfl).symm.trans z)
        exact ⟨ha, (by rw [List.length_map]; exact hl), vs, _, rv, ha⟩
      · exact nomatch (if_neg e).symm.trans z
    · by_cases e : b = a
      · exact e
      · exact nomatch (if_neg e).symm.trans z
  · obtain ⟨o, ho⟩ := Option.ne_none_iff_exists'.mp hk
    have e := KX a o ho
    rw [ha] at e
    obtain rfl := Option.some.inj e
    have lv : vs.length = ns.length := hi.length
    refine key (fun _ => none) (fun _ => .inl rfl) (.inr ⟨_, vs.toArray, _, ho, rfl, rfl, rfl, (by rw [List.size_toArray, lv]; exact hl), (by simpa using rv)⟩) (fun _ _ z => nomatch z) (fun _ _ z => nomatch z) fun _ z => nomatch z
end
theorem walk_ofG {l : PySem.W.OpenLaw} {n k : Nat} {q : Program} {loose : List Str} {XP : (Str → Option Value) → Heap → Prop} {YP : World → Heap → Prop} {d : DefRec} {K : Params → PySem.W.Frag} {sp : World → Sp} {x : Str}
    (hn : l.most = some n) (hn2 : n ≤ sizeLine) (hdf : d.params.defaults = []) (hr : Room k callerA) (hY : ∀ (w : World) (h : Heap), YP w h → (K w.params).In h)
    (F : ∀ (w : World) (mg : Str → Option Value) (fa : Addr) (h : Heap), (K w.params).In h → h.Ns mainGlobals mg → mg d.name = some (.ref fa) →
      ∃ fd : FuncData, (∀ (s : Shared) (u : Value), BindsTo s fd ⟨[u], []⟩ [(x, u)]) ∧ ∀ base : Heap, (K w.params).In base → base.Ns mainGlobals mg → FnG l.prog w (K w.params) mg base k fa fd [x] (sp w))
    (hsp : ∀ (w : World) (H : Hp) (a : Addr) (ns : List Int), ns.length ≤ n → Only H → SqL (K w.params) H a (ns.map V.int) → sp w [.ref a] H (fun v _ => v = .bl true) fun _ _ _ => False) :
    PySem.W.WalkO q loose XP YP l.row.toRowW d [] (fun f vs => PySem.call f vs) := by
  refine Att.attach_call hn hdf fun w _ _ mg mb fa _ _ _ _ a vs ns G Y _ _ _ hmg hobj hints hlen hg => ?_
  obtain ⟨fd, hb, hF⟩ := F w mg fa _ (hY w _ Y) G.T.g hmg
  exact law_callG (hY w _ Y) G.T.g G.T.b G.T.builtins G.T.nolimit hg hobj hints (Nat.le_trans hlen hn2) hr hF hb (fun H hO hS => hsp w H a ns hlen hO hS)
end EL
/-! Data of any of the laws' kinds at a value: also empty dicts; repr of it; == with a text; isinstance. -/
namespace EL
open PySem PySem.Spec PyProof.Rows L2
mutual
/-- v stands for the data d -/
inductive Dq (K : PySem.W.Frag) (H : Hp) : V → PyData → Prop
  | non : Dq K H .non .none
  | bl (b : Bool) : Dq K H (.bl b) (.bool b)
  | int (i : Int) : Dq K H (.int i) (.int i)
  | str (x : Str) : Dq K H (.str x) (.str x)
  | lst {a : Addr} {xs : List V} {ds : List PyData} : SqL K H a xs → DqAll K H xs ds → Dq K H (.ref a) (.list ds)
  | tup {a : Addr} {xs : List V} {ds : List PyData} : SqT K H a xs → DqAll K H xs ds → Dq K H (.ref a) (.tuple ds)
  | dic {a : Addr} : H a = some (.dK []) → Dq K H (.ref a) (.dict [])
inductive DqAll (K : PySem.W.Frag) (H : Hp) : List V → List PyData → Prop
  | nil : DqAll K H [] []
  | cons {v : V} {vs : List V} {d : PyData} {ds : List PyData} : Dq K H v d → DqAll K H vs ds → DqAll K H (v :: vs) (d :: ds)
end
mutual
/-- no list within -/
def noL : PyData → Bool
  | .none | .bool _ | .int _ | .str _ | .dict _ => true
  | .list _ => false
  | .tuple xs => noLs xs
def noLs : List PyData → Bool
  | [] => true
  | x :: xs => noL x && noLs xs
end
section
variable {K : PySem.W.Frag} {H H' : Hp}
mutual
theorem Dq.mono (e : Same H H') : ∀ (d : PyData) (v : V), Dq K H v d → Dq K H' v d
  | .none, _, h => by cases h; exact .non
  | .bool b, _, h => by cases h; exact .bl b
  | .int i, _, h => by cases h; exact .int i
  | .str x, _, h => by cases h; exact .str x
  | .list ds, _, h => by
    cases h with
    | lst hs ha => exact .lst (ex_l' e hs) (DqAll.mono e ds _ ha)
  | .tuple ds, _, h => by
    cases h with
    | tup hs ha => exact .tup (ex_t' e hs) (DqAll.mono e ds _ ha)
  | .dict _, _, h => by
    cases h with
    | dic hd => exact .dic (e _ _ hd)
theorem DqAll.mono (e : Same H H') : ∀ (ds : List PyData) (vs : List V), DqAll K H vs ds → DqAll K H' vs ds
  | [], _, h => by cases h; exact .nil
  | d :: ds, _, h => by
    cases h with
    | cons h1 h2 => exact .cons (Dq.mono e d _ h1) (DqAll.mono e ds _ h2)
end
theorem Dq.up {d : PyData} {v : V} (h : Dq K H v d) (e : Same H H') : Dq K H' v d := Dq.mono e d v h
theorem DqAll.up {ds : List PyData} {vs : List V} (h : DqAll K H vs ds) (e : Same H H') : DqAll K H' vs ds := DqAll.mono e ds vs h
theorem DqAll.len {ds : List PyData} : ∀ {vs : List V}, DqAll K H vs ds → vs.length = ds.length := by
  induction ds with
  | nil => intro vs h; cases h; rfl
  | cons d ds ih =>
    intro vs h
    cases h with
    | cons _ h2 => rw [List.length_cons, List.length_cons, ih h2]
theorem DqAll.at : ∀ {ds : List PyData} {vs : List V} {i : Nat} {v : V}, DqAll K H vs ds → vs[i]? = some v → ∃ d, ds[i]? = some d ∧ Dq K H v d
  | [], _, i, v, h, e => by cases h; simp at e
  | d :: ds, _, 0, v, h, e => by
    cases h with
    | cons h1 h2 =>
      rw [List.getElem?_cons_zero] at e
      obtain rfl := Option.some.inj e
      exact ⟨d, rfl, h1⟩
  | d :: ds, _, i + 1, v, h, e => by
    cases h with
    | cons h1 h2 => exact DqAll.at (i := i) h2 (by simpa using e)
theorem DqAll.app : ∀ {ds es : List PyData} {vs us : List V}, DqAll K H vs ds → DqAll K H us es → DqAll K H (vs ++ us) (ds ++ es)
  | [], _, _, _, h, h' => by cases h; exact h'
  | d :: ds, _, _, _, h, h' => by
    cases h with
    | cons h1 h2 => exact .cons h1 (DqAll.app h2 h')
theorem DqAll.tk : ∀ {ds : List PyData} {vs : List V} (n : Nat), DqAll K H vs ds → DqAll K H (vs.take n) (ds.take n)
  | _, _, 0, _ => .nil
  | [], _, n + 1, h => by cases h; exact .nil
  | d :: ds, _, n + 1, h => by
    cases h with
    | cons h1 h2 => exact .cons h1 (DqAll.tk n h2)
theorem DqAll.dp : ∀ {ds : List PyData} {vs : List V} (n : Nat), DqAll K H vs ds → DqAll K H (vs.drop n) (ds.drop n)
  | _, _, 0, h => h
  | [], _, n + 1, h => by cases h; exact .nil
  | d :: ds, _, n + 1, h => by
    cases h with
    | cons h1 h2 => exact DqAll.dp n h2
theorem DqAll.rv {ds : List PyData} {vs : List V} (h : DqAll K H vs ds) : DqAll K H vs.reverse ds.reverse := by
  induction ds generalizing vs with
  | nil => cases h; exact .nil
  | cons d ds ih =>
    cases h with
    | cons h1 h2 =>
      rw [List.reverse_cons, List.reverse_cons]
      exact (ih h2).app (.cons h1 .nil)
end
section
variable {X : Cx} {pins : List (Addr × Obj)} {σ : L2.St} {H : Hp} {s : Shared}
theorem not_sys {a : Addr} (I : Inv X pins σ H s) (h : H a = some (.dK [])) : a ≠ sysModules ∧ ∃ o n, s.heap.get? a = some o ∧ o.cls = .type "dict" ∧ o.data = .dict #[] n := by
  obtain ⟨_, h2, vs, kv, o, es, n, ho, hx, hd, _, hes, _⟩ := I.hok a _ h
  cases kv
  refine ⟨ne_of_beq_false h2, o, n, ho, hx.1, ?_⟩
  have e : es.toList = [] := by
    generalize es.toList = l at hes
    cases hes; rfl
  rw [hd]
  congr
  exact Array.toList_eq_nil_iff.mp e
mutual
theorem Dq.reads (I : Inv X pins σ H s) : ∀ (d : PyData) (v : V) (u : Value), Dq X.K H v d → RelV v u → ∃ as, Reads s.heap u d as ∧ (noL d = true → sysModules ∉ as)
  | .none, _, _, h, r => by cases h; cases r; exact ⟨_, Reads.none, fun _ => List.not_mem_nil⟩
  | .bool b, _, _, h, r => by cases h; cases r; exact ⟨_, Reads.bool b, fun _ => List.not_mem_nil⟩
  | .int i, _, _, h, r => by cases h; obtain ⟨t, rfl⟩ := r; exact ⟨_, Reads.int i t, fun _ => List.not_mem_nil⟩
  | .str x, _, _, h, r => by cases h; obtain ⟨t, rfl⟩ := r; exact ⟨_, Reads.str x t, fun _ => List.not_mem_nil⟩
  | .list ds, _, _, h, r => by
    cases h with
    | lst hs ha =>
      cases r
      obtain ⟨its, rv, ⟨o, n, ho, hc, _, hd⟩, _⟩ := I.list hs
      obtain ⟨as, hr, _⟩ := DqAll.reads I ds _ its ha rv
      exact ⟨_, Reads.list ho hc hd hr, fun z => by simp [noL] at z⟩
  | .tuple ds, _, _, h, r => by
    cases h with
    | tup hs ha =>
      cases r
      obtain ⟨its, rv, ⟨o, ho, hc, n, hd⟩, _⟩ := I.tuple hs
      obtain ⟨as, hr, hn⟩ := DqAll.reads I ds _ its ha rv
      exact ⟨_, Reads.tuple ho hc hd hr, fun z => hn (by simpa [noL] using z)⟩
  | .dict _, _, _, h, r => by
    cases h with
    | dic hd =>
      cases r
      obtain ⟨hne, o, n, ho, hc, hdd⟩ := not_sys I hd
      exact ⟨_, Reads.dict (kvs := []) ho hc hdd .nil .nil, fun _ => by simp [Ne.symm hne]⟩
theorem DqAll.reads (I : Inv X pins σ H s) : ∀ (ds : List PyData) (vs : List V) (us : List Value), DqAll X.K H vs ds → Vals vs us → ∃ as, ReadsAll s.heap us ds as ∧ (noLs ds = true → sysModules ∉ as)
  | [], _, _, h, r => by cases h; cases r; exact ⟨_, ReadsAll.nil, fun _ => List.not_mem_nil⟩
  | d :: ds, _, _, h, r => by
    cases h with
    | cons h1 h2 =>
      cases r with
      | cons r1 r2 =>
        obtain ⟨as, q1, n1⟩ := Dq.reads I d _ _ h1 r1
        obtain ⟨bs, q2, n2⟩ := DqAll.reads I ds _ _ h2 r2
        refine ⟨_, ReadsAll.cons q1 q2, fun z => ?_⟩
        obtain ⟨z1, z2⟩ : noL d = true ∧ noLs ds = true := by simpa [noLs] using z
        exact fun m => (List.mem_append.mp m).elim (n1 z1) (n2 z2)
end
/-- repr(x) of data -/
def rRepr (K : PySem.W.Frag) : List V → Hp → VK → Prop := fun xs H Q => ∃ x d, xs = [x] ∧ Dq K H x d ∧ d.showable = true ∧ (d.hasDict = false ∨ noL d = true) ∧ d.depth ≤ 100 ∧ d.shown.length ≤ sizeLine ∧ Q (.str d.shown) H
theorem call_repr {k : Nat} (hr : RoomG k X.A) : CallR X (.builtin "repr") (rRepr X.K) := by
  intro pins s σ H xs us Q I rv h
  obtain ⟨x, d, rfl, hd, hs, hn, hdp, hz, q⟩ := h
  obtain ⟨u, rfl, ru⟩ := vals1 rv
  obtain ⟨as, rd, hsys⟩ := Dq.reads I d x u hd ru
  have hu : X.A.units + (d.depth + 1) < cLine := by have := hr.r.un; omega
  have sm : d.hasDict = true → sysModules ∉ as := fun z => hn.elim (fun y => by rw [y] at z; cases z) hsys
  have fin : ∀ h' u' tk, (∀ b o, s.heap.get? b = some o → h'.get? b = some o) → EP X pins σ Q (.str d.shown u') { s with heap := h', toks := tk } := fun h' u' tk k => ⟨.str d.shown, H, I.kept k, ⟨u', rfl⟩, q⟩
  cases hd with
  | non =>
    cases ru
    refine P.repr_of_none ?_
    simpa [PyData.shown] using fin s.heap s.toks (s.toks + 1) fun _ _ e => e
  | bl b =>
    cases ru
    refine P.repr_of_bool ?_
    simpa [PyData.shown] using fin s.heap s.toks (s.toks + 1) fun _ _ e => e
  | int i =>
    obtain ⟨t, rfl⟩ := ru
    refine P.repr_of_int (by simpa [PyData.showable] using hs) ?_
    simpa [PyData.shown] using fin s.heap s.toks (s.toks + 1) fun _ _ e => e
  | str z =>
    obtain ⟨t, rfl⟩ := ru
    refine P.repr_of_str ?_ (by simpa only [PyData.shown] using hz)
    simpa [PyData.shown] using fin s.heap s.toks (s.toks + 1) fun _ _ e => e
  | lst _ _ => cases ru; exact repr_of_reads' rd hs sm hr.g hu (fun _ _ e => e) fin hz
  | tup _ _ => cases ru; exact repr_of_reads' rd hs sm hr.g hu (fun _ _ e => e) fin hz
  | dic _ => cases ru; exact repr_of_reads' rd hs sm hr.g hu (fun _ _ e => e) fin hz
end
end EL
namespace EL
open PySem PySem.Spec PyProof.Rows L2
/-! ### the built-in class of data -/
def tyN : PyData → String
  | .none => "NoneType" | .bool _ => "bool" | .int _ => "int" | .str _ => "str" | .list _ => "list" | .tuple _ => "tuple" | .dict _ => "dict"
def tyNs : List String := ["NoneType", "bool", "int", "str", "list", "tuple", "dict"]
theorem tyN_mem (d : PyData) : tyN d ∈ tyNs := by cases d <;> simp [tyN, tyNs]
theorem tyx_of {K : PySem.W.Frag} {H : Hp} {x : V} {d : PyData} (h : Dq K H x d) : TyX K H x (.type (tyN d)) := by
  cases h with
  | non => exact .base .non
  | bl b => exact .base (.bl b)
  | int i => exact .base (.int i)
  | str z => exact .base (.str z)
  | lst hs _ =>
    rcases hs with (e | ⟨o, e⟩) | ⟨o, its, n, e, c, _⟩
    · exact .base (.lst e)
    · exact .base (.frz e)
    · exact .kList e c
  | tup hs _ =>
    rcases hs with (e | ⟨o, e⟩) | ⟨o, its, n, e, c, _⟩
    · exact .base (.tup e)
    · exact .fTuple e
    · exact .kTuple e c
  | dic e => exact .base (.dK e)
theorem kitL_str : ∀ n ∈ tyNs, kitB n "str" = some (decide (n = "str")) := by decide +kernel
theorem kit_str (d : PyData) : kitB (tyN d) "str" = some (decide (tyN d = "str")) := kitL_str _ (tyN_mem d)
theorem kitL_tuple : ∀ n ∈ tyNs, kitB n "tuple" = some (decide (n = "tuple")) := by decide +kernel
theorem kit_tuple (d : PyData) : kitB (tyN d) "tuple" = some (decide (tyN d = "tuple")) := kitL_tuple _ (tyN_mem d)
theorem kitL_list : ∀ n ∈ tyNs, kitB n "list" = some (decide (n = "list")) := by decide +kernel
theorem kit_list (d : PyData) : kitB (tyN d) "list" = some (decide (tyN d = "list")) := kitL_list _ (tyN_mem d)
def isStr (d : PyData) : Bool := decide (tyN d = "str")
def isTup (d : PyData) : Bool := decide (tyN d = "tuple")
/-- isinstance(x, str) and isinstance(x, tuple) of data -/
theorem isi_str {K : PySem.W.Frag} {H : Hp} {x : V} {d : PyData} {Q : VK} (h : Dq K H x d) (q : Q (.bl (isStr d)) H) : rIsi K [x, .ty "str"] H Q := ⟨x, .ty "str", _, _, _, rfl, .ty "str", tyx_of h, kit_ty (kit_str d), q⟩
theorem isi_tup {K : PySem.W.Frag} {H : Hp} {x : V} {d : PyData} {Q : VK} (h : Dq K H x d) (q : Q (.bl (isTup d)) H) : rIsi K [x, .ty "tuple"] H Q := ⟨x, .ty "tuple", _, _, _, rfl, .ty "tuple", tyx_of h, kit_ty (kit_tuple d), q⟩
/-! ### x == text, x of any kind -/
section
variable {A : Around} {s : Shared}
theorem dict_declines (l : Addr) (es : Array DictEntry) (n : Nat) (dd : Option Addr) (sl : Array (Option Value)) (b : Str) (u : Tok) :
    Meets (Builtin.«dict.__eq__» ⟨[.ref l, .str b u], []⟩) (fun _ R s => s.heap.get? l = some { cls := .type "dict", dict := dd, data := .dict es n, slots := sl } ∧ R (.ok (.ret .notImplemented)) s) :=
  .of_wp fun prog w A R s h => by
    obtain ⟨hl, h⟩ := h
    have ty : s.TypeIs (.ref l) "dict" := ⟨_, hl, rfl⟩
    show wpAny _ _ (Builtin.Dict.dictSlotArgs "__eq__" ⟨[.ref l, .str b u], []⟩ >>= _) _ _ s
    refine wpAny_bind ?_
    unfold Builtin.Dict.dictSlotArgs
    refine wpAny_bind (wpAny_notOrdered_dict ty ?_)
    show wpAny _ _ (pure (Value.ref l, Value.str b u)) _ _ s
    refine wpAny_pure ?_
    refine wpAny_bind (wpAny_isInstance (T := "str") (typeIs_str s b u) PySem.F.sub_str_dict ?_)
    simp only [Bool.not_false, if_true]
    exact wpAny_bind (wpAny_rule (wpAny_pure ⟨_, rfl, h⟩))
theorem str_declines (l : Addr) (es : Array DictEntry) (n : Nat) (dd : Option Addr) (sl : Array (Option Value)) (b : Str) (u : Tok) :
    Meets (Builtin.«str.__eq__» ⟨[.str b u, .ref l], []⟩) (fun _ R s => s.heap.get? l = some { cls := .type "dict", dict := dd, data := .dict es n, slots := sl } ∧ R (.ok (.ret .notImplemented)) s) :=
  .of_wp fun prog w A R s h => by
    obtain ⟨hp, g, d, tk, os⟩ := s
    obtain ⟨hl, h⟩ := h
    have look := hl
    wp_walk using wpAny_loadPart' hl, wpAny_load hl
    exact ⟨_, rfl, h⟩
theorem dict_rc {l : Addr} {es : Array DictEntry} {n : Nat} (b : Str) (u : Tok) (hl : ∃ o, s.heap.get? l = some o ∧ o.cls = .type "dict" ∧ o.data = .dict es n) (hu : A.units < cLine) : SeqAt.RcAt A s (.ref l) (.str b u) false := fun prog w E Q h => by
  obtain ⟨⟨cls, dd, data, sl⟩, ho, hc, hd⟩ := hl
  obtain rfl : cls = .type "dict" := hc
  obtain rfl : data = .dict es n := hd
  exact SeqAt.rc_eq_decline_or (k := false) ⟨_, ho, rfl⟩ (typeIs_str s b u) (by decide) PySem.F.sub_str_dict PySem.F.slot_dict_eq PySem.F.slot_str_eq_refl
    (fun _ hq => call_meets PySem.F.slot_dict_eq ⟨_, ho, rfl⟩ PySem.F.entry_dict_eq (PySem.F.args_dict_eq_2 _ _) (dict_declines l es n dd sl b u) ⟨ho, hq⟩)
    (fun _ hq => call_meets PySem.F.slot_str_eq_refl (typeIs_str s b u) PySem.F.entry_str_eq (PySem.F.args_str_eq_2 _ _) (str_declines l es n dd sl b u) ⟨ho, hq⟩)
    (fun _ hq => wpAny_of_eq (rfl : isSame (.ref l) (.str b u) = pure false) hq) (.inr hu) h
end
/-- x == y, y a text, x data of any kind -/
def rEqS (K : PySem.W.Frag) : R2 := fun x y H Q => (∃ d, Dq K H x d) ∧ (∃ z, y = .str z) ∧ Q (.bl (decide (x = y))) H
theorem op_eqS {X : Cx} (hu : X.A.units + 64 < cLine) : OpR X (compareOp .Eq) (rEqS X.K) := by
  intro pins s σ H x y v u Q I rx ry h
  obtain ⟨⟨d, hd⟩, ⟨z, rfl⟩, q⟩ := h
  have hu0 : X.A.units < cLine := by omega
  by_cases hs : scal x (.str z) = true
  · exact op_eq pins s σ H x _ v u Q I rx ry ⟨hs, q⟩
  · obtain ⟨t, rfl⟩ := ry
    have no : ∀ a : Addr, x = .ref a → Q (.bl false) H := fun a e => by
      subst e
      have ne : decide (V.ref a = V.str z) = false := decide_eq_false fun q => nomatch q
      rw [ne] at q; exact q
    cases hd with
    | non => exact absurd rfl hs
    | bl b => exact absurd rfl hs
    | int i => exact absurd rfl hs
    | str w => exact absurd rfl hs
    | lst hq _ =>
      cases rx
      obtain ⟨its, _, ⟨o, n, ho, hc, _, hdd⟩, _⟩ := I.list hq
      exact SeqAt.RcAt.list_str z t ⟨o, ho, hc, n, hdd⟩ hu0 _ _ _ _ ⟨.bl false, H, I, rfl, no _ rfl⟩
    | tup hq _ =>
      cases rx
      obtain ⟨its, _, ⟨o, ho, hc, n, hdd⟩, _⟩ := I.tuple hq
      exact SeqAt.RcAt.tuple_str z t ⟨o, ho, hc, n, hdd⟩ hu0 _ _ _ _ ⟨.bl false, H, I, rfl, no _ rfl⟩
    | dic hq =>
      cases rx
      obtain ⟨_, o, n, ho, hc, hdd⟩ := not_sys I hq
      exact dict_rc z t ⟨o, ho, hc, hdd⟩ hu0 _ _ _ _ ⟨.bl false, H, I, rfl, no _ rfl⟩
/-! ### s.ljust(n, sign) -/
theorem mt_ljust3 {X : Cx} : MtR X "str.ljust" (fun x xs H Q => ∃ (a : Str) (i : Int) (f : Str), x = .str a ∧ xs = [.int i, .str f] ∧ PadOk i = true ∧ f.length = 1 ∧ Q (.str (Txt.ljustF a i (f.cps.getD 0 0))) H) := by
  intro pins s σ H x xs v us Q I rx rs h
  obtain ⟨a, i, f, rfl, rfl, hp, hf, q⟩ := h
  obtain ⟨t, rfl⟩ := rx
  cases rs with
  | cons r1 rs =>
    cases rs with
    | cons r2 rs =>
      cases rs
      obtain ⟨u1, rfl⟩ := r1
      obtain ⟨u2, rfl⟩ := r2
      exact PyProof.Rows.ljust_fill hp hf fun t1 k => ⟨.str (Txt.ljustF a i (f.cps.getD 0 0)), H, I.tok k, ⟨t1, rfl⟩, q⟩
end EL
/-! tuple(zip(a, b)) of two texts of one length: each pair handed out stays in hand. -/
namespace EL
open PySem PySem.Spec PyProof.Rows L2
section
variable {prog : Program} {w : World} {A : Around} {E : Value → Shared → Prop} {s : Shared} {z TI TO T i1 i2 : Addr} {fp1 fp2 : List Addr} {n1 n2 i : Nat} {P1 P2 : Nat → Value → Prop} {St1 St2 : Nat → Heap → Prop} {f : Bool} {oT : Obj}
theorem held_item {Q : Value → Shared → Prop} (S : ZipSep2 z TI TO i1 i2 fp1 fp2) (D1 : Draws prog w A i1 fp1 n1 P1 St1) (D2 : Draws prog w A i2 fp2 n2 P2 St2)
    (hz : IsZipHeld s.heap z TI TO T f) (hT : s.heap.get? T = some oT) (hTI : IsTupOf2 s.heap TI (.ref i1) (.ref i2)) (st1 : St1 i s.heap) (st2 : St2 i s.heap) (lt1 : i < n1) (lt2 : i < n2)
    (hQ : ∀ x1 x2 h' tk, P1 i x1 → P2 i x2 → IsZipHeld h' z TI TO T true → St1 (i + 1) h' → St2 (i + 1) h' → IsTupOf2 h' s.heap.objs.size x1 x2 → h'.objs.size = s.heap.objs.size + 1 →
      (∀ c o, c ≠ z → c ≠ i1 → c ≠ i2 → s.heap.get? c = some o → h'.get? c = some o) → Q (.ref s.heap.objs.size) { s with heap := h', toks := tk }) :
    wpAny (model prog w) A (Builtin.«zip.__next__» ⟨[.ref z], []⟩) (fun fin s' => ∃ v, fin = .done (.ret v) ∧ Q v s') E s := by
  obtain ⟨hp, g, d, tk0, os⟩ := s
  show wpAny _ _ (field (.ref z) 2 >>= _) _ _ _
  refine wpAny_bind (wpAny_field hz rfl (x := .bool false) rfl ?_)
  show wpAny _ _ (field (.ref z) 3 >>= _) _ _ _
  refine wpAny_bind (wpAny_field hz rfl (x := .ref TI) rfl ?_)
  refine wpAny_bind (wpAny_seqItems hTI rfl ?_)
  show wpAny _ _ (Builtin.SmallTypes.ownedTupleIsFree (.ref z) >>= _) _ _ _
  refine wpAny_bind (wpAny_tupleHeld_zip hz hT fun g1 z1 e1 => ?_)
  replace e1 : Heap.SameBut z hp g1 := e1
  simp only [Bool.false_eq_true, if_false]
  refine wpAny_bind ?_
  rw [← Array.forIn_toList]
  simp only [List.forIn_cons, List.forIn_nil]
  refine wpAny_bind (wpAny_bind (wpAny_holding ?_))
  show wpAny _ _ (Builtin.SmallTypes.nextOf (.ref i1) >>= _) _ _ ⟨g1, g, d, tk0, os⟩
  refine wpAny_bind (D1.item i _ _ _ lt1 (D1.over st1 e1 S.zf1) fun x1 g2 tk1 p1 s1 e2 => wpAny_pure ?_)
  replace e2 : Heap.SameBut i1 g1 g2 := e2
  refine wpAny_pure ?_
  refine wpAny_bind (wpAny_bind (wpAny_holding ?_))
  show wpAny _ _ (Builtin.SmallTypes.nextOf (.ref i2) >>= _) _ _ ⟨g2, g, d, tk1, os⟩
  refine wpAny_bind (D2.item i _ _ _ lt2 (D2.over (D2.over st2 e1 S.zf2) e2 S.sep1_2) fun x2 g3 tk2 p2 s2 e3 => wpAny_pure ?_)
  replace e3 : Heap.SameBut i2 g2 g3 := e3
  refine wpAny_pure (wpAny_pure ?_)
  show wpAny _ _ (newTuple [x1, x2] >>= _) _ _ _
  refine wpAny_bind (wpAny_newTuple ?_)
  have sz : g3.objs.size = hp.objs.size := by rw [e3.1, e2.1, e1.1]
  have z3 : IsZipHeld g3 z TI TO T true := e3.extBut _ _ S.zi2 (e2.extBut _ _ S.zi1 z1)
  have kp : ∀ c o, c ≠ z → c ≠ i1 → c ≠ i2 → hp.get? c = some o → g3.get? c = some o := fun c o c0 c1 c2 e => e3.extBut _ _ c2 (e2.extBut _ _ c1 (e1.extBut _ _ c0 e))
  have t1 : St1 (i + 1) g3 := D1.over s1 e3 S.sep2_1
  refine wpAny_pure ⟨_, rfl, ?_⟩
  show Q (.ref g3.objs.size) ⟨g3.push { cls := .type "tuple", data := .seq #[x1, x2] }, g, d, tk2, os⟩
  have hp1 : IsTupOf2 (g3.push { cls := .type "tuple", data := .seq #[x1, x2] }) g3.objs.size x1 x2 := Heap.get?_push_size _ rfl
  have hp2 : (g3.push { cls := .type "tuple", data := .seq #[x1, x2] }).objs.size = g3.objs.size + 1 := Heap.size_push ..
  rw [sz] at hp1 hp2 ⊢
  exact hQ x1 x2 _ tk2 p1 p2 (Heap.get?_push_of_some _ z3) (D1.frame _ _ _ t1 fun b _ o e => Heap.get?_push_of_some _ e) (D2.frame _ _ _ s2 fun b _ o e => Heap.get?_push_of_some _ e) hp1 hp2 fun c o c0 c1 c2 e => Heap.get?_push_of_some _ (kp c o c0 c1 c2 e)
/-- both have come to their ends -/
theorem held_end {Q : Fin → Shared → Prop} (S : ZipSep2 z TI TO i1 i2 fp1 fp2) (D1 : Draws prog w A i1 fp1 n1 P1 St1)
    (hz : IsZipHeld s.heap z TI TO T f) (hT : s.heap.get? T = some oT) (hTI : IsTupOf2 s.heap TI (.ref i1) (.ref i2)) (st1 : St1 n1 s.heap)
    (hE : ∀ h' e, (∀ c o, c ≠ z → c ≠ i1 → c ≠ i2 → s.heap.get? c = some o → h'.get? c = some o) → (∃ o, h'.get? e = some o ∧ o.cls = .type "StopIteration") → E (.ref e) { s with heap := h' }) :
    wpAny (model prog w) A (Builtin.«zip.__next__» ⟨[.ref z], []⟩) Q E s := by
  obtain ⟨hp, g, d, tk0, os⟩ := s
  show wpAny _ _ (field (.ref z) 2 >>= _) _ _ _
  refine wpAny_bind (wpAny_field hz rfl (x := .bool false) rfl ?_)
  show wpAny _ _ (field (.ref z) 3 >>= _) _ _ _
  refine wpAny_bind (wpAny_field hz rfl (x := .ref TI) rfl ?_)
  refine wpAny_bind (wpAny_seqItems hTI rfl ?_)
  show wpAny _ _ (Builtin.SmallTypes.ownedTupleIsFree (.ref z) >>= _) _ _ _
  refine wpAny_bind (wpAny_tupleHeld_zip hz hT fun g1 z1 e1 => ?_)
  replace e1 : Heap.SameBut z hp g1 := e1
  simp only [Bool.false_eq_true, if_false]
  refine wpAny_bind ?_
  rw [← Array.forIn_toList]
  simp only [List.forIn_cons, List.forIn_nil]
  refine wpAny_bind (wpAny_bind (wpAny_holding ?_))
  show wpAny _ _ (Builtin.SmallTypes.nextOf (.ref i1) >>= _) _ _ ⟨g1, g, d, tk0, os⟩
  refine wpAny_bind (D1.done ⟨g1, g, d, tk0, os⟩ _ _ (D1.over st1 e1 S.zf1) fun g2 e e2 he => ?_)
  replace e2 : Heap.ExtBut i1 g1 g2 := e2
  exact hE g2 e (fun c o c0 c1 _ x => e2 _ _ c1 (e1.extBut _ _ c0 x)) he
end
section
variable {prog : Program} {w : World} {A : Around} {E : Value → Shared → Prop} {s : Shared} {z TI TO T i1 i2 : Addr} {fp1 fp2 : List Addr} {n1 n2 i : Nat} {P1 P2 : Nat → Value → Prop} {St1 St2 : Nat → Heap → Prop} {f : Bool} {oT : Obj}
theorem next_held {Q : Option Value → Shared → Prop} (S : ZipSep2 z TI TO i1 i2 fp1 fp2) (D1 : Draws prog w A.in1 i1 fp1 n1 P1 St1) (D2 : Draws prog w A.in1 i2 fp2 n2 P2 St2)
    (hz : IsZipHeld s.heap z TI TO T f) (hT : s.heap.get? T = some oT) (hTI : IsTupOf2 s.heap TI (.ref i1) (.ref i2)) (st1 : St1 i s.heap) (st2 : St2 i s.heap) (lt1 : i < n1) (lt2 : i < n2)
    (hQ : ∀ x1 x2 h' tk, P1 i x1 → P2 i x2 → IsZipHeld h' z TI TO T true → St1 (i + 1) h' → St2 (i + 1) h' → IsTupOf2 h' s.heap.objs.size x1 x2 → h'.objs.size = s.heap.objs.size + 1 →
      (∀ c o, c ≠ z → c ≠ i1 → c ≠ i2 → s.heap.get? c = some o → h'.get? c = some o) → Q (some (.ref s.heap.objs.size)) { s with heap := h', toks := tk }) :
    wpAny (model prog w) A (pyNext (.ref z)) Q E s := by
  have ty : s.TypeIs (.ref z) "zip" := ⟨_, hz, rfl⟩
  unfold pyNext
  exact wpAny_bind (wpAny_attempt (wpAny_callSpecial?_slot (name := Str.ofString "__next__") ty PySem.F.slot_zip_next
    (wpAny_call_entry PySem.F.slot_zip_next ty PySem.F.entry_zip_next
      (held_item S D1 D2 hz hT hTI st1 st2 lt1 lt2 fun x1 x2 h' tk a b c d e f g k => wpAny_pure (hQ x1 x2 h' tk a b c d e f g k)) (PySem.F.args_zip_next_1 _))))
theorem next_held_end {Q : Option Value → Shared → Prop} (S : ZipSep2 z TI TO i1 i2 fp1 fp2) (D1 : Draws prog w A.in1 i1 fp1 n1 P1 St1)
    (hz : IsZipHeld s.heap z TI TO T f) (hT : s.heap.get? T = some oT) (hTI : IsTupOf2 s.heap TI (.ref i1) (.ref i2)) (st1 : St1 n1 s.heap)
    (hQ : ∀ h', (∀ c o, c ≠ z → c ≠ i1 → c ≠ i2 → s.heap.get? c = some o → h'.get? c = some o) → Q none { s with heap := h' }) : wpAny (model prog w) A (pyNext (.ref z)) Q E s := by
  have ty : s.TypeIs (.ref z) "zip" := ⟨_, hz, rfl⟩
  unfold pyNext
  refine wpAny_bind (wpAny_attempt (wpAny_callSpecial?_slot (name := Str.ofString "__next__") ty PySem.F.slot_zip_next
    (wpAny_call_entry PySem.F.slot_zip_next ty PySem.F.entry_zip_next (held_end S D1 hz hT hTI st1 fun h' e hk he => ?_) (PySem.F.args_zip_next_1 _))))
  obtain ⟨o, ho, hc⟩ := he
  refine wpAny_bind (wpAny_isInstance (T := "StopIteration") (b := true) ⟨o, ho, hc⟩ isSubtype_stop ?_)
  exact wpAny_pure (hQ _ hk)
end
end EL
namespace EL
open PySem PySem.Spec PyProof.Rows L2
/-- the items so far: pairs of signs, each a tuple of its own -/
def PairsAt (a b : Str) (acc : Array Value) (no : List Addr) (lo : Nat) (h : Heap) : Prop :=
  ∀ (j : Nat) (v : Value), acc[j]? = some v → ∃ (T : Addr) (c1 c2 : Nat) (t1 t2 : Tok), v = Value.ref T ∧ T ∉ no ∧ lo ≤ T ∧ IsTupOf2 h T (.str ⟨#[c1]⟩ t1) (.str ⟨#[c2]⟩ t2) ∧ a.cps[j]? = some c1 ∧ b.cps[j]? = some c2
theorem PairsAt.keep {a b : Str} {acc : Array Value} {no : List Addr} {lo : Nat} {h h' : Heap} (x : PairsAt a b acc no lo h) (k : ∀ c o, c ∉ no → h.get? c = some o → h'.get? c = some o) : PairsAt a b acc no lo h' := fun j v e => by
  obtain ⟨T, c1, c2, t1, t2, e1, e2, e0, e3, e4⟩ := x j v e
  exact ⟨T, c1, c2, t1, t2, e1, e2, e0, k T _ e2 e3, e4⟩
/-- the zip, its cells, the list that is filled -/
structure ZS (z TI TO i1 i2 S : Addr) (a b : Str) (ta tb : Tok) (h0 : Heap) (i : Nat) (acc : Array Value) (h : Heap) : Prop where
  zip : (i = 0 ∧ IsZip h z TI TO .none) ∨ ∃ T f oT, IsZipHeld h z TI TO T f ∧ h.get? T = some oT ∧ T ∉ [z, TO, i1, i2, S]
  ti : IsTupOf2 h TI (.ref i1) (.ref i2)
  tot : ∃ a1 a2, IsTupOf2 h TO a1 a2
  s1 : h.IsStrIter i1 (strIterType a) a ta i
  s2 : h.IsStrIter i2 (strIterType b) b tb i
  lst : ∃ c, h.get? S = some { cls := .type "list", dict := none, data := .seq acc c, slots := #[] }
  size : acc.size = i
  its : PairsAt a b acc [z, TO, i1, i2, S] h0.objs.size h
  old : ∀ c o, h0.get? c = some o → h.get? c = some o
section
variable {prog : Program} {w : World} {A : Around} {z TI TO i1 i2 S : Addr} {a b : Str} {ta tb : Tok} {h0 : Heap}
theorem zs_step {i : Nat} {acc : Array Value} {h h' : Heap} {T T0 : Addr} {c1 c2 : Nat} {t1 t2 : Tok} {f : Bool} (Z : ZS z TI TO i1 i2 S a b ta tb h0 i acc h) (sep : ZipSep2 z TI TO i1 i2 [i1] [i2]) (hS : S ∉ [z, TI, TO, i1, i2]) (hn : ∀ c ∈ [z, TI, TO, i1, i2, S], h0.objs.size ≤ c) (hT : h.objs.size ≤ T)
    (hz : IsZipHeld h' z TI TO T0 f) (hT0 : T0 = T ∨ (∃ o, h.get? T0 = some o) ∧ T0 ∉ [z, TO, i1, i2, S]) (tot : ∃ a1 a2, IsTupOf2 h' TO a1 a2) (n1 : h'.IsStrIter i1 (strIterType a) a ta (i + 1)) (n2 : h'.IsStrIter i2 (strIterType b) b tb (i + 1)) (nt : IsTupOf2 h' T (.str ⟨#[c1]⟩ t1) (.str ⟨#[c2]⟩ t2))
    (e1 : a.cps[i]? = some c1) (e2 : b.cps[i]? = some c2) (k : ∀ c o, c ≠ z → c ≠ TO → c ≠ i1 → c ≠ i2 → h.get? c = some o → h'.get? c = some o) :
    (∃ c, h'.get? S = some { cls := .type "list", dict := none, data := .seq acc c, slots := #[] }) ∧ ∀ h'' : Heap, (∃ c, h''.get? S = some { cls := .type "list", dict := none, data := .seq (acc.push (.ref T)) c, slots := #[] }) →
      (∀ c o, c ≠ S → h'.get? c = some o → h''.get? c = some o) → ZS z TI TO i1 i2 S a b ta tb h0 (i + 1) (acc.push (.ref T)) h'' := by
  simp only [List.mem_cons, List.not_mem_nil, or_false, not_or] at hS
  obtain ⟨hS1, hS2, hS3, hS4, hS5⟩ := hS
  obtain ⟨cS, lS⟩ := Z.lst
  have lt : ∀ {c o}, h.get? c = some o → T ≠ c := fun e q => by subst q; exact absurd (Heap.lt_size e) (Nat.not_lt.mpr hT)
  obtain ⟨o1, ho1, _⟩ := Z.s1
  obtain ⟨o2, ho2, _⟩ := Z.s2
  obtain ⟨y1, y2, hto⟩ := Z.tot
  have zin : ∃ o, h.get? z = some o := by
    rcases Z.zip with ⟨_, q⟩ | ⟨_, _, _, q, _⟩ <;> exact ⟨_, q⟩
  obtain ⟨oz, hoz⟩ := zin
  have Tn : T ∉ [z, TO, i1, i2, S] := by
    simp only [List.mem_cons, List.not_mem_nil, or_false, not_or]
    exact ⟨lt hoz, lt hto, lt ho1, lt ho2, lt lS⟩
  have TS : T ≠ S := lt lS
  refine ⟨⟨cS, k S _ hS1 hS3 hS4 hS5 lS⟩, fun h'' l'' k'' => ?_⟩
  have kk : ∀ c o, c ∉ [z, TO, i1, i2, S] → h.get? c = some o → h''.get? c = some o := fun c o hc e => by
    simp only [List.mem_cons, List.not_mem_nil, or_false, not_or] at hc
    exact k'' c o hc.2.2.2.2 (k c o hc.1 hc.2.1 hc.2.2.1 hc.2.2.2.1 e)
  have held : ∃ T f oT, IsZipHeld h'' z TI TO T f ∧ h''.get? T = some oT ∧ T ∉ [z, TO, i1, i2, S] := by
    rcases hT0 with e | ⟨⟨o, e⟩, m⟩
    · subst e
      exact ⟨T0, f, _, k'' z _ (Ne.symm hS1) hz, k'' T0 _ TS nt, Tn⟩
    · exact ⟨T0, f, _, k'' z _ (Ne.symm hS1) hz, kk T0 o m e, m⟩
  refine ⟨.inr held, k'' TI _ (Ne.symm hS2) (k TI _ sep.TIz sep.TITO sep.TIi1 sep.TIi2 Z.ti), ?_, ?_, ?_, l'', ?_, ?_, fun c o e => ?_⟩
  · obtain ⟨a1, a2, q⟩ := tot
    exact ⟨a1, a2, k'' TO _ (Ne.symm hS3) q⟩
  · obtain ⟨o, q, r⟩ := n1
    exact ⟨o, k'' i1 _ (Ne.symm hS4) q, r⟩
  · obtain ⟨o, q, r⟩ := n2
    exact ⟨o, k'' i2 _ (Ne.symm hS5) q, r⟩
  · rw [Array.size_push, Z.size]
  · intro j v e
    rw [Array.getElem?_push] at e
    split at e
    · rename_i q
      rw [Z.size] at q
      obtain rfl := Option.some.inj e
      subst q
      exact ⟨T, c1, c2, t1, t2, rfl, Tn, Nat.le_trans (Nat.le_trans (hn z List.mem_cons_self) (Nat.le_of_lt (Heap.lt_size hoz))) hT, k'' T _ TS nt, e1, e2⟩
    · exact (Z.its.keep kk) j v e
  · refine kk c o (fun m => ?_) (Z.old c o e)
    have q := hn c (by simp only [List.mem_cons, List.not_mem_nil, or_false] at m ⊢; rcases m with m | m | m | m | m <;> simp [m])
    exact absurd (Heap.lt_size e) (Nat.not_lt.mpr q)
theorem zip_loop {R : Result → Shared → Prop} {n : Nat} {res : Value} (hh : A.handled = none) (ha : a.cps.size = n) (hb : b.cps.size = n) (hn : n < sizeLine) (sep : ZipSep2 z TI TO i1 i2 [i1] [i2]) (hS : S ∉ [z, TI, TO, i1, i2]) (hn0 : ∀ c ∈ [z, TI, TO, i1, i2, S], h0.objs.size ≤ c) :
    ∀ (k i : Nat) (s : Shared) (acc : Array Value), n - i = k → i ≤ n → ZS z TI TO i1 i2 S a b ta tb h0 i acc s.heap →
      (∀ acc' h' tk, acc'.size = n → PairsAt a b acc' [z, TO, i1, i2, S] h0.objs.size h' → (∃ c, h'.get? S = some { cls := .type "list", dict := none, data := .seq acc' c, slots := #[] }) → (∀ c o, h0.get? c = some o → h'.get? c = some o) → R (.ok (.ret res)) { s with heap := h', toks := tk }) →
      codeAny (model prog w) A (.builtin "list.extend.loop" ⟨[.ref S, .ref z, res], []⟩) R s := by
  have D1 : Draws prog w A.in1.in1 i1 [i1] a.cps.size _ _ := Draws.text (A := A.in1.in1) hh i1 a ta
  have D2 : Draws prog w A.in1.in1 i2 [i2] b.cps.size _ _ := Draws.text (A := A.in1.in1) hh i2 b tb
  rw [ha] at D1
  rw [hb] at D2
  have hS' := hS
  simp only [List.mem_cons, List.not_mem_nil, or_false, not_or] at hS'
  obtain ⟨hS1, hS2, hS3, hS4, hS5⟩ := hS'
  intro k
  induction k with
  | zero =>
    intro i s acc hk hi Z hR
    have hin : i = n := by omega
    subst hin
    refine codeAny_builtin PySem.F.entry_extend_loop ?_
    rw [Around.under_plainId PySem.F.plain_extend_loop _]
    show wpAny _ A.in1 (pyNext (.ref z) >>= _) _ _ s
    have fin : ∀ h' tk, (∀ c o, c ≠ z → c ≠ TO → c ≠ i1 → c ≠ i2 → s.heap.get? c = some o → h'.get? c = some o) → R (.ok (.ret res)) { s with heap := h', toks := tk } := fun h' tk kp => by
      have kk : ∀ c o, c ∉ [z, TO, i1, i2, S] → s.heap.get? c = some o → h'.get? c = some o := fun c o hc e => by
        simp only [List.mem_cons, List.not_mem_nil, or_false, not_or] at hc
        exact kp c o hc.1 hc.2.1 hc.2.2.1 hc.2.2.2.1 e
      obtain ⟨cS, lS⟩ := Z.lst
      refine hR acc h' tk Z.size (Z.its.keep kk) ⟨cS, kp S _ hS1 hS3 hS4 hS5 lS⟩ fun c o e => kk c o (fun m => ?_) (Z.old c o e)
      have q := hn0 c (by simp only [List.mem_cons, List.not_mem_nil, or_false] at m ⊢; rcases m with m | m | m | m | m <;> simp [m])
      exact absurd (Heap.lt_size e) (Nat.not_lt.mpr q)
    rcases Z.zip with ⟨_, hz⟩ | ⟨T, f, oT, hz, hT, hTn⟩
    · obtain ⟨y1, y2, hto⟩ := Z.tot
      exact wpAny_bind (wpAny_pyNext_zipD2_end sep D1 D2 hz Z.ti hto Z.s1 Z.s2 (Nat.le_refl _) (Nat.le_refl _) (.inl rfl) fun h' tk kp => wpAny_pure (fin h' tk kp))
    · exact wpAny_bind (next_held_end sep D1 hz hT Z.ti Z.s1 fun h' kp => wpAny_pure (fin h' s.toks fun c o c0 _ c1 c2 e => kp c o c0 c1 c2 e))
  | succ k ih =>
    intro i s acc hk hi Z hR
    have hlt : i < n := by omega
    refine codeAny_builtin PySem.F.entry_extend_loop ?_
    rw [Around.under_plainId PySem.F.plain_extend_loop _]
    show wpAny _ A.in1 (pyNext (.ref z) >>= _) _ _ s
    have step : ∀ x1 x2 h' tk f T0, (T0 = s.heap.objs.size ∨ (∃ o, s.heap.get? T0 = some o) ∧ T0 ∉ [z, TO, i1, i2, S]) → (∃ c u, a.cps[i]? = some c ∧ x1 = .str ⟨#[c]⟩ u) → (∃ c u, b.cps[i]? = some c ∧ x2 = .str ⟨#[c]⟩ u) → IsZipHeld h' z TI TO T0 f → (∃ a1 a2, IsTupOf2 h' TO a1 a2) →
        h'.IsStrIter i1 (strIterType a) a ta (i + 1) → h'.IsStrIter i2 (strIterType b) b tb (i + 1) → IsTupOf2 h' s.heap.objs.size x1 x2 → (∀ c o, c ≠ z → c ≠ TO → c ≠ i1 → c ≠ i2 → s.heap.get? c = some o → h'.get? c = some o) →
        wpAny (model prog w) A.in1 (updateSeq S (·.push (.ref s.heap.objs.size)) >>= fun _ => again (.builtin "list.extend.loop" ⟨[.ref S, .ref z, res], []⟩)) (fun fin s' => match fin with | .done f => R (.ok f) s' | .again c' => c'.quiet = true ∧ codeAny (model prog w) A c' R s') (fun e s' => R (.error e) s') { s with heap := h', toks := tk } := by
      rintro x1 x2 h' tk f T0 hT0 ⟨c1, t1, e1, rfl⟩ ⟨c2, t2, e2, rfl⟩ hz tot n1 n2 nt kp
      obtain ⟨⟨cS, lS⟩, next⟩ := zs_step Z sep hS hn0 (Nat.le_refl _) hz hT0 tot n1 n2 nt e1 e2 kp
      refine wpAny_bind (wpAny_updateSeq (s := { s with heap := h', toks := tk }) lS rfl (wpAny_pure ⟨plainId_quiet PySem.F.plain_extend_loop _, ?_⟩) (by rw [Z.size]; omega) (by show (acc.push _).size ≤ sizeLine + 1; rw [Array.size_push, Z.size]; omega))
      refine ih (i + 1) _ (acc.push (.ref s.heap.objs.size)) (by omega) hlt (next _ ⟨_, Heap.get?_update_self _ lS rfl⟩ fun c o hc e => (Heap.get?_update_other _ _ (Ne.symm hc)).trans e) fun acc' h2 tk2 y1 y2 y3 y4 => hR acc' h2 tk2 y1 y2 y3 y4
    rcases Z.zip with ⟨_, hz⟩ | ⟨T, f, oT, hz, hT, hTn⟩
    · obtain ⟨y1, y2, hto⟩ := Z.tot
      exact wpAny_bind (wpAny_pyNext_zipD2_item sep D1 D2 hz Z.ti hto Z.s1 Z.s2 hlt hlt fun x1 x2 h' tk p1 p2 q1 q2 q3 q4 q5 _ kp => step x1 x2 h' tk false _ (.inl rfl) p1 p2 q1 ⟨_, _, q2⟩ q3 q4 q5 kp)
    · obtain ⟨y1, y2, hto⟩ := Z.tot
      have zTO := sep.TOz
      exact wpAny_bind (next_held sep D1 D2 hz hT Z.ti Z.s1 Z.s2 hlt hlt fun x1 x2 h' tk p1 p2 q1 q3 q4 q5 _ kp => step x1 x2 h' tk true T (.inr ⟨⟨_, hT⟩, hTn⟩) p1 p2 q1 ⟨_, _, kp TO _ sep.TOz sep.Ti1 sep.Ti2 hto⟩ q3 q4 q5 fun c o c0 _ c1 c2 e => kp c o c0 c1 c2 e)
end
end EL
namespace EL
open PySem PySem.Spec PyProof.Rows L2
theorem zip_len_none : typeLookup (.type "zip") "__len__" = pure none := by rw [typeLookup_type, builtinLookup_eq_fast]; kernel_rfl
theorem zip_hint_none : typeLookup (.type "zip") "__length_hint__" = pure none := by rw [typeLookup_type, builtinLookup_eq_fast]; kernel_rfl
/-- a zip of two texts that was just made over h0 -/
structure ZNew (z TI TO i1 i2 : Addr) (a b : Str) (ta tb : Tok) (h0 h : Heap) : Prop where
  zip : IsZip h z TI TO .none
  ti : IsTupOf2 h TI (.ref i1) (.ref i2)
  tot : IsTupOf2 h TO .none .none
  s1 : h.IsStrIter i1 (strIterType a) a ta 0
  s2 : h.IsStrIter i2 (strIterType b) b tb 0
  old : ∀ c o, h0.get? c = some o → h.get? c = some o
  new : ∀ c ∈ [z, TI, TO, i1, i2], h0.objs.size ≤ c
  le : h0.objs.size ≤ h.objs.size
section
variable {prog : Program} {w : World} {A : Around} {E : Value → Shared → Prop} {s : Shared} {z TI TO i1 i2 : Addr} {a b : Str} {ta tb : Tok} {h0 : Heap} {n : Nat}
theorem collect_zip {Q : List Value → Shared → Prop} (hh : A.handled = none) (ha : a.cps.size = n) (hb : b.cps.size = n) (hn : n < sizeLine) (sep : ZipSep2 z TI TO i1 i2 [i1] [i2]) (Z : ZNew z TI TO i1 i2 a b ta tb h0 s.heap)
    (hQ : ∀ (h' : Heap) (tk : Nat) (acc : Array Value), acc.size = n → (∃ no, PairsAt a b acc no h0.objs.size h') → (∀ c o, h0.get? c = some o → h'.get? c = some o) → h0.objs.size ≤ h'.objs.size → Q acc.toList { s with heap := h', toks := tk }) :
    wpAny (model prog w) A (collect (.ref z)) Q E s := by
  obtain ⟨o1, ho1, r1⟩ := Z.s1
  obtain ⟨o2, ho2, r2⟩ := Z.s2
  have nS : ∀ {c o}, s.heap.get? c = some o → s.heap.objs.size ≠ c := fun e => Nat.ne_of_gt (Heap.lt_size e)
  have hSz := nS Z.zip
  have hSm : s.heap.objs.size ∉ [z, TI, TO, i1, i2] := by
    simp only [List.mem_cons, List.not_mem_nil, or_false, not_or]
    exact ⟨nS Z.zip, nS Z.ti, nS Z.tot, nS ho1, nS ho2⟩
  unfold collect
  refine wpAny_bind (wpAny_runValue (codeAny_builtin PySem.F.entry_proto_collect ?_))
  rw [Around.under_plainId PySem.F.plain_proto_collect _]
  show wpAny _ A.in1 (newList [] >>= fun l => again (.builtin "list.__iadd__" ⟨[l, .ref z], []⟩)) _ _ s
  refine wpAny_bind (wpAny_newObj_type ?_)
  refine wpAny_pure ⟨plainId_quiet PySem.F.plain_list_iadd _, codeAny_builtin PySem.F.entry_list_iadd ?_⟩
  rw [Around.under_plainId PySem.F.plain_list_iadd _]
  generalize hG : s.heap.push { cls := .type "list", data := .seq ([] : List Value).toArray } = G
  have up : ∀ c o, s.heap.get? c = some o → G.get? c = some o := fun c o e => by rw [← hG]; exact Heap.get?_push_of_some _ e
  have lS : G.get? s.heap.objs.size = some { cls := .type "list", data := .seq ([] : List Value).toArray } := by rw [← hG]; exact Heap.get?_push_size _ rfl
  have ty : ({ s with heap := G } : Shared).TypeIs (.ref z) "zip" := ⟨_, up _ _ Z.zip, rfl⟩
  show wpAny _ A.in1 (Builtin.List.listExtendWith (.ref s.heap.objs.size) (.ref z) (.ref s.heap.objs.size)) _ _ _
  unfold Builtin.List.listExtendWith
  refine wpAny_bind (wpAny_typeOf ty ?_)
  have c1 : Builtin.List.listSameRef (.ref s.heap.objs.size) (.ref z) = false := by simp [Builtin.List.listSameRef, hSz]
  have c2 : (Value.type "zip" == Value.type "list") = false := by decide
  have c3 : (Value.type "zip" == Value.type "tuple") = false := by decide
  simp only [c1, c2, c3, Bool.or_false, Bool.false_eq_true, if_false]
  refine wpAny_bind (wpAny_pyIter_zip (s := { s with heap := G }) (up _ _ Z.zip) ?_)
  refine wpAny_bind (wpAny_holding ?_)
  unfold Builtin.List.listLengthHint
  refine wpAny_bind (wpAny_specialOf ty zip_len_none ?_)
  show wpAny _ A.in1 (specialOf (Value.ref z) (Str.ofString "__length_hint__") >>= _) _ _ _
  refine wpAny_bind (wpAny_specialOf ty zip_hint_none ?_)
  refine wpAny_pure ?_
  show wpAny _ A.in1 (rule "list.extend.makes-room" >>= fun _ => Builtin.List.listTouch (.ref s.heap.objs.size) >>= fun _ =>
    again (.builtin "list.extend.loop" ⟨[.ref s.heap.objs.size, .ref z, .ref s.heap.objs.size], []⟩)) _ _ _
  refine wpAny_bind (wpAny_rule (wpAny_bind ?_))
  show wpAny _ A.in1 (updateSeq s.heap.objs.size (·.push .none) >>= fun _ => updateSeq s.heap.objs.size (·.pop)) _ _ _
  refine wpAny_bind (wpAny_updateSeq lS rfl ?_)
  have l2 := Heap.get?_update_self (Obj.mapSeq (·.push Value.none)) lS rfl
  refine wpAny_updateSeq l2 rfl ?_
  have l3 := Heap.get?_update_self (Obj.mapSeq (·.pop)) l2 rfl
  generalize hK : (G.update s.heap.objs.size (Obj.mapSeq (·.push Value.none))).update s.heap.objs.size (Obj.mapSeq (·.pop)) = L at l3
  have oth : ∀ c o, s.heap.get? c = some o → L.get? c = some o := fun c o e => by
    rw [← hK]
    exact (Heap.get?_update_other _ _ (nS e)).trans ((Heap.get?_update_other _ _ (nS e)).trans (up c o e))
  have zs : ZS z TI TO i1 i2 s.heap.objs.size a b ta tb h0 0 #[] L := ⟨.inl ⟨rfl, oth _ _ Z.zip⟩, oth _ _ Z.ti, ⟨_, _, oth _ _ Z.tot⟩, ⟨o1, oth _ _ ho1, r1⟩, ⟨o2, oth _ _ ho2, r2⟩, ⟨_, l3⟩, rfl, fun j v e => by simp at e, fun c o e => oth c o (Z.old c o e)⟩
  refine wpAny_pure ⟨plainId_quiet PySem.F.plain_extend_loop _, zip_loop hh ha hb hn sep hSm (fun c m => ?_) n 0 _ #[] rfl (Nat.zero_le _) zs fun acc h' tk y1 y2 y3 y4 => ?_⟩
  · simp only [List.mem_cons, List.not_mem_nil, or_false] at m
    rcases m with m | m | m | m | m | m
    · exact Z.new c (by simp [m])
    · exact Z.new c (by simp [m])
    · exact Z.new c (by simp [m])
    · exact Z.new c (by simp [m])
    · exact Z.new c (by simp [m])
    · rw [m]; exact Z.le
  · obtain ⟨cS, y3⟩ := y3
    show wpAny _ A (load s.heap.objs.size >>= _) _ _ _
    refine wpAny_bind (wpAny_load y3 ?_)
    exact wpAny_pure (hQ h' tk acc y1 ⟨_, y2⟩ y4 (Nat.le_trans Z.le (Nat.le_of_lt (Heap.lt_size y3))))
theorem tuple_new_zip {Q₁ : Value → Shared → Prop} (hh : A.handled = none) (ha : a.cps.size = n) (hb : b.cps.size = n) (hn : n < sizeLine) (sep : ZipSep2 z TI TO i1 i2 [i1] [i2]) (Z : ZNew z TI TO i1 i2 a b ta tb h0 s.heap)
    (h : ∀ (h' : Heap) (tk : Nat) (acc : Array Value), acc.size = n → (∃ no, PairsAt a b acc no h0.objs.size h') → (∀ c o, h0.get? c = some o → h'.get? c = some o) → h0.objs.size ≤ h'.objs.size →
      Q₁ (.ref h'.objs.size) { s with heap := h'.push { cls := .type "tuple", data := .seq acc }, toks := tk }) :
    codeAny (model prog w) A (.call (.builtin "tuple.__new__") ⟨[.type "tuple", .ref z], []⟩) (wants Q₁ E) s := by
  refine codeAny_of_tree ?_
  show wpAny _ A.in1 (do checkBuiltinCall "tuple.__new__" ⟨[.type "tuple", .ref z], []⟩; again (.builtin "tuple.__new__" ⟨[.type "tuple", .ref z], []⟩)) _ _ s
  refine wpAny_bind (wpAny_of_eq (PySem.F.newCall_tuple_1 _) (wpAny_pure ⟨plainId_quiet PySem.F.plain_tuple_new _, codeAny_builtin PySem.F.entry_tuple_new ?_⟩))
  rw [Around.under_plainId PySem.F.plain_tuple_new _]
  have f1 := sub_tuple_self
  have f2 := init_tuple_lookup
  have f3 := madeHere_tuple
  have ty : s.TypeIs (.ref z) "zip" := ⟨_, Z.zip, rfl⟩
  have hh1 : A.in1.handled = none := hh
  wp_walk using wpAny_typeOf ty, collect_zip (A := A.in1) hh1 ha hb hn sep Z
  intro h' tk acc y1 y2 y3 y4
  show wpAny _ _ (Builtin.Tuple.tupleExact acc.toList.toArray >>= fun v => ret v) _ _ _
  unfold Builtin.Tuple.tupleExact
  refine wpAny_bind (wpAny_newObj_type ?_ (by show acc.toList.toArray.size ≤ sizeLine; simp only [Array.toArray_toList]; rw [y1]; omega))
  refine wpAny_pure ?_
  have e : acc.toList.toArray = acc := by simp
  rw [e]
  exact h h' tk acc y1 y2 y3 y4
theorem call_tuple_zip {Q : Value → Shared → Prop} (hh : A.handled = none) (ha : a.cps.size = n) (hb : b.cps.size = n) (hn : n < sizeLine) (sep : ZipSep2 z TI TO i1 i2 [i1] [i2]) (Z : ZNew z TI TO i1 i2 a b ta tb h0 s.heap)
    (hQ : ∀ (h' : Heap) (tk : Nat) (acc : Array Value), acc.size = n → (∃ no, PairsAt a b acc no h0.objs.size h') → (∀ c o, h0.get? c = some o → h'.get? c = some o) → h0.objs.size ≤ h'.objs.size →
      Q (.ref h'.objs.size) { s with heap := h'.push { cls := .type "tuple", data := .seq acc }, toks := tk }) :
    wpAny (model prog w) A (call (.type "tuple") [.ref z]) Q E s := by
  refine callType_codes (Q₁ := fun obj s₁ => s₁.TypeIs obj "tuple" ∧ Q obj s₁) PySem.F.called_tuple (PySem.F.typeCall_tuple_1 _) PySem.F.entry_object_init
    (tuple_new_zip (A := A.in1) hh ha hb hn sep Z fun h' tk acc y1 y2 y3 y4 => ⟨⟨_, Heap.get?_push_size _ rfl, rfl⟩, hQ h' tk acc y1 y2 y3 y4⟩) fun obj s₁ h₁ => ?_
  exact ⟨h₁.1, PySem.F.args_object_init_2 obj _, object_init_meets PySem.F.called_tuple.init.lookup PySem.F.called_tuple.made (by decide) prog w A.in1 _ s₁ ⟨h₁.1, rfl, h₁.2⟩⟩
end

/-! ### the rule -/
open Classical in
/-- what is tracked of a new pair of signs -/
noncomputable def pairHO (h : Heap) (c : Addr) : Option HO :=
  if x : ∃ q : Nat × Nat × Tok × Tok, IsTupOf2 h c (.str ⟨#[q.1]⟩ q.2.2.1) (.str ⟨#[q.2.1]⟩ q.2.2.2) then some (.tup [.str ⟨#[(Classical.choose x).1]⟩, .str ⟨#[(Classical.choose x).2.1]⟩]) else none
theorem pairHO_at {h : Heap} {c : Addr} {c1 c2 : Nat} {t1 t2 : Tok} (e : IsTupOf2 h c (.str ⟨#[c1]⟩ t1) (.str ⟨#[c2]⟩ t2)) : pairHO h c = some (.tup [.str ⟨#[c1]⟩, .str ⟨#[c2]⟩]) := by
  have x : ∃ q : Nat × Nat × Tok × Tok, IsTupOf2 h c (.str ⟨#[q.1]⟩ q.2.2.1) (.str ⟨#[q.2.1]⟩ q.2.2.2) := ⟨(c1, c2, t1, t2), e⟩
  have sp := Classical.choose_spec x
  unfold pairHO
  rw [dif_pos x]
  generalize Classical.choose x = q at sp
  have e2 : some ({ cls := .type "tuple", data := .seq #[Value.str ⟨#[c1]⟩ t1, Value.str ⟨#[c2]⟩ t2] } : Obj) = some { cls := .type "tuple", data := .seq #[Value.str ⟨#[q.1]⟩ q.2.2.1, Value.str ⟨#[q.2.1]⟩ q.2.2.2] } := e.symm.trans sp
  simp only [Option.some.injEq, Obj.mk.injEq, Data.seq.injEq, Array.mk.injEq, List.cons.injEq, Value.str.injEq, Str.mk.injEq, and_true, true_and] at e2
  obtain ⟨⟨e3, _⟩, e4, _⟩ := e2
  rw [e3, e4]
theorem pairHO_ok {P : Program} {w : World} {H : Hp} {h : Heap} {c : Addr} {o : HO} (e : pairHO h c = some o) : ObjOk P w H h c o := by
  unfold pairHO at e
  split at e
  · rename_i x
    have sp := Classical.choose_spec x
    generalize Classical.choose x = q at sp e
    obtain rfl := Option.some.inj e
    exact ⟨len_sz (by show 2 ≤ 1000000; decide), [.str ⟨#[q.1]⟩ q.2.2.1, .str ⟨#[q.2.1]⟩ q.2.2.2], .cons ⟨_, rfl⟩ (.cons ⟨_, rfl⟩ .nil), ⟨_, sp, rfl, _, rfl⟩⟩
  · cases e
/-- the pairs of two texts, sign beside sign -/
def pairsD : List Nat → List Nat → List PyData
  | c :: r, d :: q => .tuple [.str ⟨#[c]⟩, .str ⟨#[d]⟩] :: pairsD r q
  | _, _ => []
theorem pairsD_get : ∀ (xs ys : List Nat) (i : Nat) (c d : Nat), xs[i]? = some c → ys[i]? = some d → (pairsD xs ys)[i]? = some (.tuple [.str ⟨#[c]⟩, .str ⟨#[d]⟩])
  | [], _, _, _, _, h, _ => by simp at h
  | _ :: _, [], _, _, _, _, h => by simp at h
  | x :: xs, y :: ys, 0, c, d, h1, h2 => by
    simp at h1 h2; subst h1 h2; rfl
  | x :: xs, y :: ys, i + 1, c, d, h1, h2 => pairsD_get xs ys i c d (by simpa using h1) (by simpa using h2)
theorem pairsD_len : ∀ xs ys : List Nat, xs.length = ys.length → (pairsD xs ys).length = xs.length
  | [], [], _ => rfl
  | [], _ :: _, h => by simp at h
  | _ :: _, [], h => by simp at h
  | x :: xs, y :: ys, h => by
    show (pairsD xs ys).length + 1 = xs.length + 1
    rw [pairsD_len xs ys (by simpa using h)]
theorem dqAll_of {K : PySem.W.Frag} {H : Hp} : ∀ {vs : List V} {ds : List PyData}, vs.length = ds.length → (∀ (i : Nat) (v : V) (d : PyData), vs[i]? = some v → ds[i]? = some d → Dq K H v d) → DqAll K H vs ds
  | [], [], _, _ => .nil
  | [], _ :: _, h, _ => by simp at h
  | _ :: _, [], h, _ => by simp at h
  | v :: vs, d :: ds, h, f => .cons (f 0 v d rfl rfl) (dqAll_of (by simpa using h) fun i v' d' h1 h2 => f (i + 1) v' d' (by simpa using h1) (by simpa using h2))
def tTZ (K : PySem.W.Frag) (ta tb : TE) : TE := fun σ H Q => ta σ H fun x H1 => tb σ H1 fun y H2 => ∃ a b : Str, x = .str a ∧ y = .str b ∧ a.cps.size = b.cps.size ∧ a.cps.size ≤ 1000000 ∧
  ∀ p H3, Same H2 H3 → Dq K H3 (.ref p) (.tuple (pairsD a.cps.toList b.cps.toList)) → Q (.ref p) H3
section
variable {X : Cx} {pins : List (Addr × Obj)} {σ : L2.St} {H : Hp} {s : Shared}
theorem track_pairs {a b : Str} {no : List Addr} {acc : Array Value} {h' : Heap} {tk : Nat} (I : Inv X pins σ H s) (hab : a.cps.size = b.cps.size) (hl : a.cps.size ≤ 1000000) (hacc : acc.size = a.cps.size) (pa : PairsAt a b acc no s.heap.objs.size h')
    (old : ∀ c o, s.heap.get? c = some o → h'.get? c = some o) (le : s.heap.objs.size ≤ h'.objs.size) :
    ∃ H3, Same H H3 ∧ Dq X.K H3 (.ref h'.objs.size) (.tuple (pairsD a.cps.toList b.cps.toList)) ∧ Inv X pins σ H3 { s with heap := h'.push { cls := .type "tuple", data := .seq acc }, toks := tk } := by
  generalize hG : h'.push { cls := .type "tuple", data := .seq acc } = G
  have up : ∀ c o, h'.get? c = some o → G.get? c = some o := fun c o e => by rw [← hG]; exact Heap.get?_push_of_some _ e
  have gp : G.get? h'.objs.size = some { cls := .type "tuple", data := .seq acc } := by rw [← hG]; exact Heap.get?_push_size _ rfl
  have old2 : ∀ c o, s.heap.get? c = some o → G.get? c = some o := fun c o e => up c o (old c o e)
  have lenA : acc.size = (pairsD a.cps.toList b.cps.toList).length := by
    rw [pairsD_len _ _ (by rw [Array.length_toList, Array.length_toList]; exact hab), Array.length_toList]; exact hacc
  obtain ⟨vs, hv⟩ : ∃ vs : List V, Vals vs acc.toList := by
    have key : ∀ l : List Value, (∀ v ∈ l, ∃ T, v = Value.ref T) → ∃ vs : List V, Vals vs l := by
      intro l
      induction l with
      | nil => exact fun _ => ⟨[], .nil⟩
      | cons v l ih =>
        intro f
        obtain ⟨T, e⟩ := f v List.mem_cons_self
        obtain ⟨vs, q⟩ := ih fun v hv => f v (List.mem_cons_of_mem _ hv)
        exact ⟨.ref T :: vs, .cons e q⟩
    refine key _ fun v hm => ?_
    obtain ⟨j, hj⟩ := List.mem_iff_getElem?.mp hm
    obtain ⟨T, _, _, _, _, e, _⟩ := pa j v (by rw [← Array.getElem?_toList]; exact hj)
    exact ⟨T, e⟩
  have lenV : vs.length = acc.size := by rw [hv.length, Array.length_toList]
  let H3 : Hp := fun c => if c < s.heap.objs.size then H c else if c = h'.objs.size then some (.tup vs) else pairHO h' c
  have lo : ∀ c, c < s.heap.objs.size → H3 c = H c := fun c q => if_pos q
  have hp : H3 h'.objs.size = some (.tup vs) := by
    show (if _ then _ else _) = _
    rw [if_neg (Nat.not_lt.mpr le), if_pos rfl]
  have hpair : ∀ T c1 c2 t1 t2, s.heap.objs.size ≤ T → IsTupOf2 h' T (.str ⟨#[c1]⟩ t1) (.str ⟨#[c2]⟩ t2) → H3 T = some (.tup [.str ⟨#[c1]⟩, .str ⟨#[c2]⟩]) := fun T c1 c2 t1 t2 q e => by
    show (if _ then _ else _) = _
    rw [if_neg (Nat.not_lt.mpr q), if_neg (Nat.ne_of_lt (Heap.lt_size e))]
    exact pairHO_at e
  have sm : Same H H3 := fun c o e => by rw [lo c (I.hok.lt e)]; exact e
  have ok : HOk X.prog X.w H3 G := by
    intro c o e
    by_cases q : c < s.heap.objs.size
    · rw [lo c q] at e
      exact (I.hok c o e).stay (fun d u _ hd => old2 d u hd) (fun d hd => sm _ _ hd) fun d xs hd => sm _ _ hd
    · by_cases q2 : c = h'.objs.size
      · subst q2
        rw [hp] at e
        obtain rfl := Option.some.inj e
        exact ⟨len_sz (by rw [lenV, hacc]; exact hl), acc.toList, hv, ⟨_, gp, rfl, _, by simp; rfl⟩⟩
      · have e' : pairHO h' c = some o := by
          have z : H3 c = pairHO h' c := by
            show (if _ then _ else _) = _
            rw [if_neg q, if_neg q2]
          rw [← z]; exact e
        exact (pairHO_ok (P := X.prog) (w := X.w) (H := fun _ => none) e').stay (fun d u hd z => up d u z) (fun d hd => nomatch hd) fun d xs hd => nomatch hd
  refine ⟨H3, sm, .tup (stOf hp) (dqAll_of (by rw [lenV]; exact lenA) fun i v d hvi hdi => ?_), I.un ?_ ok⟩
  · obtain ⟨u, hu, ru⟩ := hv.get hvi
    obtain ⟨T, c1, c2, t1, t2, e, _, q, e3, e4, e5⟩ := pa i u (by rw [← Array.getElem?_toList]; exact hu)
    subst e
    have ev : v = .ref T := by
      cases v <;> simp [L2.RelV] at ru
      rw [ru]
    subst ev
    have hd : d = .tuple [.str ⟨#[c1]⟩, .str ⟨#[c2]⟩] := by
      have z := pairsD_get a.cps.toList b.cps.toList i c1 c2 (by rw [Array.getElem?_toList]; exact e4) (by rw [Array.getElem?_toList]; exact e5)
      rw [hdi] at z; exact Option.some.inj z
    subst hd
    exact .tup (stOf (hpair T c1 c2 t1 t2 q e3)) (.cons (.str _) (.cons (.str _) .nil))
  · have lt : ∀ {c o}, s.heap.get? c = some o → c < s.heap.objs.size := fun e => Heap.lt_size e
    exact ⟨fun c o e _ _ _ => old2 c o e, fun c o e _ _ _ => ⟨o.slots, old2 c o e⟩, fun c o e n _ => by rw [lo c (lt e)]; exact n, fun c o e _ => ⟨o, old2 c o e⟩, fun c xs e => sm _ _ e, fun c o u e => sm _ _ e, fun c ps e => ⟨#[], by rw [sm _ _ e]; simp⟩⟩
end
/-- what tuple(zip(..)) asks of its two values -/
def tzQ (K : PySem.W.Frag) (Q : VK) : List V → Hp → Prop := fun vs H2 => match vs with
  | [x, y] => ∃ a b : Str, x = .str a ∧ y = .str b ∧ a.cps.size = b.cps.size ∧ a.cps.size ≤ 1000000 ∧ ∀ p H3, Same H2 H3 → Dq K H3 (.ref p) (.tuple (pairsD a.cps.toList b.cps.toList)) → Q (.ref p) H3
  | _ => False
theorem tzQ_of {K : PySem.W.Frag} {Q : VK} {vs : List V} {H2 : Hp} (h : tzQ K Q vs H2) : ∃ a b : Str, vs = [.str a, .str b] ∧ a.cps.size = b.cps.size ∧ a.cps.size ≤ 1000000 ∧ ∀ p H3, Same H2 H3 → Dq K H3 (.ref p) (.tuple (pairsD a.cps.toList b.cps.toList)) → Q (.ref p) H3 := by
  unfold tzQ at h
  split at h
  · obtain ⟨a, b, rfl, rfl, r⟩ := h
    exact ⟨a, b, rfl, r⟩
  · exact h.elim
section
variable {X : Cx} {e1 e2 : Expr} {ta tb : TE} {p1 p2 pos1 pos2 : Pos}
/-- tuple(zip(e1, e2)) of two texts of one length -/
theorem pe_tupzip (hc : X.calm = true) (nt : X.mg "tuple" = none) (nz : X.mg "zip" = none) (h1 : PE X e1 ta) (h2 : PE X e2 tb) (gt : Gl X "tuple" := by rfl) (gz : Gl X "zip" := by rfl)
    (he : starEach [e1, e2] X.env = (false, eval e1 X.env) :: starEach [e2] X.env := by rfl) (he2 : starEach [e2] X.env = (false, eval e2 X.env) :: starEach [] X.env := by rfl) (hpl : (backTo pos2 (starEach [e2] X.env)).any (·.1) = false := by rfl)
    (ho : starEach [(Expr.Call (.Name "zip" p2) [e1, e2] [] pos2)] X.env = (false, eval (.Call (.Name "zip" p2) [e1, e2] [] pos2) X.env) :: starEach [] X.env := by rfl) (hpo : (backTo pos1 (starEach [] X.env)).any (·.1) = false := by rfl) :
    PE X (.Call (.Name "tuple" p1) [.Call (.Name "zip" p2) [e1, e2] [] pos2] [] pos1) (tTZ X.K ta tb) := by
  refine ⟨fun pins s σ H Q I h => ?_⟩
  refine wpAny_Call_Name_kw (ld_blt I gt nt PyProof.Rows.boot_tuple ?_)
  refine PyProof.Rows.callWith_type1 ?_ ho hpo
  rw [ho]
  show wpAny _ _ (spliced ((false, _) :: backTo pos1 (starEach [] X.env))) _ _ s
  refine Calls.spliced_cons ?_
  refine wpAny_Call_Name_kw (ld_blt I gz nz PyProof.Rows.boot_zip ?_)
  refine PyProof.Rows.callWith_type1 (thn ((pa_cons h1 (pa_cons h2 pa_nil he2) he).run pos2 pins s σ H (tzQ X.K Q) I h) fun us s1 hh => ?_) he hpl
  obtain ⟨vs, H1, I1, r1, q1⟩ := hh
  obtain ⟨a, b, rfl, hab, hl, q⟩ := tzQ_of q1
  obtain ⟨ta1, tb1, rfl⟩ : ∃ t u, us = [.str a t, .str b u] := by
    cases r1 with
    | cons x1 r =>
      cases r with
      | cons x2 r =>
        cases r
        obtain ⟨t, rfl⟩ := x1
        obtain ⟨u, rfl⟩ := x2
        exact ⟨t, u, rfl⟩
  obtain ⟨hp, g, d, tk0, os⟩ := s1
  refine zip_begins2 (begins_text a ta1) (begins_text b tb1) trivial trivial fun h' z1 z2 z3 z4 z5 z6 z7 => ?_
  have sep : ZipSep2 (hp.objs.size + 4) (hp.objs.size + 2) (hp.objs.size + 3) hp.objs.size (hp.objs.size + 1) [hp.objs.size] [hp.objs.size + 1] := zip_sep2 (fun _ m => (List.not_mem_nil m).elim) fun _ m => (List.not_mem_nil m).elim
  have Z : ZNew (hp.objs.size + 4) (hp.objs.size + 2) (hp.objs.size + 3) hp.objs.size (hp.objs.size + 1) a b ta1 tb1 hp h' := ⟨z1, z2, z3, ⟨_, z4, rfl, rfl⟩, ⟨_, z5, rfl, rfl⟩, z7, fun c m => (by
    simp only [List.mem_cons, List.not_mem_nil, or_false] at m
    rcases m with m | m | m | m | m <;> rw [m] <;> first | exact Nat.le_refl _ | exact Nat.le_add_right _ _), (by rw [z6]; exact Nat.le_add_right _ _)⟩
  show wpAny _ _ (spliced (backTo pos1 (starEach [] X.env))) _ _ _
  refine Calls.spliced_nil ?_
  have hh : X.A.handled = none := I1.ok.hd hc
  refine call_tuple_zip (s := ⟨h', g, d, tk0, os⟩) (n := a.cps.size) hh rfl hab.symm (lt_sz hl) sep Z fun h2 tk acc y1 y2 y3 y4 => ?_
  obtain ⟨no, pa⟩ := y2
  obtain ⟨H3, sm, dq, J⟩ := track_pairs (tk := tk) I1 hab hl y1 pa y3 y4
  exact ⟨.ref h2.objs.size, H3, J, rfl, q _ H3 sm dq⟩
end
end EL
namespace EL
open PySem PySem.Spec PyProof.Rows L2
/-! ### f(k = v, ..): keywords alone -/
section
variable {X : Cx} {k : Nat} {x : Str} {ps ks : List Str} {sp : Sp} {E : XK} {kws : List Keyword} {tk : TA} {p pos : Pos} {g : List Value → List Value → List Value} {gV : List V → List V → List V}
theorem pe_calK0 (C : Cal X.prog X.w X.K X.mg X.base k x ps sp) (hr : Room k X.A) (hg : Gl X x) (kb : KBinds X.K C.fd ps ks g gV) (hx : Passes CX0 X E) (hkw : PK X kws tk)
    (hall : (backToKw pos (keywordEach kws X.env)).all (·.1.isSome) = true := by rfl) (hks : (backToKw pos (keywordEach kws X.env)).filterMap (·.1) = ks := by rfl) (hdb : (x == ("__debug__" : Str)) = false := by decide)
    (hpl : ((backTo pos (starEach [] X.env)).any (·.1) || (backToKw pos (keywordEach kws X.env)).any (·.1.isNone)) = false := by rfl) :
    PE X (.Call (.Name x p) [] kws pos) (fun σ H Q => tk σ H fun zs H2 => sp (gV [] zs) H2 Q E) := by
  refine ⟨fun pins s σ H Q I h => wpAny_Call_Name_kw (ld_glob I hg C.g ?_ hdb)⟩
  refine PySem.W.callWith_KW0 (h₀ := X.base) I.ok.mod.kin C.kp hall (thn (hkw.run pos pins s σ H _ I h) fun ws s1 hh => ?_) hpl
  obtain ⟨zs, H1, I1, rz, q⟩ := hh
  refine ⟨I1.kIn, ?_⟩
  rw [hks]
  exact run_fnk C.ok hr kb hx I1 Paired.nil rz q
end
/-! ### comprehensions: what the list holds, by the turns -/
/-- behind i turns: the list at D holds what turns gave (none: left out) -/
def LcP (D : Addr) (P : Nat → Hp → Prop) (R : Nat → Option V → Prop) (i : Nat) (H : Hp) : Prop :=
  ∃ ys : List (Option V), ys.length = i ∧ (∀ (j : Nat) (v : Option V), ys[j]? = some v → R j v) ∧ H D = some (.lst (ys.filterMap id)) ∧ P i H
theorem LcP.start {D : Addr} {P : Nat → Hp → Prop} {R : Nat → Option V → Prop} {H : Hp} (p : P 0 (upd H D (.lst []))) : LcP D P R 0 (upd H D (.lst [])) := ⟨[], rfl, fun j v e => by simp at e, upd_same, p⟩
theorem rows_snoc {R : Nat → Option V → Prop} {ys : List (Option V)} {v : Option V} (h : ∀ (j : Nat) (v : Option V), ys[j]? = some v → R j v) (r : R ys.length v) : ∀ (j : Nat) (u : Option V), (ys ++ [v])[j]? = some u → R j u := fun j u e => by
  rw [List.getElem?_append] at e
  split at e
  · exact h j u e
  · rename_i q
    have : j - ys.length = 0 := by
      cases z : j - ys.length with
      | zero => rfl
      | succ m => rw [z] at e; simp at e
    rw [this] at e
    have ej : j = ys.length := by omega
    subst ej
    simp at e
    exact e ▸ r
theorem lcp_some {D : Addr} {P : Nat → Hp → Prop} {R : Nat → Option V → Prop} {i : Nat} {ys : List (Option V)} {H : Hp} {y : V} (hl : ys.length = i) (h : ∀ (j : Nat) (v : Option V), ys[j]? = some v → R j v) (hD : H D = some (.lst (ys.filterMap id))) (hi : i < 1000000) (r : R i (some y))
    (p : P (i + 1) (upd H D (.lst (ys.filterMap id ++ [y])))) : ∃ acc, H D = some (.lst acc) ∧ acc.length < sizeLine ∧ LcP D P R (i + 1) (upd H D (.lst (acc ++ [y]))) := by
  subst hl
  refine ⟨_, hD, lt_sz (Nat.le_trans (List.length_filterMap_le _ _) (Nat.le_of_lt hi)), ys ++ [some y], by simp, rows_snoc h r, ?_, p⟩
  rw [upd_same, List.filterMap_append]; rfl
theorem lcp_none {D : Addr} {P : Nat → Hp → Prop} {R : Nat → Option V → Prop} {i : Nat} {ys : List (Option V)} {H : Hp} (hl : ys.length = i) (h : ∀ (j : Nat) (v : Option V), ys[j]? = some v → R j v) (hD : H D = some (.lst (ys.filterMap id))) (r : R i none) (p : P (i + 1) H) : LcP D P R (i + 1) H := by
  subst hl
  refine ⟨ys ++ [none], by simp, rows_snoc h r, ?_, p⟩
  rw [hD, List.filterMap_append]; simp
/-- the list of what is given by a function -/
theorem rows_fn {f : Nat → Option V} {n : Nat} : ∀ {ys : List (Option V)}, ys.length = n → (∀ (j : Nat) (v : Option V), ys[j]? = some v → v = f j) → ys = (List.range n).map f := by
  intro ys hl h
  refine List.ext_getElem? fun j => ?_
  rw [List.getElem?_map]
  by_cases q : j < n
  · obtain ⟨v, e⟩ : ∃ v, ys[j]? = some v := ⟨_, List.getElem?_eq_getElem (by omega)⟩
    rw [List.getElem?_range q, e, h j v e]; rfl
  · rw [List.getElem?_eq_none (by omega), List.getElem?_eq_none (by rw [List.length_range]; omega)]; rfl
/-- .. of an array's items by a function of theirs -/
theorem rows_map {α : Type} {f : α → Option V} {l : List α} {ys : List (Option V)} (hl : ys.length = l.length) (h : ∀ (j : Nat) (v : Option V), ys[j]? = some v → ∃ a, l[j]? = some a ∧ v = f a) : ys = l.map f := by
  refine List.ext_getElem? fun j => ?_
  rw [List.getElem?_map]
  by_cases q : j < ys.length
  · obtain ⟨v, e⟩ : ∃ v, ys[j]? = some v := ⟨_, List.getElem?_eq_getElem q⟩
    obtain ⟨a, e1, e2⟩ := h j v e
    rw [e, e1, e2]; rfl
  · rw [List.getElem?_eq_none (by omega), List.getElem?_eq_none (by omega)]; rfl
/-! ### signs and texts -/
def isLow (c : Nat) : Bool := decide (c ∈ (Str.ofString "abcdefghijklmnopqrstuvwxyz").cps.toList)
def isTextD : PyData → Bool
  | .str x => x.cps.toList.all isLow
  | _ => false
/-- sizes of data that may be looked at -/
def Sz (d : PyData) : Prop := d.bulk ≤ 500000
theorem str_len (x : Str) : x.length = x.cps.toList.length := by rw [Array.length_toList]; rfl
theorem str_ext {x y : Str} (h : x.cps.toList = y.cps.toList) : x = y := by
  obtain ⟨a⟩ := x
  obtain ⟨b⟩ := y
  have : a = b := by
    apply Array.ext'
    exact h
  rw [this]
theorem str_inj {x y : Str} : x = y ↔ x.cps.toList = y.cps.toList := ⟨fun e => by rw [e], str_ext⟩
/-- a built-in's name is as it was -/
abbrev StrAt (mg : Str → Option Value) (x y : Str) : Prop := ∃ t, mg x = some (.str y t)
section
variable {X : Cx} {x : Str} {pos : Pos}
theorem pe_tyN {n : String} (hm : X.mg x = none) (hv : bootBuiltins x = some (.type n)) (hg : Gl X x := by rfl) (hn : x ≠ "__name__" := by decide) (hd : (x == ("__debug__" : Str)) = false := by decide) : PE X (.Name x pos) (tC (.ty n)) :=
  pe_bltn (v := .ty n) hg hm hv (show Value.type n = Value.type n from rfl) hn hd
theorem pe_gstr {y : Str} (hm : StrAt X.mg x y) (hg : Gl X x := by rfl) (hd : (x == ("__debug__" : Str)) = false := by decide) : PE X (.Name x pos) (tC (.str y)) := by
  obtain ⟨t, e⟩ := hm
  exact pe_glob (v := .str y) hg e ⟨t, rfl⟩ hd
end
end EL
/-! x[::-1] of texts and of tuples. -/
namespace EL
open PySem PySem.Spec PyProof.Rows L2
section
variable {prog : Program} {w : World} {A : Around} {E : Value → Shared → Prop} {s : Shared}
theorem adjust_rev (n : Nat) : Builtin.Slice.sliceAdjust none none (-1) (n : Int) = ((n : Int) - 1, -1) := by
  simp [Builtin.Slice.sliceAdjust]
theorem places_rev (n : Nat) : Builtin.Slice.slicePlaces ((n : Int) - 1) (-1) (-1) = n := by
  unfold Builtin.Slice.slicePlaces
  rw [if_neg (by decide)]
  by_cases h : n = 0
  · subst h; rfl
  · rw [if_pos (by omega)]
    have e : ((n : Int) - 1 - -1 - 1) / (- -1) + 1 = n := by
      have : (- -1 : Int) = 1 := by decide
      rw [this, Int.ediv_one]; omega
    rw [e, Int.toNat_natCast]
theorem pick_rev (xs : Array Value) : ((List.range xs.size).filterMap fun (k : Nat) => xs[(((xs.size : Nat) : Int) - 1 + (k : Int) * (-1)).toNat]?).toArray = xs.toList.reverse.toArray := by
  have e := PySem.W.krv_all xs
  congr 1
  have e2 : (List.range xs.size).filterMap (fun (k : Nat) => xs[(((xs.size : Nat) : Int) - 1 + (k : Int) * (-1)).toNat]?) = ((List.range xs.size).map fun k => xs.size - 1 - k).filterMap (xs[·]?) := by
    rw [List.filterMap_map]
    have cg : ∀ (l : List Nat) (f g : Nat → Option Value), (∀ k ∈ l, f k = g k) → l.filterMap f = l.filterMap g := by
      intro l f g
      induction l with
      | nil => exact fun _ => rfl
      | cons a r ih =>
        intro h
        rw [List.filterMap_cons, List.filterMap_cons, h a List.mem_cons_self, ih fun k hk => h k (List.mem_cons_of_mem _ hk)]
    refine cg _ _ _ fun k hk => ?_
    have hk' := List.mem_range.mp hk
    show xs[(((xs.size : Nat) : Int) - 1 + (k : Int) * (-1)).toNat]? = xs[xs.size - 1 - k]?
    congr 1
    omega
  rw [e2, PySem.W.krv_range, List.filterMap_reverse, e]
theorem applied_rev {sl : Addr} {u : Tok} {n : Nat} {Q : Int × Int × Nat → Shared → Prop} (hs : s.heap.IsSliceOf sl .none .none (.int (-1) u)) (h : Q ((n : Int) - 1, -1, n) s) : wpAny (model prog w) A (Builtin.Slice.sliceApplied (.ref sl) (pure (n : Int))) Q E s := by
  obtain ⟨o, ho, hc, hd⟩ := id hs
  unfold Builtin.Slice.sliceApplied Builtin.Slice.sliceFields
  refine wpAny_bind (wpAny_bind (wpAny_field ho hd (x := .none) rfl (wpAny_bind (wpAny_field ho hd (x := .none) rfl (wpAny_bind (wpAny_field ho hd (x := .int (-1) u) rfl (wpAny_pure ?_)))))))
  refine wpAny_bind (HT.slicePart_ (IsPart.int (-1) u) ?_)
  show wpAny _ _ (if ((-1 : Int) == 0) = true then _ else _) _ _ s
  rw [if_neg (by decide)]
  refine wpAny_bind (HT.slicePart_ IsPart.none (wpAny_bind (HT.slicePart_ IsPart.none (wpAny_bind (wpAny_pure ?_)))))
  show wpAny _ _ (match Builtin.Slice.sliceAdjust none none (-1) (n : Int) with | (lo, hi) => pure (lo, (-1 : Int), Builtin.Slice.slicePlaces lo hi (-1))) _ _ s
  rw [adjust_rev]
  show wpAny _ _ (pure ((n : Int) - 1, (-1 : Int), Builtin.Slice.slicePlaces ((n : Int) - 1) (-1) (-1))) _ _ s
  rw [places_rev]
  exact wpAny_pure h
theorem item_tuple_rev {t sl : Addr} {items : Array Value} {u : Tok} {Q : Value → Shared → Prop} (ht : IsTup s.heap t items) (hs : s.heap.IsSliceOf sl .none .none (.int (-1) u)) (hz : items.size ≤ sizeLine)
    (h : Q (.ref s.heap.objs.size) { s with heap := s.heap.push { cls := .type "tuple", data := .seq items.toList.reverse.toArray } }) : wpAny (model prog w) A (getItem (.ref t) (.ref sl)) Q E s := by
  obtain ⟨o, ho, hc, hd⟩ := id hs
  have ty : s.TypeIs (.ref sl) "slice" := ⟨o, ho, hc⟩
  unfold getItem
  try with_reducible refine wpAny_holding ?_
  first | refine wpAny_bind (wpAny_pure ?_) | skip
  refine wpAny_bind (wpAny_sequenceKey ht.typeIs (by decide) ?_)
  refine wpAny_bind (wpAny_callSpecial?_slot (name := Str.ofString "__getitem__") ht.typeIs PyProof.Rows.slot_tuple_getitem
    (wpAny_call_entry PyProof.Rows.slot_tuple_getitem ht.typeIs PyProof.Rows.entry_tuple_getitem ?_ (PyProof.Rows.args_tuple_getitem _ _)))
  show wpAny _ _ (Builtin.Tuple.tupleItemsOf (.ref t) >>= _) _ _ s
  refine wpAny_bind (tupleItemsOf_ ht ?_)
  refine wpAny_bind (wpAny_typeOf ty ?_)
  rw [if_pos (by decide)]
  refine wpAny_bind (applied_rev hs ?_)
  show wpAny _ _ (if ((((items.size : Nat) : Int) - 1 == 0) && ((-1 : Int) == 1) && (items.size == items.size)) = true then _ else _) _ _ s
  rw [if_neg (by simp)]
  rw [pick_rev]
  refine wpAny_bind ?_
  unfold Builtin.Tuple.tupleExact
  refine wpAny_newObj_type ?_ (by show items.toList.reverse.toArray.size ≤ sizeLine; simpa using hz)
  first
    | exact wpAny_pure ⟨_, rfl, wpAny_pure h⟩
    | exact wpAny_pure ⟨_, rfl, h⟩
    | exact wpAny_bind (wpAny_pure (wpAny_pure ⟨_, rfl, wpAny_pure h⟩))
end
section
variable {X : Cx} {e : Expr} {te : TE} {k : Nat} {p1 p2 p3 pos : Pos}
def tRevT (K : PySem.W.Frag) (te : TE) : TE := fun σ H Q => te σ H fun x H1 => ∃ a xs, x = .ref a ∧ SqT K H1 a xs ∧ ∀ p, H1 p = none → Q (.ref p) (upd H1 p (.tup xs.reverse))
theorem pe_revT (he : PE X e te) : PE X (.Subscript e (.Slice none none (some (.UnaryOp .USub (.Constant (.int 1) k p1) p2)) p3) pos) (tRevT X.K te) := by
  refine ⟨fun pins s σ H Q I h => ?_⟩
  refine Subscript_ (thn (he.run pins s σ H _ I h) fun v s1 hh => ?_)
  obtain ⟨x, H1, I1, r1, a, xs, rfl, hx, q⟩ := hh
  cases r1
  refine wpAny_Slice (wpAny_pure (wpAny_pure ?_))
  have neg : PE X (.UnaryOp .USub (.Constant (.int 1) k p1) p2) (tUn (rU fun i => .int (-i)) (tC (.int 1))) := pe_un un_neg pe_int
  refine thn (neg.run pins s1 σ H1 (fun v H2 => v = .int (-1) ∧ H2 = H1) I1 ⟨1, rfl, rfl, rfl⟩) fun vs s2 hh => ?_
  obtain ⟨v2, H2, I2, r2, rfl, rfl⟩ := hh
  obtain ⟨u, rfl⟩ := r2
  have I5 : Inv X pins σ H2 { s2 with heap := s2.heap.push { cls := .type "slice", data := .fields #[.none, .none, .int (-1) u] } } := I2.kept (t' := s2.toks) fun b ob q => Heap.get?_push_of_some _ q
  obtain ⟨its, r, ht, hz⟩ := I5.tuple hx
  have hlen := r.length
  show wpAny (model X.prog X.w) X.A (subscriptTail e (.Slice none none (some (.UnaryOp .USub (.Constant (.int 1) k p1) p2)) p3) (.ref a) (.ref s2.heap.objs.size)) (EP X pins σ Q) X.xe { s2 with heap := s2.heap.push { cls := .type "slice", data := .fields #[.none, .none, .int (-1) u] } }
  refine tail_any (ops := [.ref a, .ref s2.heap.objs.size]) ht.typeIs PyProof.Rows.slot_tuple_getitem.lookup ?_ (by with_unfolding_all rfl)
  refine item_tuple_rev ht (Heap.IsSliceOf.new _ _ _ _) (by rw [List.size_toArray]; omega) ?_
  refine ⟨.ref _, _, I5.laid (t' := s2.toks) (o := .tup xs.reverse) (fun b ob q => Heap.get?_push_of_some _ q) (Nat.le_refl _) ?_, rfl, q _ (I5.hok.fresh (Nat.le_refl _))⟩
  exact ⟨by rw [List.length_reverse]; exact hz, _, r.reverse, IsTup.new _ _⟩
/-- a text read from behind -/
def revS (x : Str) : Str := ⟨x.cps.toList.reverse.toArray⟩
def tRevS (te : TE) : TE := fun σ H Q => te σ H fun x H1 => ∃ z : Str, x = .str z ∧ z.length ≤ 1000000 ∧ Q (.str (revS z)) H1
theorem pick_revS (x : Str) : (⟨((Builtin.Str.strSliceIndices none none (-1) x.length).filterMap (x.cps[·]?)).toArray⟩ : Str) = revS x := by
  have e : Builtin.Str.strSliceIndices none none (-1) x.length = sliceRange ((x.length : Int) - 1) (-1) (-1) := by
    simp [Builtin.Str.strSliceIndices]
  unfold revS
  rw [e, PySem.W.krv_sliceRange, PySem.W.krv_range, List.filterMap_reverse]
  have e2 : (List.range x.length).filterMap (x.cps[·]?) = x.cps.toList := by
    have key : ∀ (xs : Array Nat), (List.range xs.size).filterMap (xs[·]?) = xs.toList := fun xs => PySem.W.krv_all xs
    exact key x.cps
  rw [e2]
theorem pe_revS (he : PE X e te) : PE X (.Subscript e (.Slice none none (some (.UnaryOp .USub (.Constant (.int 1) k p1) p2)) p3) pos) (tRevS te) := by
  refine ⟨fun pins s σ H Q I h => ?_⟩
  refine Subscript_ (thn (he.run pins s σ H _ I h) fun v s1 hh => ?_)
  obtain ⟨x, H1, I1, r1, z, rfl, hz, q⟩ := hh
  obtain ⟨t, rfl⟩ := r1
  refine wpAny_Slice (wpAny_pure (wpAny_pure ?_))
  have neg : PE X (.UnaryOp .USub (.Constant (.int 1) k p1) p2) (tUn (rU fun i => .int (-i)) (tC (.int 1))) := pe_un un_neg pe_int
  refine thn (neg.run pins s1 σ H1 (fun v H2 => v = .int (-1) ∧ H2 = H1) I1 ⟨1, rfl, rfl, rfl⟩) fun vs s2 hh => ?_
  obtain ⟨v2, H2, I2, r2, rfl, rfl⟩ := hh
  obtain ⟨u, rfl⟩ := r2
  have I5 : Inv X pins σ H2 { s2 with heap := s2.heap.push { cls := .type "slice", data := .fields #[.none, .none, .int (-1) u] } } := I2.kept (t' := s2.toks) fun b ob q => Heap.get?_push_of_some _ q
  show wpAny (model X.prog X.w) X.A (subscriptTail e (.Slice none none (some (.UnaryOp .USub (.Constant (.int 1) k p1) p2)) p3) (.str z t) (.ref s2.heap.objs.size)) (EP X pins σ Q) X.xe { s2 with heap := s2.heap.push { cls := .type "slice", data := .fields #[.none, .none, .int (-1) u] } }
  refine tail_any (ops := [.ref s2.heap.objs.size, .str z t]) (typeIs_str _ _ _) PySem.F.slot_str_getitem.lookup ?_ (by with_unfolding_all rfl)
  refine wpAny_getItem_str_slice (l := none) (u := none) (st := some (-1, u)) ⟨_, Heap.get?_push_size _ rfl, rfl, rfl⟩ rfl ?_
  have em : sliceMade z t none none (some (-1, u)) = Made.str (revS z) := by
    rw [← pick_revS]; rfl
  rw [em]
  exact ⟨by show z.cps.toList.reverse.toArray.size ≤ sizeLine; rw [List.size_toArray, List.length_reverse]; exact Nat.le_trans hz (by decide), .str (revS z), H2, I5.tok _, ⟨_, rfl⟩, q⟩
end
/-! ### a list == [], a list != [] -/
section
variable {X : Cx}
def rEqN (K : PySem.W.Frag) : R2 := fun x y H Q => ∃ a b xs, x = .ref a ∧ y = .ref b ∧ SqL K H a xs ∧ SqL K H b [] ∧ Q (.bl (decide (xs = []))) H
def rNeN (K : PySem.W.Frag) : R2 := fun x y H Q => ∃ a b xs, x = .ref a ∧ y = .ref b ∧ SqL K H a xs ∧ SqL K H b [] ∧ Q (.bl (!decide (xs = []))) H
theorem op_eqN (hu : X.A.units < cLine) : OpR X (compareOp .Eq) (rEqN X.K) := by
  intro pins s σ H x y v u Q I rx ry h
  obtain ⟨a, b, xs, rfl, rfl, ha, hb, q⟩ := h
  cases rx
  cases ry
  obtain ⟨its, r1, ⟨o, n, ho, hc, _, hd⟩, _⟩ := I.list ha
  obtain ⟨its2, r2, ⟨o2, n2, ho2, hc2, _, hd2⟩, _⟩ := I.list hb
  cases r2
  cases r1 with
  | nil => exact SeqAt.RcAt.lists (e := fun _ => true) ⟨o, ho, hc, n, hd⟩ ⟨o2, ho2, hc2, n2, hd2⟩ rfl hu (fun j h1 _ => absurd h1 (by simp)) _ _ _ _ ⟨.bl _, H, I, rfl, q⟩
  | cons r rr => exact SeqAt.RcAt.lists_lengths ⟨o, ho, hc, n, hd⟩ ⟨o2, ho2, hc2, n2, hd2⟩ (by simp) hu _ _ _ _ ⟨.bl _, H, I, rfl, q⟩
theorem op_neN (hu : X.A.units < cLine) : OpR X (compareOp .NotEq) (rNeN X.K) := by
  intro pins s σ H x y v u Q I rx ry h
  obtain ⟨a, b, xs, rfl, rfl, ha, hb, q⟩ := h
  cases rx
  cases ry
  obtain ⟨its, r1, ⟨o, n, ho, hc, _, hd⟩, _⟩ := I.list ha
  obtain ⟨its2, r2, ⟨o2, n2, ho2, hc2, _, hd2⟩, _⟩ := I.list hb
  cases r2
  cases r1 with
  | nil => exact SeqAt.RcNeAt.lists (e := fun _ => true) ⟨o, ho, hc, n, hd⟩ ⟨o2, ho2, hc2, n2, hd2⟩ rfl hu (fun j h1 _ => absurd h1 (by simp)) _ _ _ _ ⟨.bl _, H, I, rfl, q⟩
  | cons r rr => exact SeqAt.RcNeAt.lists_lengths ⟨o, ho, hc, n, hd⟩ ⟨o2, ho2, hc2, n2, hd2⟩ (by simp) hu _ _ _ _ ⟨.bl _, H, I, rfl, q⟩
end
end EL
/-! Calls by keywords alone: one parameter, two parameters the other way round. -/
namespace EL
open PySem PySem.Spec PyProof.Rows L2
def kw1 {α : Type} : List α → List α → List α
  | [], [z] => [z]
  | _, _ => []
def kw2r {α : Type} : List α → List α → List α
  | [], [z, y] => [y, z]
  | _, _ => []
theorem kw1_rel {vs : List V} {us : List Value} {zs : List V} {ws : List Value} (h1 : Vals vs us) (h2 : Vals zs ws) : Vals (kw1 vs zs) (kw1 us ws) := by
  cases h1 with
  | cons _ _ => exact .nil
  | nil =>
    cases h2 with
    | nil => exact .nil
    | cons r rr =>
      cases rr with
      | nil => exact .cons r .nil
      | cons _ _ => exact .nil
theorem kw2r_rel {vs : List V} {us : List Value} {zs : List V} {ws : List Value} (h1 : Vals vs us) (h2 : Vals zs ws) : Vals (kw2r vs zs) (kw2r us ws) := by
  cases h1 with
  | cons _ _ => exact .nil
  | nil =>
    cases h2 with
    | nil => exact .nil
    | cons r rr =>
      cases rr with
      | nil => exact .nil
      | cons r2 rr2 =>
        cases rr2 with
        | nil => exact .cons r2 (.cons r .nil)
        | cons _ _ => exact .nil
theorem Fun.kw1 {K : PySem.W.Frag} {x qual : Str} {st : Stmt} {f : Addr} {fd : FuncData} {p : Str} (F : Fun K x qual st f fd)
    (h : ∀ (kV doc pm : Value) (an : Option Addr) (cdv ct : Value) (u : Value), bindArgs (PySem.W.fnOf x qual (defArgs st) (defBody st) (defScope st) .none kV doc pm an cdv ct) ⟨[], [(p, u)]⟩ = pure [(p, u)]) : KBinds K fd [p] [p] EL.kw1 EL.kw1 := by
  obtain ⟨oc, od, kV, doc, pm, an, cdv, ct, osl, rfl, lk, hcd⟩ := F.ex
  refine ⟨fun s us ws _ hl => ?_, kw1_rel⟩
  match us, ws, hl with
  | [], [u], _ => exact .of_eq (h kV doc pm an cdv ct u)
  | [], [], hl => exact absurd hl (by simp [EL.kw1])
  | [], _ :: _ :: _, hl => exact absurd hl (by simp [EL.kw1])
  | _ :: _, _, hl => exact absurd hl (by simp [EL.kw1])
theorem Fun.kw2r {K : PySem.W.Frag} {x qual : Str} {st : Stmt} {f : Addr} {fd : FuncData} {p q : Str} (F : Fun K x qual st f fd)
    (h : ∀ (kV doc pm : Value) (an : Option Addr) (cdv ct : Value) (u v : Value), bindArgs (PySem.W.fnOf x qual (defArgs st) (defBody st) (defScope st) .none kV doc pm an cdv ct) ⟨[], [(q, u), (p, v)]⟩ = pure [(p, v), (q, u)]) : KBinds K fd [p, q] [q, p] EL.kw2r EL.kw2r := by
  obtain ⟨oc, od, kV, doc, pm, an, cdv, ct, osl, rfl, lk, hcd⟩ := F.ex
  refine ⟨fun s us ws _ hl => ?_, kw2r_rel⟩
  match us, ws, hl with
  | [], [u, v], _ => exact .of_eq (h kV doc pm an cdv ct u v)
  | [], [], hl => exact absurd hl (by simp [EL.kw2r])
  | [], [_], hl => exact absurd hl (by simp [EL.kw2r])
  | [], _ :: _ :: _ :: _, hl => exact absurd hl (by simp [EL.kw2r])
  | _ :: _, _, hl => exact absurd hl (by simp [EL.kw2r])
end EL
namespace KP
open PySem PySem.Spec PyProof.Rows L2 EL
open Evl (pss_cut)
def topS (i : Nat) : Stmt := PySem.Challenge.pw_evenlead_k06_either_and_behind.main.body.getD i (.Pass ⟨0, 0, 0, 0⟩)
abbrev sIsText : Stmt := topS 7
theorem scIsText : FnScope ["thing", "letter"] ["thing"] (defScope sIsText) := ⟨rfl, rfl, rfl, by decide +kernel, rfl, by decide +kernel, by decide +kernel⟩
abbrev sIsInteger : Stmt := topS 12
theorem scIsInteger : FnScope ["thing"] ["thing"] (defScope sIsInteger) := ⟨rfl, rfl, rfl, by decide +kernel, rfl, by decide +kernel, by decide +kernel⟩
abbrev sIsSize : Stmt := topS 13
theorem scIsSize : FnScope ["thing"] ["thing"] (defScope sIsSize) := ⟨rfl, rfl, rfl, by decide +kernel, rfl, by decide +kernel, by decide +kernel⟩
abbrev sIsState : Stmt := topS 14
theorem scIsState : FnScope ["thing", "size"] ["thing", "size"] (defScope sIsState) := ⟨rfl, rfl, rfl, by decide +kernel, rfl, by decide +kernel, by decide +kernel⟩
abbrev sIsTupleOfStates : Stmt := topS 15
theorem scIsTupleOfStates : FnScope ["thing", "size", "low", "high", "part"] ["thing", "size"] (defScope sIsTupleOfStates) := ⟨rfl, rfl, rfl, by decide +kernel, rfl, by decide +kernel, by decide +kernel⟩
abbrev sIsMove : Stmt := topS 27
theorem scIsMove : FnScope ["thing", "size", "state", "left", "right", "further"] ["thing", "size"] (defScope sIsMove) := ⟨rfl, rfl, rfl, by decide +kernel, rfl, by decide +kernel, by decide +kernel⟩
abbrev sIsTupleOfMoves : Stmt := topS 28
theorem scIsTupleOfMoves : FnScope ["thing", "size", "part"] ["thing", "size"] (defScope sIsTupleOfMoves) := ⟨rfl, rfl, rfl, by decide +kernel, rfl, by decide +kernel, by decide +kernel⟩
abbrev rLenK (K : PySem.W.Frag) : List V → Hp → VK → Prop := fun xs H Q => ∃ x n, xs = [x] ∧ LenV K x H n ∧ Q (V.int (n : Nat)) H
/-- a look at data: True or False by a function of it -/
def spLook (K : PySem.W.Frag) (f : PyData → Bool) : Sp := fun vs H Q _ => ∃ (v : V) (d : PyData), vs = [v] ∧ Dq K H v d ∧ Sz d ∧ ∀ H', Same H H' → Q (.bl (f d)) H'
/-- .. with a number beside -/
def spLookN (K : PySem.W.Frag) (f : Int → PyData → Bool) : Sp := fun vs H Q _ => ∃ (v : V) (d : PyData) (n : Int), vs = [v, .int n] ∧ Dq K H v d ∧ Sz d ∧ ∀ H', Same H H' → Q (.bl (f n d)) H'
def isIntD : PyData → Bool
  | .int _ => true
  | _ => false
def sizeD : PyData → Bool
  | .int i => decide (i ≥ 1)
  | _ => false
def stateD (n : Int) : PyData → Bool
  | .int i => decide (0 ≤ i) && decide (i < n)
  | _ => false
def intOf : PyData → Int
  | .int i => i
  | _ => 0
/-- ascending -/
def ascI : List Int → Bool
  | [] => true
  | [_] => true
  | a :: b :: r => decide (a < b) && ascI (b :: r)
def statesD (n : Int) : PyData → Bool
  | .tuple ds => ds.all (stateD n) && ascI (ds.map intOf)
  | _ => false
def moveD (n : Int) : PyData → Bool
  | .tuple ds => match ds with
    | [a, b, c, d] => stateD n a && (isTextD b && (isTextD c && stateD n d))
    | _ => false
  | _ => false
def movesD (n : Int) : PyData → Bool
  | .tuple ds => ds.all (moveD n)
  | _ => false
theorem kitL_int : ∀ n ∈ tyNs, kitB n "int" = some (decide (n = "int" ∨ n = "bool")) := by decide +kernel
theorem kit_int (d : PyData) : kitB (tyN d) "int" = some (decide (tyN d = "int" ∨ tyN d = "bool")) := kitL_int _ (tyN_mem d)
theorem kitL_bool : ∀ n ∈ tyNs, kitB n "bool" = some (decide (n = "bool")) := by decide +kernel
theorem kit_bool (d : PyData) : kitB (tyN d) "bool" = some (decide (tyN d = "bool")) := kitL_bool _ (tyN_mem d)
theorem sz_mem {ds : List PyData} (h : PyData.bulkAll ds ≤ 500000) : ∀ d ∈ ds, Sz d := by
  induction ds with
  | nil => exact fun _ m => (List.not_mem_nil m).elim
  | cons x r ih =>
    simp only [PyData.bulkAll] at h
    intro d m
    rcases List.mem_cons.mp m with rfl | m
    · unfold Sz; omega
    · exact ih (by omega) d m
theorem bulk_len : ∀ ds : List PyData, ds.length ≤ PyData.bulkAll ds
  | [] => Nat.le_refl _
  | x :: r => by
    simp only [PyData.bulkAll, List.length_cons]
    have := bulk_len r
    omega
section
variable {P : Program} {w : World} {K : PySem.W.Frag} {mg : Str → Option Value} {base : Heap}
theorem ok_IsText {f : Addr} {fd : FuncData} {k : Nat} (F : Fun K "is_text" "is_text" sIsText f fd) (nall : mg "all" = none) (nisinstance : mg "isinstance" = none) (nstr : mg "str" = none) (m_LETTERS : StrAt mg "LETTERS" "abcdefghijklmnopqrstuvwxyz") : FnOk P w K mg base CX0 (k + 1) f fd ["thing"] (spLook K isTextD) := by
  refine F.ok scIsText (fun vs H Q E h => ?_) (fun cdv A outer s H vs Q E hr h => ?_)
  · obtain ⟨v, d, rfl, _⟩ := h; rfl
  · obtain ⟨v, d, rfl, hd, hz, q⟩ := h
    have hu := hr.units
    refine ⟨_, (pss_one (ps_ret (pe_and (pe_callB call_isi (by rfl) nisinstance boot_isinstance (pa_cons (pv 0) (pa_cons (pe_tyN nstr boot_str) pa_nil))) (pe_one (pe_callB (cr_all rfl) (by rfl) nall (by decide +kernel) (pa_cons (pe_lc (own := [("letter", 1)]) (g := gName 1) (by rfl) scIsText.nd (pi_str (pv 0)) (blkOk_by (own := [("letter", 1)]) (N := ["thing", "letter"]) (sc := defScope sIsText) (by decide +kernel)) (fun _ _ _ _ _ => (pg_name (i := 1) scIsText.nd rfl (by first | exact Or.inl rfl | exact Or.inr rfl))) (fun _ _ _ _ _ => pts_nil) (fun _ _ _ _ _ => (pe_cmpR op_in_sign (pv 1) (pe_gstr m_LETTERS) (by rfl)))) pa_nil)))))), ?_⟩
    refine ⟨v, rfl, v, .ty "str", _, _, _, rfl, .ty "str", tyx_of hd, kit_ty (kit_str d), _, rfl, ?_⟩
    cases d with
    | str x =>
      cases hd
      refine iteT ⟨.str x, rfl, x, rfl, fun D nD => ?_⟩
      have hlen : x.cps.size ≤ 500000 := hz
      refine lc_it walk_str (LcP D (fun _ H' => ∀ b o, b ≠ D → H b = some o → H' b = some o) (fun j v => ∃ c, x.cps.toList[j]? = some c ∧ v = some (.bl (isLow c)))) (LcP.start fun b o hb e => by rw [upd_ne hb]; exact e) (fun _ _ _ _ => trivial) ?_ ?_
      · rintro i y H1 H2 hi ⟨ys, hl, hR, hD, hP⟩ ⟨rfl, c, hc, rfl⟩
        refine ⟨rfl, ?_⟩
        dsimp only [tYes]
        refine iteT ?_
        refine ⟨_, rfl, c, _, rfl, rfl, ?_⟩
        exact lcp_some hl hR hD (by omega) ⟨c, by rw [Array.getElem?_toList]; exact hc, rfl⟩ fun b o hb e => by rw [upd_ne hb]; exact hP b o hb e
      · rintro H2 ⟨ys, hl, hR, hD, hP⟩
        have e := rows_map (f := fun c => some (V.bl (isLow c))) (l := x.cps.toList) (by rw [hl, Array.length_toList]) hR
        refine ⟨D, x.cps.toList.map isLow, rfl, sqOf (by rw [hD, e]; simp [List.filterMap_map, Function.comp_def]), ?_⟩
        have e2 : (x.cps.toList.map isLow).all id = isTextD (.str x) := by simp [isTextD, List.all_map, Function.comp_def]
        rw [e2]
        exact q H2 fun b o e => hP b o (ne_of_none e nD) e
    | _ => exact iteF (q H (Same.refl H))
theorem ok_IsInteger {f : Addr} {fd : FuncData} {k : Nat} (F : Fun K "is_integer" "is_integer" sIsInteger f fd) (nisinstance : mg "isinstance" = none) (nint : mg "int" = none) (nbool : mg "bool" = none)   : FnOk P w K mg base CX0 (k + 1) f fd ["thing"] (spLook K isIntD) := by
  refine F.ok scIsInteger (fun vs H Q E h => ?_) (fun cdv A outer s H vs Q E hr h => ?_)
  · obtain ⟨v, d, rfl, _⟩ := h; rfl
  · obtain ⟨v, d, rfl, hd, hz, q⟩ := h
    have hu := hr.units
    refine ⟨_, (pss_one (ps_ret (pe_and (pe_callB call_isi (by rfl) nisinstance boot_isinstance (pa_cons (pv 0) (pa_cons (pe_tyN nint boot_int) pa_nil))) (pe_one (pe_not (pe_callB call_isi (by rfl) nisinstance boot_isinstance (pa_cons (pv 0) (pa_cons (pe_tyN (n := "bool") nbool (by decide +kernel)) pa_nil)))))))), ?_⟩
    refine ⟨v, rfl, v, .ty "int", _, _, _, rfl, .ty "int", tyx_of hd, kit_ty (kit_int d), _, rfl, ?_⟩
    have qq := q H (Same.refl H)
    cases d with
    | int i => exact iteT ⟨v, rfl, v, .ty "bool", _, _, _, rfl, .ty "bool", tyx_of hd, kit_ty (kit_bool (.int i)), _, rfl, qq⟩
    | bool b => exact iteT ⟨v, rfl, v, .ty "bool", _, _, _, rfl, .ty "bool", tyx_of hd, kit_ty (kit_bool (.bool b)), _, rfl, qq⟩
    | _ => exact iteF qq
theorem ok_IsSize {f : Addr} {fd : FuncData} {k : Nat} (F : Fun K "is_size" "is_size" sIsSize f fd)   (CIsInteger : Cal P w K mg base k "is_integer" ["thing"] (spLook K isIntD)) : FnOk P w K mg base CX0 (k + 1) f fd ["thing"] (spLook K sizeD) := by
  refine F.ok scIsSize (fun vs H Q E h => ?_) (fun cdv A outer s H vs Q E hr h => ?_)
  · obtain ⟨v, d, rfl, _⟩ := h; rfl
  · obtain ⟨v, d, rfl, hd, hz, q⟩ := h
    have hu := hr.units
    refine ⟨_, (pss_one (ps_ret (pe_and (pe_cal CIsInteger hr (by rfl) pass0 (pa_cons (pv 0) pa_nil)) (pe_one (pe_cmpR op_ge (pv 0) pe_int (nomark _)))))), ?_⟩
    refine ⟨v, rfl, v, d, rfl, hd, hz, fun H1 s1 => ⟨_, rfl, ?_⟩⟩
    have qq := q H1 s1
    cases d with
    | int i =>
      cases hd
      exact iteT ⟨_, rfl, _, _, rfl, rfl, qq⟩
    | _ => exact iteF qq
theorem ok_IsState {f : Addr} {fd : FuncData} {k : Nat} (F : Fun K "is_state" "is_state" sIsState f fd)   (CIsInteger : Cal P w K mg base k "is_integer" ["thing"] (spLook K isIntD)) : FnOk P w K mg base CX0 (k + 1) f fd ["thing", "size"] (spLookN K stateD) := by
  refine F.ok scIsState (fun vs H Q E h => ?_) (fun cdv A outer s H vs Q E hr h => ?_)
  · obtain ⟨v, d, n, rfl, _⟩ := h; rfl
  · obtain ⟨v, d, n, rfl, hd, hz, q⟩ := h
    have hu := hr.units
    refine ⟨_, (pss_one (ps_ret (pe_and (pe_cal CIsInteger hr (by rfl) pass0 (pa_cons (pv 0) pa_nil)) (pe_one (pe_chain op_le op_lt pe_int (pv 0) (pv 1)))))), ?_⟩
    refine ⟨v, rfl, v, d, rfl, hd, hz, fun H1 s1 => ⟨_, rfl, ?_⟩⟩
    have qq := q H1 s1
    cases d with
    | int i =>
      cases hd
      refine iteT ⟨_, rfl, _, _, rfl, rfl, _, rfl, ?_⟩
      by_cases h0 : 0 ≤ i
      · simp only [stateD, decide_eq_true h0, Bool.true_and] at qq
        rw [decide_eq_true h0]
        exact iteT ⟨_, rfl, _, _, rfl, rfl, qq⟩
      · simp only [stateD, decide_eq_false h0, Bool.false_and] at qq
        rw [decide_eq_false h0]
        exact iteF qq
    | _ => exact iteF qq
end
end KP
/-! Slices and sums of tuples, told by what they hold; zip of two tuples as a walk. -/
namespace EL
open PySem PySem.Spec PyProof.Rows L2
theorem sl_of {K : PySem.W.Frag} {a : Addr} {H : Hp} {xs : List V} {lo hi : Option Int} {Q : VK} (h : SqT K H a xs) (k : ∀ b H', Same H H' → SqT K H' b (cutV xs lo hi) → Q (.ref b) H') : rSlA K (.ref a) lo hi H Q := by
  refine ⟨a, xs, rfl, h, fun hw => k a H (Same.refl H) ?_, fun _ p np => k p _ (same_upd np) (stOf upd_same)⟩
  have : cutV xs lo hi = xs := by
    unfold cutV
    rw [hw.1, hw.2, List.drop_zero, Nat.sub_zero, List.take_of_length_le (Nat.le_refl _)]
  rw [this]; exact h
theorem cat_of {K : PySem.W.Frag} {a b : Addr} {H : Hp} {xs ys : List V} {Q : VK} (h1 : SqT K H a xs) (h2 : SqT K H b ys) (hz : xs.length + ys.length ≤ 1000000) (k : ∀ c H', Same H H' → SqT K H' c (xs ++ ys) → Q (.ref c) H') : rCatA K (.ref a) (.ref b) H Q := by
  refine ⟨a, b, xs, ys, rfl, rfl, h1, h2, len_sz hz, fun e => k b H (Same.refl H) (by rw [e]; exact h2), fun _ e => k a H (Same.refl H) (by rw [e, List.append_nil]; exact h1), fun _ _ p np => k p _ (same_upd np) (stOf upd_same)⟩
theorem cut_tk (xs : List V) (n : Nat) : cutV xs none (some (n : Int)) = xs.take n := by
  unfold cutV
  rw [HT.sIx_nat, HT.sIx_none, List.drop_zero, Nat.sub_zero, List.take_eq_take_iff]
  omega
theorem cut_dp (xs : List V) (n : Nat) : cutV xs (some (n : Int)) none = xs.drop n := by
  unfold cutV
  rw [HT.sIx_nat, HT.sIx_none]
  by_cases h : n ≤ xs.length
  · rw [Nat.min_eq_left h, List.take_of_length_le (by rw [List.length_drop]; omega)]
  · rw [Nat.min_eq_right (by omega), List.drop_of_length_le (Nat.le_refl _), List.drop_of_length_le (by omega), List.take_nil]
theorem walk_zipT {K : PySem.W.Frag} {a b : Addr} {xs ys : List V} {n : Nat} (hn : n = min xs.length ys.length) : Walk (RZ.ItzT K a b) n (fun H => SqT K H a xs ∧ SqT K H b ys) (YPair (fun i => xs[i]?) (fun i => ys[i]?)) := by
  subst hn
  refine ⟨fun i _ hi q => ?_, fun _ q => ⟨xs, ys, q.1, q.2, by omega⟩, fun i H v H' _ q y => ?_⟩
  · have h1 : i < xs.length := by omega
    have h2 : i < ys.length := by omega
    exact ⟨xs, ys, xs[i], ys[i], q.1, q.2, by simp [h1], by simp [h2]⟩
  · obtain ⟨T, x, z, h1, h2, h3, h4, h5⟩ := y
    exact ⟨T, x, z, h1, h2, h3, h4 xs q.1, h5 ys q.2⟩
theorem dqAll_ints {K : PySem.W.Frag} {H : Hp} : ∀ {ns : List Int} {xs : List V}, DqAll K H xs (ns.map PyData.int) → xs = ns.map V.int
  | [], _, h => by cases h; rfl
  | n :: r, _, h => by
    cases h with
    | cons h1 h2 => cases h1; rw [dqAll_ints h2]; rfl
theorem ints_dqAll {K : PySem.W.Frag} {H : Hp} : ∀ ns : List Int, DqAll K H (ns.map V.int) (ns.map PyData.int)
  | [] => .nil
  | n :: r => .cons (.int n) (ints_dqAll r)
end EL
namespace KP
open PySem PySem.Spec PyProof.Rows L2 EL
open Evl (pss_cut)
theorem ascI_zip : ∀ l : List Int, ascI l = ((l.zip (l.drop 1)).map fun p => decide (p.1 < p.2)).all id
  | [] => rfl
  | [_] => rfl
  | a :: b :: r => by
    have ih := ascI_zip (b :: r)
    simp only [ascI, List.drop_succ_cons, List.drop_zero, List.zip_cons_cons, List.map_cons, List.all_cons, id_eq] at ih ⊢
    rw [ih]
theorem all_ints {n : Int} : ∀ {ds : List PyData}, ds.all (stateD n) = true → ds = (ds.map intOf).map PyData.int
  | [], _ => rfl
  | d :: r, h => by
    obtain ⟨h1, h2⟩ : stateD n d = true ∧ r.all (stateD n) = true := by simpa using h
    have := all_ints h2
    cases d with
    | int i => simp only [List.map_cons, intOf]; rw [← this]
    | _ => cases h1
section
variable {P : Program} {w : World} {K : PySem.W.Frag} {mg : Str → Option Value} {base : Heap}
theorem ok_IsTupleOfStates {f : Addr} {fd : FuncData} {k : Nat} (F : Fun K "is_tuple_of_states" "is_tuple_of_states" sIsTupleOfStates f fd) (nisinstance : mg "isinstance" = none) (ntuple : mg "tuple" = none) (nall : mg "all" = none) (nzip : mg "zip" = none)  (CIsState : Cal P w K mg base k "is_state" ["thing", "size"] (spLookN K stateD)) : FnOk P w K mg base CX0 (k + 1) f fd ["thing", "size"] (spLookN K statesD) := by
  refine F.ok scIsTupleOfStates (fun vs H Q E h => ?_) (fun cdv A outer s H vs Q E hr h => ?_)
  · obtain ⟨v, d, n, rfl, _⟩ := h; rfl
  · obtain ⟨v, d, n, rfl, hd, hz, q⟩ := h
    have hu := hr.units
    refine ⟨_, (pss_cons (ps_if (PW.pt (pw_or (pt_not (pt_val (pe_callB call_isi (by rfl) nisinstance boot_isinstance (pa_cons (pv 0) (pa_cons (pe_tyN ntuple boot_tuple) pa_nil))))) (pw_or1 (pt_not (pt_val (pe_callB (cr_all rfl) (by rfl) nall (by decide +kernel) (pa_cons (pe_lc (own := [("part", 4)]) (g := (gName 4)) (by rfl) scIsTupleOfStates.nd (pi_tup (pv 0)) (blkOk_by (own := [("part", 4)]) (N := ["thing", "size", "low", "high", "part"]) (sc := defScope sIsTupleOfStates) (by decide +kernel)) (fun _ _ _ _ _ => (pg_name (i := 4) scIsTupleOfStates.nd rfl (by first | exact Or.inl rfl | exact Or.inr rfl))) (fun _ _ _ _ _ => pts_nil) (fun _ _ _ _ _ => (pe_cal CIsState hr (by rfl) pass0 (pa_cons (pv 4) (pa_cons (pv 1) pa_nil))))) pa_nil))))))) (pss_one (ps_ret pe_bl)) pss_nil)
      (pss_one (ps_ret (pe_callB (cr_all rfl) (by rfl) nall (by decide +kernel) (pa_cons (pe_lc (own := [("low", 2), ("high", 3)]) (g := (gTup K 2 (gCons (gName 2) (gCons (gName 3) gNil)))) (by rfl) scIsTupleOfStates.nd (RZ.pi_zipA (by rfl) nzip (pa_cons (pv 0) (pa_cons (pe_slice sl_tupA (pv 0) (po_some pe_int) po_none) pa_nil))) (blkOk_by (own := [("low", 2), ("high", 3)]) (N := ["thing", "size", "low", "high", "part"]) (sc := defScope sIsTupleOfStates) (by decide +kernel)) (fun _ _ _ _ _ => (pg_tup (by rfl) (pgs_cons (pg_name (i := 2) scIsTupleOfStates.nd rfl (by first | exact Or.inl rfl | exact Or.inr rfl)) (pgs_cons (pg_name (i := 3) scIsTupleOfStates.nd rfl (by first | exact Or.inl rfl | exact Or.inr rfl)) pgs_nil)))) (fun _ _ _ _ _ => pts_nil) (fun _ _ _ _ _ => (pe_cmpR op_lt (pv 2) (pv 3) (nomark _)))) pa_nil))))), ?_⟩
    refine ⟨v, rfl, v, .ty "tuple", _, _, _, rfl, .ty "tuple", tyx_of hd, kit_ty (kit_tuple d), _, rfl, ?_⟩
    cases d with
    | tuple ds =>
      cases hd with
      | tup hs ha =>
      rename_i a xs
      have hzz : PyData.bulkAll ds ≤ 500000 := hz
      have hlen : xs.length ≤ 500000 := by rw [ha.len]; exact Nat.le_trans (bulk_len ds) hzz
      refine iteF ?_
      refine ⟨.ref a, rfl, a, rfl, ⟨xs, hs⟩, fun D nD => ?_⟩
      refine lc_it walk_tup (LcP D (fun _ H' => Same H H') (fun j v => ∃ e, ds[j]? = some e ∧ v = some (.bl (stateD n e)))) (LcP.start (same_upd nD)) (fun i H' _ p => by obtain ⟨_, _, _, _, sm⟩ := p; exact ex_t' sm hs) ?_ ?_
      · rintro i y H1 H2 hi ⟨ys, hl, hR, hD, sm⟩ ⟨rfl, hy⟩
        obtain ⟨e, ee, he⟩ := ha.at hy
        refine ⟨rfl, ?_⟩
        dsimp only [tYes]
        refine iteT ?_
        refine ⟨y, rfl, _, rfl, y, e, n, rfl, he.up sm, sz_mem hzz e (List.mem_of_getElem? ee), fun H3 sm3 => ?_⟩
        exact lcp_some hl hR (sm3 _ _ hD) (by omega) ⟨e, ee, rfl⟩ fun b o q => by rw [upd_ne (ne_of_none q nD)]; exact sm3 _ _ (sm b o q)
      rintro H1 ⟨ys, hl, hR, hD, sm⟩
      have e1 := rows_map (f := fun e => some (V.bl (stateD n e))) (l := ds) (by rw [hl, ha.len]) hR
      refine ⟨D, ds.map (stateD n), rfl, sqOf (by rw [hD, e1]; simp [List.filterMap_map, Function.comp_def]), _, rfl, ?_⟩
      have e2 : (ds.map (stateD n)).all id = ds.all (stateD n) := by simp [List.all_map, Function.comp_def]
      rw [e2]
      cases hall : ds.all (stateD n) with
      | false =>
        refine iteT ?_
        have := q H1 sm
        simp only [statesD, hall, Bool.false_and] at this
        exact this
      | true =>
        refine iteF ?_
        have hds := all_ints hall
        simp only [statesD, hall, Bool.true_and] at q
        generalize ds.map intOf = ns at hds q
        subst hds
        obtain rfl := dqAll_ints ha
        have hnl : ns.length ≤ 500000 := by simpa using hlen
        refine ⟨.ref a, rfl, .ref a, rfl, 1, rfl, ?_⟩
        dsimp only [tNoPart]
        refine sl_of (ex_t' sm hs) fun b H2 s2 h2 => ?_
        rw [show cutV (ns.map V.int) (some 1) none = (ns.drop 1).map V.int by rw [show (1 : Int) = ((1 : Nat) : Int) from rfl, cut_dp, List.map_drop]] at h2
        have h3 := ex_t' s2 (ex_t' sm hs)
        refine ⟨a, b, _, _, rfl, .inr ⟨h3, h2, fun D2 nD2 => ?_⟩⟩
        have hn : (ns.zip (ns.drop 1)).length = min (ns.map V.int).length ((ns.drop 1).map V.int).length := by simp
        refine lc_it (walk_zipT hn) (LcP D2 (fun _ H' => Same H2 H') (fun j v => ∃ p, (ns.zip (ns.drop 1))[j]? = some p ∧ v = some (.bl (decide (p.1 < p.2))))) (LcP.start (same_upd nD2)) (fun i H' _ p => by obtain ⟨_, _, _, _, sm⟩ := p; exact ⟨ex_t' sm h3, ex_t' sm h2⟩) ?_ ?_
        · rintro i y H3 H4 hi ⟨ys, hl, hR, hD2, sm2⟩ ⟨T, x, z, rfl, nT, rfl, hx, hy⟩
          obtain ⟨x', ex, rfl⟩ := get_map_int hx
          obtain ⟨z', ez, rfl⟩ := get_map_int hy
          have eT : SqT K (upd H3 T (.tup [.int x', .int z'])) T [.int x', .int z'] := stOf upd_same
          have lz : (ns.zip (ns.drop 1)).length ≤ 500000 := by rw [List.length_zip]; omega
          refine ⟨T, _, rfl, eT, rfl, _, _, rfl, _, _, rfl, rfl, rfl, ?_⟩
          dsimp only [tYes]
          refine iteT ⟨_, rfl, _, rfl, _, _, rfl, rfl, ?_⟩
          refine lcp_some hl hR (by rw [upd_ne (ne_of_none hD2 nT)]; exact hD2) (by omega) ⟨(x', z'), List.getElem?_zip_eq_some.mpr ⟨ex, ez⟩, rfl⟩ fun b o q => ?_
          rw [upd_ne (ne_of_none q nD2), upd_ne (ne_of_none (sm2 b o q) nT)]; exact sm2 b o q
        · rintro H3 ⟨ys, hl, hR, hD2, sm2⟩
          have e4 := rows_map (f := fun p : Int × Int => some (V.bl (decide (p.1 < p.2)))) (l := ns.zip (ns.drop 1)) hl hR
          refine ⟨D2, (ns.zip (ns.drop 1)).map (fun p => decide (p.1 < p.2)), rfl, sqOf (by rw [hD2, e4]; simp [List.filterMap_map, Function.comp_def]), ?_⟩
          rw [← ascI_zip]
          exact q H3 (sm.trans (s2.trans sm2))
    | _ => exact iteT (q H (Same.refl H))
theorem ok_IsMove {f : Addr} {fd : FuncData} {k : Nat} (F : Fun K "is_move" "is_move" sIsMove f fd) (nisinstance : mg "isinstance" = none) (ntuple : mg "tuple" = none) (nlen : mg "len" = none)  (CIsState : Cal P w K mg base k "is_state" ["thing", "size"] (spLookN K stateD)) (CIsText : Cal P w K mg base k "is_text" ["thing"] (spLook K isTextD)) : FnOk P w K mg base CX0 (k + 1) f fd ["thing", "size"] (spLookN K moveD) := by
  refine F.ok scIsMove (fun vs H Q E h => ?_) (fun cdv A outer s H vs Q E hr h => ?_)
  · obtain ⟨v, d, n, rfl, _⟩ := h; rfl
  · obtain ⟨v, d, n, rfl, hd, hz, q⟩ := h
    have hu := hr.units
    refine ⟨_, (pss_cons (ps_if (PW.pt (pw_or (pt_not (pt_val (pe_callB call_isi (by rfl) nisinstance boot_isinstance (pa_cons (pv 0) (pa_cons (pe_tyN ntuple boot_tuple) pa_nil))))) (pw_or1 (pt_cmpR op_ne (pe_callB call_len (by rfl) nlen boot_len (pa_cons (pv 0) pa_nil)) pe_int (nomark _))))) (pss_one (ps_ret pe_bl)) pss_nil)
      (pss_cons (ps_asg (pv 0) (pg_tup (by rfl) (pgs_cons (pg_name (i := 2) scIsMove.nd rfl (by first | exact Or.inl rfl | exact Or.inr rfl)) (pgs_cons (pg_name (i := 3) scIsMove.nd rfl (by first | exact Or.inl rfl | exact Or.inr rfl)) (pgs_cons (pg_name (i := 4) scIsMove.nd rfl (by first | exact Or.inl rfl | exact Or.inr rfl)) (pgs_cons (pg_name (i := 5) scIsMove.nd rfl (by first | exact Or.inl rfl | exact Or.inr rfl)) pgs_nil))))))
      (pss_one (ps_ret (pe_and (pe_cal CIsState hr (by rfl) pass0 (pa_cons (pv 2) (pa_cons (pv 1) pa_nil))) (pe_and (pe_cal CIsText hr (by rfl) pass0 (pa_cons (pv 3) pa_nil)) (pe_and (pe_cal CIsText hr (by rfl) pass0 (pa_cons (pv 4) pa_nil)) (pe_one (pe_cal CIsState hr (by rfl) pass0 (pa_cons (pv 5) (pa_cons (pv 1) pa_nil))))))))))), ?_⟩
    refine ⟨v, rfl, v, .ty "tuple", _, _, _, rfl, .ty "tuple", tyx_of hd, kit_ty (kit_tuple d), _, rfl, ?_⟩
    cases d with
    | tuple ds =>
      cases hd with
      | tup hs ha =>
      rename_i a xs
      have hzz : PyData.bulkAll ds ≤ 500000 := hz
      refine iteF ⟨.ref a, rfl, .ref a, (xs.length : Nat), rfl, .inr ⟨xs, hs, rfl⟩, rfl, _, rfl, ?_⟩
      by_cases e : V.int (xs.length : Nat) = V.int 4
      · rw [decide_eq_true e]
        refine iteF ?_
        have e2 : xs.length = 4 := by
          have := V.int.inj e
          exact_mod_cast this
        have e3 : ds.length = 4 := by rw [← ha.len, e2]
        obtain ⟨d0, d1, d2, d3, rfl⟩ : ∃ d0 d1 d2 d3, ds = [d0, d1, d2, d3] := by
          match ds, e3 with
          | [d0, d1, d2, d3], _ => exact ⟨d0, d1, d2, d3, rfl⟩
        obtain ⟨x0, x1, x2, x3, rfl⟩ : ∃ x0 x1 x2 x3, xs = [x0, x1, x2, x3] := by
          match xs, e2 with
          | [x0, x1, x2, x3], _ => exact ⟨x0, x1, x2, x3, rfl⟩
        have z := sz_mem hzz
        cases ha with
        | cons h0 ha =>
        cases ha with
        | cons h1 ha =>
        cases ha with
        | cons h2 ha =>
        cases ha with
        | cons h3 ha =>
        refine ⟨.ref a, rfl, a, _, rfl, hs, rfl, x0, _, rfl, x1, _, rfl, x2, _, rfl, x3, _, rfl, rfl, ?_⟩
        refine ⟨x0, rfl, _, rfl, x0, d0, n, rfl, h0, z d0 (by simp), fun H1 s1 => ⟨_, rfl, ?_⟩⟩
        simp only [moveD] at q
        cases b0 : stateD n d0 with
        | false => rw [b0] at q; exact iteF (q H1 s1)
        | true =>
        rw [b0] at q
        refine iteT ⟨x1, rfl, x1, d1, rfl, h1.up s1, z d1 (by simp), fun H2 s2 => ⟨_, rfl, ?_⟩⟩
        cases b1 : isTextD d1 with
        | false => rw [b1] at q; exact iteF (q H2 (s1.trans s2))
        | true =>
        rw [b1] at q
        refine iteT ⟨x2, rfl, x2, d2, rfl, (h2.up s1).up s2, z d2 (by simp), fun H3 s3 => ⟨_, rfl, ?_⟩⟩
        cases b2 : isTextD d2 with
        | false => rw [b2] at q; exact iteF (q H3 (s1.trans (s2.trans s3)))
        | true =>
        rw [b2] at q
        refine iteT ⟨x3, rfl, _, rfl, x3, d3, n, rfl, ((h3.up s1).up s2).up s3, z d3 (by simp), fun H4 s4 => ?_⟩
        exact q H4 (s1.trans (s2.trans (s3.trans s4)))
      · rw [decide_eq_false e]
        refine iteT ?_
        have e3 : moveD n (.tuple ds) = false := by
          match ds, ha with
          | [], _ => rfl
          | [_], _ => rfl
          | [_, _], _ => rfl
          | [_, _, _], _ => rfl
          | _ :: _ :: _ :: _ :: _ :: _, _ => rfl
          | [_, _, _, _], ha => exact absurd (by rw [ha.len]; rfl) e
        rw [← e3]
        exact q H (Same.refl H)
    | _ => exact iteT (q H (Same.refl H))
theorem ok_IsTupleOfMoves {f : Addr} {fd : FuncData} {k : Nat} (F : Fun K "is_tuple_of_moves" "is_tuple_of_moves" sIsTupleOfMoves f fd) (nisinstance : mg "isinstance" = none) (ntuple : mg "tuple" = none) (nall : mg "all" = none)  (CIsMove : Cal P w K mg base k "is_move" ["thing", "size"] (spLookN K moveD)) : FnOk P w K mg base CX0 (k + 1) f fd ["thing", "size"] (spLookN K movesD) := by
  refine F.ok scIsTupleOfMoves (fun vs H Q E h => ?_) (fun cdv A outer s H vs Q E hr h => ?_)
  · obtain ⟨v, d, n, rfl, _⟩ := h; rfl
  · obtain ⟨v, d, n, rfl, hd, hz, q⟩ := h
    have hu := hr.units
    refine ⟨_, (pss_one (ps_ret (pe_and (pe_callB call_isi (by rfl) nisinstance boot_isinstance (pa_cons (pv 0) (pa_cons (pe_tyN ntuple boot_tuple) pa_nil))) (pe_one (pe_callB (cr_all rfl) (by rfl) nall (by decide +kernel) (pa_cons (pe_lc (own := [("part", 2)]) (g := (gName 2)) (by rfl) scIsTupleOfMoves.nd (pi_tup (pv 0)) (blkOk_by (own := [("part", 2)]) (N := ["thing", "size", "part"]) (sc := defScope sIsTupleOfMoves) (by decide +kernel)) (fun _ _ _ _ _ => (pg_name (i := 2) scIsTupleOfMoves.nd rfl (by first | exact Or.inl rfl | exact Or.inr rfl))) (fun _ _ _ _ _ => pts_nil) (fun _ _ _ _ _ => (pe_cal CIsMove hr (by rfl) pass0 (pa_cons (pv 2) (pa_cons (pv 1) pa_nil))))) pa_nil)))))), ?_⟩
    refine ⟨v, rfl, v, .ty "tuple", _, _, _, rfl, .ty "tuple", tyx_of hd, kit_ty (kit_tuple d), _, rfl, ?_⟩
    cases d with
    | tuple ds =>
      cases hd with
      | tup hs ha =>
      rename_i a xs
      have hzz : PyData.bulkAll ds ≤ 500000 := hz
      have hlen : xs.length ≤ 500000 := by rw [ha.len]; exact Nat.le_trans (bulk_len ds) hzz
      refine iteT ?_
      refine ⟨.ref a, rfl, a, rfl, ⟨xs, hs⟩, fun D nD => ?_⟩
      refine lc_it walk_tup (LcP D (fun _ H' => Same H H') (fun j v => ∃ e, ds[j]? = some e ∧ v = some (.bl (moveD n e)))) (LcP.start (same_upd nD)) (fun i H' _ p => by obtain ⟨_, _, _, _, sm⟩ := p; exact ex_t' sm hs) ?_ ?_
      · rintro i y H1 H2 hi ⟨ys, hl, hR, hD, sm⟩ ⟨rfl, hy⟩
        obtain ⟨e, ee, he⟩ := ha.at hy
        refine ⟨rfl, ?_⟩
        dsimp only [tYes]
        refine iteT ?_
        refine ⟨y, rfl, _, rfl, y, e, n, rfl, he.up sm, sz_mem hzz e (List.mem_of_getElem? ee), fun H3 sm3 => ?_⟩
        exact lcp_some hl hR (sm3 _ _ hD) (by omega) ⟨e, ee, rfl⟩ fun b o q => by rw [upd_ne (ne_of_none q nD)]; exact sm3 _ _ (sm b o q)
      rintro H1 ⟨ys, hl, hR, hD, sm⟩
      have e1 := rows_map (f := fun e => some (V.bl (moveD n e))) (l := ds) (by rw [hl, ha.len]) hR
      refine ⟨D, ds.map (moveD n), rfl, sqOf (by rw [hD, e1]; simp [List.filterMap_map, Function.comp_def]), ?_⟩
      have e2 : (ds.map (moveD n)).all id = ds.all (moveD n) := by simp [List.all_map, Function.comp_def]
      rw [e2]
      exact q H1 sm
    | _ => exact iteF (q H (Same.refl H))
end
end KP
namespace KP
open PySem PySem.Spec PyProof.Rows L2 EL
open Evl (pss_cut)
abbrev sPacerInit : Stmt := inClass (topS 26) 0
abbrev sPacerTells : Stmt := inClass (topS 26) 1
abbrev sPacerEq : Stmt := inClass (topS 26) 7
theorem scPacerInit : FnScope ["self", "size", "begins", "moves", "ends"] ["self", "size", "begins", "moves", "ends"] (defScope sPacerInit) := ⟨rfl, rfl, rfl, by decide +kernel, rfl, by decide +kernel, by decide +kernel⟩
/-- a pacer's own dict -/
def pf (n : Int) (b m e : V) : List (Str × V) := [("size", .int n), ("begins", b), ("moves", m), ("ends", e)]
theorem pf_put (n : Int) (b m e : V) : putF "ends" e (putF "moves" m (putF "begins" b (putF "size" (.int n) []))) = pf n b m e := by
  have h1 : ¬ ("size" : Str) = "begins" := by decide +kernel
  have h2 : ¬ ("size" : Str) = "moves" := by decide +kernel
  have h3 : ¬ ("begins" : Str) = "moves" := by decide +kernel
  have h4 : ¬ ("size" : Str) = "ends" := by decide +kernel
  have h5 : ¬ ("begins" : Str) = "ends" := by decide +kernel
  have h6 : ¬ ("moves" : Str) = "ends" := by decide +kernel
  simp only [putF, if_neg h1, if_neg h2, if_neg h3, if_neg h4, if_neg h5, if_neg h6, pf]
theorem put3 (n : Int) (b : V) : putF "begins" b (putF "size" (.int n) []) = ([("size", .int n), ("begins", b)] : List (Str × V)) := by
  have h1 : ¬ ("size" : Str) = "begins" := by decide +kernel
  simp only [putF, if_neg h1]
theorem put4 (n : Int) (b m : V) : putF "moves" m (putF "begins" b (putF "size" (.int n) [])) = ([("size", .int n), ("begins", b), ("moves", m)] : List (Str × V)) := by
  have h2 : ¬ ("size" : Str) = "moves" := by decide +kernel
  have h3 : ¬ ("begins" : Str) = "moves" := by decide +kernel
  rw [put3]
  simp only [putF, if_neg h2, if_neg h3]
structure PTxt (K : PySem.W.Frag) (C : Addr) : Prop where
  cl : Cls K C
  nS : NoAttr K C "size"
  nB : NoAttr K C "begins"
  nM : NoAttr K C "moves"
  nE : NoAttr K C "ends"
/-- a pacer is made of what is right -/
def spPInit (K : PySem.W.Frag) (C : Addr) : Sp := fun vs H Q _ => ∃ (p dx : Addr) (n : Int) (b m e : V) (db dm de : PyData), vs = [.ref p, .int n, b, m, e] ∧ H p = some (.ins C dx []) ∧ Dq K H b db ∧ Dq K H m dm ∧ Dq K H e de ∧
  Sz db ∧ Sz dm ∧ Sz de ∧ 1 ≤ n ∧ statesD n db = true ∧ movesD n dm = true ∧ statesD n de = true ∧
  ∀ H', (∀ c o, c ≠ p → H c = some o → H' c = some o) → H' p = some (.ins C dx (pf n b m e)) → Q .non H'
section
variable {P : Program} {w : World} {K : PySem.W.Frag} {mg : Str → Option Value} {base : Heap}
theorem ok_PacerInit {f C : Addr} {fd : FuncData} {k : Nat} (F : Fun K "__init__" "Pacer.__init__" sPacerInit f fd) (T : PTxt K C) (CIsSize : Cal P w K mg base k "is_size" ["thing"] (spLook K sizeD)) (CIsTupleOfMoves : Cal P w K mg base k "is_tuple_of_moves" ["thing", "size"] (spLookN K movesD)) (CIsTupleOfStates : Cal P w K mg base k "is_tuple_of_states" ["thing", "size"] (spLookN K statesD)) : FnOk P w K mg base CX0 (k + 1) f fd ["self", "size", "begins", "moves", "ends"] (spPInit K C) := by
  refine F.ok scPacerInit (fun vs H Q E h => ?_) (fun cdv A outer s H vs Q E hr h => ?_)
  · obtain ⟨p, dx, n, b, m, e, db, dm, de, rfl, _⟩ := h; rfl
  · obtain ⟨p, dx, n, b, m, e, db, dm, de, rfl, hp, hb, hm, he, zb, zm, ze, hn, tb, tm, te, q⟩ := h
    have hu := hr.units
    refine ⟨_, (pss_cons (ps_if (pt_not (pt_val (pe_cal CIsSize hr (by rfl) pass0 (pa_cons (pv 1) pa_nil)))) (pss_one (ps_never)) pss_nil)
      (pss_cons (ps_if (pt_not (pt_val (pe_cal CIsTupleOfStates hr (by rfl) pass0 (pa_cons (pv 2) (pa_cons (pv 1) pa_nil))))) (pss_one (ps_never)) pss_nil)
      (pss_cons (ps_if (pt_not (pt_val (pe_cal CIsTupleOfMoves hr (by rfl) pass0 (pa_cons (pv 3) (pa_cons (pv 1) pa_nil))))) (pss_one (ps_never)) pss_nil)
      (pss_cons (ps_if (pt_not (pt_val (pe_cal CIsTupleOfStates hr (by rfl) pass0 (pa_cons (pv 4) (pa_cons (pv 1) pa_nil))))) (pss_one (ps_never)) pss_nil)
      (pss_cons (ps_fld (pv 0) (pv 1) rfl)
      (pss_cons (ps_fld (pv 0) (pv 2) rfl)
      (pss_cons (ps_fld (pv 0) (pv 3) rfl)
      (pss_one (ps_fld (pv 0) (pv 4) rfl))))))))), ?_⟩
    have sn : sizeD (.int n) = true := by simp [sizeD, hn]
    refine ⟨_, rfl, _, .int n, rfl, .int n, by show 0 ≤ 500000; decide, fun H1 s1 => ⟨_, rfl, ?_⟩⟩
    rw [sn]
    refine iteF ⟨b, rfl, _, rfl, b, db, n, rfl, hb.up s1, zb, fun H2 s2 => ⟨_, rfl, ?_⟩⟩
    rw [tb]
    refine iteF ⟨m, rfl, _, rfl, m, dm, n, rfl, (hm.up s1).up s2, zm, fun H3 s3 => ⟨_, rfl, ?_⟩⟩
    rw [tm]
    refine iteF ⟨e, rfl, _, rfl, e, de, n, rfl, ((he.up s1).up s2).up s3, ze, fun H4 s4 => ⟨_, rfl, ?_⟩⟩
    rw [te]
    have S := s1.trans (s2.trans (s3.trans s4))
    refine iteF ⟨_, rfl, _, rfl, p, C, dx, [], rfl, S _ _ hp, T.cl, T.nS, (by show 0 < 1000; decide), ?_⟩
    refine ⟨b, rfl, _, rfl, p, C, dx, _, rfl, upd_same, T.cl, T.nB, (by show 1 < 1000; decide), ?_⟩
    refine ⟨m, rfl, _, rfl, p, C, dx, _, rfl, upd_same, T.cl, T.nM, (by rw [put3]; show 2 < 1000; decide), ?_⟩
    refine ⟨e, rfl, _, rfl, p, C, dx, _, rfl, upd_same, T.cl, T.nE, (by rw [put4]; show 3 < 1000; decide), ?_⟩
    refine q _ (fun c o hc h => ?_) (by rw [upd_same, pf_put])
    rw [upd_ne hc, upd_ne hc, upd_ne hc, upd_ne hc]; exact S _ _ h
end
end KP
/-! The deck of draws beside a list that grows; rows of signs; numbers kept of a range. -/
namespace EL
open PySem PySem.Spec PyProof.Rows L2
theorem offNone {a q b : Addr} {m : Nat} {H H' : Hp} (o : Off a q H H') (d : Dw a q m H') (h : H' b = none) : H b = none := by
  cases e : H b with
  | none => rfl
  | some x =>
    obtain ⟨h1, h2⟩ := d.na h
    rw [o b x h1 h2 e] at h; cases h
theorem offUpd {a q b : Addr} {H H' : Hp} {x : HO} (o : Off a q H H') (h : H b = none) : Off a q H (upd H' b x) := fun c y h1 h2 e => by
  rw [upd_ne (ne_of_none e h)]; exact o c y h1 h2 e
theorem rows_signs {p : Nat → Prop} : ∀ {ys : List (Option V)}, (∀ (j : Nat) (v : Option V), ys[j]? = some v → ∃ c, p c ∧ v = some (.str ⟨#[c]⟩)) → ∃ cs : List Nat, ys.filterMap id = (cs.map fun c => (⟨#[c]⟩ : Str)).map V.str ∧ cs.length = ys.length ∧ ∀ c ∈ cs, p c
  | [], _ => ⟨[], rfl, rfl, fun _ m => (List.not_mem_nil m).elim⟩
  | y :: r, h => by
    obtain ⟨c, hc, e⟩ := h 0 y rfl
    obtain ⟨cs, e1, e2, e3⟩ := rows_signs (ys := r) fun j v e => h (j + 1) v (by rw [List.getElem?_cons_succ]; exact e)
    refine ⟨c :: cs, ?_, by rw [List.length_cons, List.length_cons, e2], fun d m => ?_⟩
    · subst e; rw [List.filterMap_cons]; simp only [id_eq, List.map_cons, e1]
    · rcases List.mem_cons.mp m with rfl | m
      · exact hc
      · exact e3 d m
theorem join_cps : ∀ cs : List Nat, (Str.join (Str.ofString "") (cs.map fun c => (⟨#[c]⟩ : Str))).cps.toList = cs
  | [] => rfl
  | [c] => rfl
  | c :: d :: r => by
    have ih := join_cps (d :: r)
    show ((⟨#[c]⟩ : Str) ++ Str.ofString "" ++ Str.join (Str.ofString "") ((d :: r).map fun c => (⟨#[c]⟩ : Str))).cps.toList = c :: d :: r
    rw [show ((⟨#[c]⟩ : Str) ++ Str.ofString "" ++ Str.join (Str.ofString "") ((d :: r).map fun c => (⟨#[c]⟩ : Str))).cps = #[c] ++ #[] ++ (Str.join (Str.ofString "") ((d :: r).map fun c => (⟨#[c]⟩ : Str))).cps from rfl, Array.toList_append, ih]
    rfl
theorem join_signs (cs : List Nat) : Txt.join (Str.ofString "") (cs.map fun c => (⟨#[c]⟩ : Str)) = ⟨cs.toArray⟩ := by
  refine str_ext ?_
  unfold Txt.join
  rw [StrLaws.glued_eq_join, join_cps]
theorem ones (cs : List Nat) : ((cs.map fun c => (⟨#[c]⟩ : Str)).map (·.length)).sum = cs.length := by
  induction cs with
  | nil => rfl
  | cons c r ih => rw [List.map_cons, List.map_cons, List.sum_cons, ih, List.length_cons, show (⟨#[c]⟩ : Str).length = 1 from rfl]; omega
theorem hid_upd {l : Addr} {H : Hp} {o : HO} : hid l l (upd H l o) = hid l l H := by
  funext b
  by_cases h : b = l
  · subst h; unfold hid; simp
  · rw [hid_ne h h, hid_ne h h, upd_ne h]
theorem hid_fresh {l p : Addr} {H : Hp} {o : HO} (h : H p = none) : Same (hid l l H) (hid l l (upd H p o)) := fun b x e => by
  obtain ⟨h1, _, h3⟩ := hid_some e
  rw [hid_ne h1 h1, upd_ne (ne_of_none h3 h)]; exact h3
theorem DqAll.snoc {K : PySem.W.Frag} {H : Hp} {v : V} {d : PyData} : ∀ {ds : List PyData} {vs : List V}, DqAll K H vs ds → Dq K H v d → DqAll K H (vs ++ [v]) (ds ++ [d])
  | [], _, h, e => by cases h; exact .cons e .nil
  | _ :: _, _, h, e => by
    cases h with
    | cons h1 h2 => exact .cons h1 (DqAll.snoc h2 e)
theorem same_hid {a q : Addr} {H H' : Hp} (s : Same H H') {m : Nat} (d : Dw a q m H) : Same (hid a q H) (hid a q H') := fun b o h => by
  obtain ⟨h1, h2, h3⟩ := hid_some h
  rw [hid_ne h1 h2]; exact s b o h3
theorem hid_of {a q p : Addr} {m : Nat} {H G : Hp} {o : HO} (d : Dw a q m H) (np : H p = none) (h : G p = some o) : hid a q G p = some o := by
  obtain ⟨h1, h2⟩ := d.na np
  rw [hid_ne h1 h2]; exact h
def hi (a q z : Addr) (H : Hp) : Hp := hid z z (hid a q H)
structure Dx (a q z : Addr) (m : Nat) (H : Hp) : Prop where
  dw : Dw a q m H
  li : z = a ∨ (z ≠ a ∧ z ≠ q ∧ ∃ ys, H z = some (.lst ys))
theorem Dx.step {a q z : Addr} {m n : Nat} {H H' : Hp} (d : Dx a q z m H) (o : EL.Off a q H H') (d' : Dw a q n H') : Dx a q z n H' :=
  ⟨d', d.li.imp id fun ⟨h1, h2, ys, h3⟩ => ⟨h1, h2, ys, o _ _ h1 h2 h3⟩⟩
theorem Dx.same {a q z : Addr} {m : Nat} {H H' : Hp} (d : Dx a q z m H) (s : Same H H') : Dx a q z m H' := d.step (.of_same s) (d.dw.same s)
theorem Dx.nz {a q z p : Addr} {m : Nat} {H : Hp} (d : Dx a q z m H) (h : H p = none) : p ≠ z := by
  rcases d.li with rfl | ⟨_, _, ys, h3⟩
  · exact (d.dw.na h).1
  · exact (ne_of_none h3 h).symm
theorem hi_sub {a q z : Addr} {H : Hp} : Same (hi a q z H) H := hid_sub.trans hid_sub
theorem hid_hid {z : Addr} {H H' : Hp} (s : Same H H') : Same (hid z z H) (hid z z H') := fun b o h => by
  obtain ⟨h1, _, h3⟩ := hid_some h
  rw [hid_ne h1 h1]; exact s b o h3
theorem off_hi {a q z : Addr} {H H' : Hp} (o : EL.Off a q H H') : Same (hi a q z H) (hi a q z H') := hid_hid o.hid
theorem hi_ne {a q z b : Addr} {H : Hp} (h1 : b ≠ a) (h2 : b ≠ q) (h3 : b ≠ z) : hi a q z H b = H b := by
  unfold hi; rw [hid_ne h3 h3, hid_ne h1 h2]
theorem same_hi {a q z : Addr} {H H' : Hp} (s : Same H H') {m : Nat} (d : Dx a q z m H) : Same (hi a q z H) (hi a q z H') := off_hi (.of_same s)
theorem hi_of {a q z p : Addr} {m : Nat} {H G : Hp} {o : HO} (d : Dx a q z m H) (np : H p = none) (h : G p = some o) : hi a q z G p = some o := by
  obtain ⟨h1, h2⟩ := d.dw.na np
  rw [hi_ne h1 h2 (d.nz np)]; exact h
theorem sqt_hid {K : PySem.W.Frag} {a q b : Addr} {m : Nat} {H : Hp} {xs : List V} (d : Dw a q m H) (h : SqT K H b xs) : SqT K (hid a q H) b xs := by
  obtain ⟨c, _, k⟩ := d
  obtain ⟨i, _, _, h3⟩ := k.top
  obtain ⟨ns, _, h5⟩ := k.que
  have ne : ∀ o, H b = some o → (∀ ys, o ≠ .lst ys) → b ≠ a ∧ b ≠ q := fun o e n => ⟨fun z => by subst z; rw [h3] at e; exact n _ (Option.some.inj e).symm, fun z => by subst z; rw [h5] at e; exact n _ (Option.some.inj e).symm⟩
  rcases h with (h | ⟨o, h⟩) | h
  · obtain ⟨n1, n2⟩ := ne _ h (fun _ z => nomatch z)
    exact .inl (.inl (by rw [hid_ne n1 n2]; exact h))
  · obtain ⟨n1, n2⟩ := ne _ h (fun _ z => nomatch z)
    exact .inl (.inr ⟨o, by rw [hid_ne n1 n2]; exact h⟩)
  · exact .inr h
theorem sqt_hi {K : PySem.W.Frag} {a q z b : Addr} {m : Nat} {H : Hp} {xs : List V} (d : Dx a q z m H) (h : SqT K H b xs) : SqT K (hi a q z H) b xs := by
  rcases d.li with rfl | ⟨_, _, ys, h3⟩
  · have e : hi z q z H = hid z q H := by
      funext b
      unfold hi
      by_cases hb : b = z
      · subst hb; unfold hid; simp
      · rw [hid_ne hb hb]
    rw [e]; exact sqt_hid d.dw h
  · have ne : ∀ o, H b = some o → (∀ ys, o ≠ .lst ys) → b ≠ z := fun o e n e2 => by subst e2; rw [h3] at e; exact n _ (Option.some.inj e).symm
    have h2 := sqt_hid d.dw h
    have key : ∀ o, (∀ ys, o ≠ .lst ys) → hid a q H b = some o → hi a q z H b = some o := fun o n e => by
      have := (hid_some e).2.2
      have nb := ne _ this n
      unfold hi; rw [hid_ne nb nb]; exact e
    rcases h2 with (h2 | ⟨o, h2⟩) | h2
    · exact .inl (.inl (key _ (fun _ z => nomatch z) h2))
    · exact .inl (.inr ⟨o, key _ (fun _ z => nomatch z) h2⟩)
    · exact .inr h2
theorem hi_upd {a q z : Addr} {H : Hp} {o : HO} : hi a q z (upd H z o) = hi a q z H := by
  funext b
  unfold hi
  by_cases h : b = z
  · subst h; unfold hid; simp
  · rw [hid_ne h h, hid_ne h h]
    unfold hid
    by_cases h2 : b = a ∨ b = q
    · rw [if_pos h2, if_pos h2]
    · rw [if_neg h2, if_neg h2, upd_ne h]
theorem rows_sub : ∀ (n0 : Nat) {ys : List (Option V)}, (∀ (j : Nat) (v : Option V), ys[j]? = some v → v = none ∨ v = some (.int ((n0 + j : Nat) : Int))) → ∃ ns : List Nat, ys.filterMap id = ns.map (fun (n : Nat) => V.int (n : Int)) ∧ ns.Pairwise (· < ·) ∧ (∀ x ∈ ns, n0 ≤ x ∧ x < n0 + ys.length) ∧ ns.length ≤ ys.length
  | _, [], _ => ⟨[], rfl, .nil, fun _ m => (List.not_mem_nil m).elim, Nat.le_refl _⟩
  | n0, y :: r, h => by
    obtain ⟨ns, e1, e2, e3, e4⟩ := rows_sub (n0 + 1) (ys := r) fun j v e => by
      have := h (j + 1) v (by rw [List.getElem?_cons_succ]; exact e)
      rwa [show n0 + (j + 1) = n0 + 1 + j by omega] at this
    rcases h 0 y rfl with rfl | rfl
    · refine ⟨ns, by rw [List.filterMap_cons]; simpa using e1, e2, fun x m => ?_, by rw [List.length_cons]; omega⟩
      have := e3 x m
      rw [List.length_cons]; omega
    · refine ⟨n0 :: ns, by rw [List.filterMap_cons]; simp only [id_eq, List.map_cons, e1, Nat.add_zero], .cons (fun x m => by have := e3 x m; omega) e2, fun x m => ?_, by rw [List.length_cons, List.length_cons]; omega⟩
      rw [List.length_cons]
      rcases List.mem_cons.mp m with rfl | m
      · omega
      · have := e3 x m; omega
end EL
namespace KP
open PySem PySem.Spec PyProof.Rows L2 EL
open Evl (pss_cut)
abbrev sDeck : Stmt := topS 36
theorem scDeck : FnScope ["_law_script", "_law_queue", "_law_blend", "_law_cell"] ["_law_script"] (defScope sDeck) := ⟨rfl, rfl, rfl, by decide +kernel, rfl, by decide +kernel, by decide +kernel⟩
abbrev sDraw : Stmt := topS 37
theorem scDraw : FnScope ["_law_deck_here", "_law_below", "_law_blend", "_law_cell"] ["_law_deck_here", "_law_below"] (defScope sDraw) := ⟨rfl, rfl, rfl, by decide +kernel, rfl, by decide +kernel, by decide +kernel⟩
abbrev sPick : Stmt := topS 38
theorem scPick : FnScope ["_law_deck_here", "_law_some"] ["_law_deck_here", "_law_some"] (defScope sPick) := ⟨rfl, rfl, rfl, by decide +kernel, rfl, by decide +kernel, by decide +kernel⟩
section
variable {P : Program} {w : World} {K : PySem.W.Frag} {mg : Str → Option Value} {base : Heap}
theorem ok_deck {f : Addr} {fd : FuncData} {k : Nat} (F : Fun K "_law_deck" "_law_deck" sDeck f fd) (nlist : mg "list" = none) (nint : mg "int" = none) : FnOk P w K mg base CX0 (k + 1) f fd ["_law_script"] (spDeck K) := by
  refine F.ok scDeck (fun vs H Q E h => ?_) (fun cdv A outer s H vs Q E hr h => ?_)
  · obtain ⟨a, ns, rfl, _⟩ := h; rfl
  · obtain ⟨a, ns, rfl, hS, hl, q⟩ := h
    refine ⟨_, pss_cons (ps_par (i := 1) (j := 2) (by rfl) scDeck.nd rfl rfl (by decide) rfl rfl (pa_cons (pe_revL (pe_callTy call_list_of (by rfl) nlist boot_list (pa_cons (pe_slice sl_list (pv 0) po_none (po_some pe_int)) pa_nil))) (pa_cons pe_int pa_nil)) (by rfl))
      (pss_cons (ps_for PassesOwn.never rfl (pi_list (pv 1)) (pg_name (i := 3) scDeck.nd rfl (.inl rfl))
        (pss_one (ps_set (i := 2) scDeck.nd rfl (.inl rfl) (pe_op op_mod (pe_callTy call_int1 (by rfl) nint boot_int (pa_cons (pe_op op_add (pe_op op_add (pe_op op_mul (pv 2) pe_int) (pe_op op_mod (pe_callTy call_int1 (by rfl) nint boot_int (pa_cons (pv 3) pa_nil)) pe_int)) pe_int) pa_nil)) pe_int))))
      (pss_one (ps_ret (pe_lst (pa_cons (pv 1) (pa_cons (pv 2) (pa_cons pe_int pa_nil))))))), ?_⟩
    refine ⟨.ref a, rfl, 63, rfl, a, ns.map V.int, rfl, hS, fun p np => ?_⟩
    have s1 : Same H (upd H p (.lst (cutV (ns.map V.int) none (some 63)))) := same_upd np
    refine ⟨p, cutV (ns.map V.int) none (some 63), rfl, .inl (.inl (.inl upd_same)), fun l nl => ?_⟩
    have s2 := s1.trans (same_upd (o := .lst (cutV (ns.map V.int) none (some 63))) nl)
    refine ⟨l, _, rfl, .inl (.inl upd_same), fun r nr => ?_⟩
    have s3 := s2.trans (same_upd (o := .lst (cutV (ns.map V.int) none (some 63)).reverse) nr)
    obtain ⟨ms, e1, e2⟩ : ∃ ms : List Int, (cutV (ns.map V.int) none (some 63)).reverse = ms.map V.int ∧ ms.length ≤ 63 := by
      refine ⟨(cutI ns 63).reverse, ?_, ?_⟩
      · rw [cutI_map, List.map_reverse]
      · rw [List.length_reverse]; exact cutI_len _ _ hl
    generalize hG : upd (upd (upd H p (.lst (cutV (ns.map V.int) none (some 63)))) l (.lst (cutV (ns.map V.int) none (some 63)))) r (.lst (cutV (ns.map V.int) none (some 63)).reverse) = G at s3 ⊢
    have hr0 : H r = none := (Same.free (s1.trans (same_upd nl)) nr)
    have hGr : G r = some (.lst (ms.map V.int)) := by rw [← hG, upd_same, e1]
    refine ⟨.ref r, .int 95543, rfl, .ref r, rfl, r, rfl, ⟨_, .inl (.inl hGr)⟩, for_list (K := K) (a := r) (xs := ms.map V.int) (fun i σ H' => ∃ (b : Int) (y : Option V), σ = [some (.ref a), some (.ref r), some (.int b), y] ∧ 0 ≤ b ∧ b < 2147483648 ∧ H' = G)
      ⟨_, none, rfl, by decide, by decide, rfl⟩ (fun i σ H' _ ⟨_, _, _, _, _, e⟩ => by rw [e]; exact .inl (.inl hGr)) ?_ ?_⟩
    · rintro i x σ H' hi ⟨b, y, rfl, h0, h1, rfl⟩
      obtain ⟨z, hz, rfl⟩ := get_map_int hi
      refine ⟨_, rfl, b, 40692, rfl, rfl, .inl ⟨by omega, by omega⟩, _, rfl, .inl ⟨_, rfl, _, _, rfl, rfl, (by show (0:Int) < _; decide), ?_⟩⟩
      refine ⟨_, _, rfl, rfl, _, _, rfl, rfl, .inl ⟨_, rfl, _, _, rfl, rfl, (by show (0:Int) < _; decide), ?_⟩⟩
      exact ⟨_, _, rfl, Int.emod_nonneg _ (by decide), Int.lt_trans (Int.emod_lt_of_pos _ (by decide)) (by decide), rfl⟩
    · rintro σ H' ⟨b, y, rfl, h0, h1, rfl⟩
      refine ⟨_, rfl, _, rfl, (by show 3 ≤ sizeLine; decide), fun t nt => ?_⟩
      have s4 := s3.trans (same_upd (o := .lst [.ref r, .int b, .int 0]) nt)
      have tr : r ≠ t := ne_of_none hGr nt
      refine q t r _ s4 ⟨0, Nat.le_refl _, tr.symm, ⟨b, h0, h1, upd_same⟩, ⟨ms, e2, by rw [upd_ne tr]; exact hGr⟩⟩ (s3.free nt) hr0
theorem ok_draw {f : Addr} {fd : FuncData} {k : Nat} (F : Fun K "_law_draw" "_law_draw" sDraw f fd) (nint : mg "int" = none) : FnOk P w K mg base CX0 (k + 1) f fd ["_law_deck_here", "_law_below"] spDraw := by
  refine F.ok scDraw (fun vs H Q E h => ?_) (fun cdv A outer s H vs Q E hr h => ?_)
  · obtain ⟨a, q, m, n, rfl, _⟩ := h; rfl
  · obtain ⟨a, q, m, n, rfl, ⟨c, hc, D⟩, hm, hn0, hn1, kQ⟩ := h
    have hu : _ := hr.units
    refine ⟨_, pss_cons (ps_asg (pe_op op_add (pe_ix ix_list (pv 0) pe_int (fun _ _ => rfl)) pe_int) (pg_sub (pv 0) pe_int set_list))
      (pss_cons (ps_set (i := 2) scDraw.nd rfl (.inl rfl) (pe_op op_add (pe_ix ix_list (pv 0) pe_int (fun _ _ => rfl)) (pe_op op_mul (pe_op op_mul pe_int (pe_ix ix_list (pv 0) pe_int (fun _ _ => rfl))) (pe_ix ix_list (pv 0) pe_int (fun _ _ => rfl)))))
      (pss_cut (ps_if (pt_cmpR (op_neD hu) (pe_ix ix_list (pv 0) pe_int (fun _ _ => rfl)) (pe_lst pa_nil) (nomark _))
        (pss_cons (ps_set (i := 3) scDraw.nd rfl (.inl rfl) (pe_bm0 PySem.F.plainAttrs_list PySem.F.slot_list_pop PySem.F.type_list_pop mt_pop (pe_ix ix_list (pv 0) pe_int (fun _ _ => rfl))))
        (pss_cons (ps_if (pt_cmpR op_ge (pv 3) (pe_op op_pow pe_int pe_int) (nomark _))
          (pss_cons (ps_expr (pe_bm PySem.F.plainAttrs_list PySem.F.slot_list_append PySem.F.type_list_append mt_append (pe_ix ix_list (pv 0) pe_int (fun _ _ => rfl)) (pa_cons (pe_op op_fdiv (pv 3) (pv 1)) pa_nil)))
          (pss_one (ps_ret (pe_op op_mod (pe_callTy call_int1 (by rfl) nint boot_int (pa_cons (pv 3) pa_nil)) (pv 1))))) pss_nil)
        (pss_one (ps_set (i := 2) scDraw.nd rfl (.inl rfl) (pe_op op_add (pv 2) (pv 3)))))) pss_nil)
      (pss_cons (ps_set (i := 2) scDraw.nd rfl (.inl rfl) (pe_op op_mod (pe_op op_mul (pe_op op_mod (pe_callTy call_int1 (by rfl) nint boot_int (pa_cons (pv 2) pa_nil)) pe_int) pe_int) pe_int))
      (pss_cons (ps_set (i := 2) scDraw.nd rfl (.inl rfl) (pe_op op_mod (pe_callTy call_int1 (by rfl) nint boot_int (pa_cons (pe_op op_add (pe_op op_add (pe_op op_mul (pv 2) (pv 2)) (pe_op op_mul pe_int (pe_ix ix_list (pv 0) pe_int (fun _ _ => rfl)))) pe_int) pa_nil)) pe_int))
      (pss_one (ps_ret (pe_op op_mod (pe_op op_fdiv (pe_op op_mod (pe_callTy call_int1 (by rfl) nint boot_int (pa_cons (pe_op op_mul (pv 2) pe_int) pa_nil)) pe_int) pe_int) (pv 1)))))))), ?_⟩
    obtain ⟨b, hb0, hb1, hA⟩ := D.top
    obtain ⟨ns, hns, hQ⟩ := D.que
    have hc2 : c < 1000000000 := by omega
    -- the count goes up
    refine ⟨.ref a, rfl, a, _, 2, .int c, rfl, rfl, sqOf hA, rfl, c, 1, rfl, rfl, .ref a, rfl, a, _, 2, 2, rfl, rfl, hA, rfl, ?_⟩
    generalize hG : L2.upd H a (.lst (([.ref q, .int b, .int (c : Int)] : List V).set 2 (.int ((c : Int) + 1)))) = G
    have hGa : G a = some (.lst [.ref q, .int b, .int ((c : Int) + 1)]) := by rw [← hG]; exact upd_same
    have hGq : G q = some (.lst (ns.map V.int)) := by rw [← hG, upd_ne D.ne.symm]; exact hQ
    have oG : EL.Off a q H G := fun x o h1 h2 h => by rw [← hG, upd_ne h1]; exact h
    have dkG : Dk a q (c + 1) G := ⟨D.ne, ⟨b, hb0, hb1, by rw [hGa]; rfl⟩, ⟨ns, hns, hGq⟩⟩
    -- blend
    refine ⟨.ref a, rfl, a, _, 1, .int b, rfl, rfl, sqOf hGa, rfl, .ref a, rfl, a, _, 2, .int ((c : Int) + 1), rfl, rfl, sqOf hGa, rfl, _, _, rfl, rfl, .inr ⟨by omega, by omega⟩,
      .ref a, rfl, a, _, 2, .int ((c : Int) + 1), rfl, rfl, sqOf hGa, rfl, _, _, rfl, rfl, .inr ⟨by omega, by omega⟩, _, _, rfl, rfl, ?_⟩
    generalize hbl : b + 72053 * ((c : Int) + 1) * ((c : Int) + 1) = bl
    refine ⟨fun σ H' => ∃ (z : Int) (y : Option V), σ = [some (.ref a), some (.int n), some (.int z), y] ∧ EL.Off a q H H' ∧ Dk a q (c + 1) H', ?_, ?_⟩
    · refine ⟨.ref a, rfl, a, _, 0, .ref q, rfl, rfl, sqOf hGa, rfl, Nat.zero_le _, fun l nl => ?_⟩
      have hlq : q ≠ l := ne_of_none hGq nl
      have hla : a ≠ l := ne_of_none hGa nl
      generalize hG2 : L2.upd G l (.lst []) = G2
      have s2 : Same G G2 := by rw [← hG2]; exact same_upd nl
      have dk2 := dkG.same s2
      have o2 : EL.Off a q H G2 := oG.trans (.of_same s2)
      have hl2 : G2 l = some (.lst []) := by rw [← hG2]; exact upd_same
      have hq2 := s2 _ _ hGq
      have ha2 := s2 _ _ hGa
      refine ⟨.list (ns.map PyData.int), .list [], .lst (sqOf hq2) (dpInts ns), .lst (sqOf hl2) .nil, shaped_ints ns, rfl, _, rfl, ?_⟩
      rw [eqv_nil]
      by_cases hz : ns = []
      · rw [decide_eq_true hz]
        exact iteF ⟨_, none, rfl, o2, dk2⟩
      · rw [decide_eq_false hz]
        refine iteT ?_
        obtain ⟨y, hy⟩ := last_int hz
        refine ⟨.ref a, rfl, a, _, 0, .ref q, rfl, rfl, sqOf ha2, rfl, .inl ⟨rfl, _, sqOf hq2⟩, q, _, .int y, rfl, rfl, hq2, hy, ?_⟩
        generalize hG3 : L2.upd G2 q (.lst (ns.map V.int).dropLast) = G3
        have o3 : EL.Off a q H G3 := o2.trans fun x o h1 h2 h => by rw [← hG3, upd_ne h2]; exact h
        have ha3 : G3 a = some (.lst [.ref q, .int b, .int ((c : Int) + 1)]) := by rw [← hG3, upd_ne D.ne]; exact ha2
        have hq3 : G3 q = some (.lst (ns.dropLast.map V.int)) := by rw [← hG3, upd_same, List.map_dropLast]
        have hl3 : ns.dropLast.length ≤ 62 := by rw [List.length_dropLast]; omega
        have dk3 : Dk a q (c + 1) G3 := ⟨D.ne, ⟨b, hb0, hb1, by rw [ha3]; rfl⟩, ⟨_, by omega, hq3⟩⟩
        refine ⟨_, rfl, 10, 18, rfl, rfl, ⟨by decide, by decide, by decide⟩, y, _, rfl, rfl, _, rfl, ite2 (fun _ => ?_) (fun _ => ?_)⟩
        · refine ⟨.ref a, rfl, a, _, 0, .ref q, rfl, rfl, sqOf ha3, rfl, .inl ⟨rfl, _, sqOf hq3⟩, _, rfl, _, rfl, y, n, rfl, rfl, ⟨by omega, by omega⟩, q, _, _, rfl, rfl, hq3, (by rw [List.length_map]; exact lt_sz (by omega)), ?_⟩
          generalize hG4 : L2.upd G3 q (.lst (ns.dropLast.map V.int ++ [V.int (y / n)])) = G4
          have o4 : EL.Off a q H G4 := o3.trans fun x o h1 h2 h => by rw [← hG4, upd_ne h2]; exact h
          have ha4 : G4 a = some (.lst [.ref q, .int b, .int ((c : Int) + 1)]) := by rw [← hG4, upd_ne D.ne]; exact ha3
          have hq4 : G4 q = some (.lst ((ns.dropLast ++ [y / n]).map V.int)) := by rw [← hG4, upd_same, List.map_append]; rfl
          have dk4 : Dk a q (c + 1) G4 := ⟨D.ne, ⟨b, hb0, hb1, by rw [ha4]; rfl⟩, ⟨_, by rw [List.length_append]; show _ + 1 ≤ 63; omega, hq4⟩⟩
          refine ⟨_, rfl, .inl ⟨_, rfl, _, rfl, _, _, rfl, rfl, hn0, ?_⟩⟩
          exact kQ _ _ (Int.emod_nonneg _ (by omega)) (Int.emod_lt_of_pos _ hn0) o4 ⟨c + 1, by omega, dk4⟩
        · exact ⟨_, rfl, _, rfl, _, _, rfl, rfl, _, some (.int y), rfl, o3, dk3⟩
    · rintro σ H' ⟨z, y, rfl, o5, D5⟩
      obtain ⟨b5, hb0', hb1', hA5⟩ := D5.top
      refine ⟨_, rfl, .inl ⟨_, rfl, _, _, rfl, rfl, (by show (0:Int) < _; decide), _, _, rfl, rfl, .inr ⟨by omega, by omega⟩, _, _, rfl, rfl, (by show (0:Int) < _; decide), ?_⟩⟩
      refine ⟨_, rfl, _, rfl, _, _, rfl, rfl, .inl ⟨by omega, by omega⟩, .ref a, rfl, a, _, 2, .int ((c + 1 : Nat) : Int), rfl, rfl, sqOf hA5, rfl, _, _, rfl, rfl, .inl ⟨by omega, by omega⟩, _, _, rfl, rfl, _, _, rfl, rfl, .inl ⟨_, rfl, _, _, rfl, rfl, (by show (0:Int) < _; decide), ?_⟩⟩
      refine ⟨_, rfl, _, _, rfl, rfl, .inr ⟨by omega, by omega⟩, .inl ⟨_, rfl, _, _, rfl, rfl, (by show (0:Int) < _; decide), _, _, rfl, rfl, ⟨by omega, by omega⟩, _, rfl, _, _, rfl, rfl, hn0, ?_⟩⟩
      exact kQ _ _ (Int.emod_nonneg _ (by omega)) (Int.emod_lt_of_pos _ hn0) o5 ⟨c + 1, by omega, D5⟩
theorem ok_pick {f : Addr} {fd : FuncData} {k : Nat} (F : Fun K "_law_pick" "_law_pick" sPick f fd) (nlen : mg "len" = none) (C : Cal P w K mg base (k + 1) "_law_draw" ["_law_deck_here", "_law_below"] spDraw) :
    FnOk P w K mg base CX0 (k + 2) f fd ["_law_deck_here", "_law_some"] (spPick K) := by
  refine F.ok scPick (fun vs H Q E h => ?_) (fun cdv A outer s H vs Q E hr h => ?_)
  · obtain ⟨a, q, m, y, rfl, _⟩ := h; rfl
  · obtain ⟨a, q, m, y, rfl, hD, hm, h⟩ := h
    refine ⟨_, pss_one (ps_ret (pe_ix ix_seq (pv 1) (pe_cal C hr (by rfl) pass0 (pa_cons (pv 0) (pa_cons (pe_callB call_len (by rfl) nlen boot_len (pa_cons (pv 1) pa_nil)) pa_nil))) (fun _ _ => rfl))), ?_⟩
    refine ⟨y, rfl, .ref a, rfl, y, rfl, ?_⟩
    rcases h with ⟨l, xs, rfl, hS, hne, hlen, kQ⟩ | ⟨z, rfl, hne, hlen, kQ⟩
    · have hS' : SqL K H l xs := ex_l' hid_sub hS
      have hp : 0 < xs.length := List.length_pos_iff.mpr hne
      refine ⟨_, _, rfl, .inl ⟨_, hS', rfl⟩, a, q, m, _, rfl, hD, hm, by omega, by omega, fun j H' h0 h1 o D' => ?_⟩
      obtain ⟨i, rfl⟩ := Int.eq_ofNat_of_zero_le h0
      have hi : i < xs.length := by omega
      refine .inl ⟨l, xs, (i : Int), xs[i], rfl, rfl, ex_l' hid_sub (ex_l' o.hid hS), atI_nat (List.getElem?_eq_getElem hi), ?_⟩
      exact kQ i _ H' (List.getElem?_eq_getElem hi) o D'
    · refine ⟨_, _, rfl, ⟨len_sz hlen, rfl⟩, a, q, m, _, rfl, hD, hm, by omega, by omega, fun j H' h0 h1 o D' => ?_⟩
      obtain ⟨i, rfl⟩ := Int.eq_ofNat_of_zero_le h0
      have hi : i < z.cps.toList.length := by
        have e : z.cps.toList.length = z.length := by rw [Array.length_toList]; rfl
        omega
      refine .inr (.inr ⟨z, (i : Int), z.cps.toList[i], rfl, rfl, len_sz hlen, atI_nat (List.getElem?_eq_getElem hi), ?_⟩)
      exact kQ i _ H' (List.getElem?_eq_getElem hi) o D'

end
abbrev sLWord : Stmt := topS 39
theorem scLWord : FnScope ["_law_deck_here", "_law_signs", "_law_top", "_law_turn"] ["_law_deck_here", "_law_signs", "_law_top"] (defScope sLWord) := ⟨rfl, rfl, rfl, by decide +kernel, rfl, by decide +kernel, by decide +kernel⟩
abbrev sLPlan : Stmt := topS 40
theorem scLPlan : FnScope ["_law_deck_here", "_law_top", "_law_many", "_law_long", "_law_wide", "_law_ways", "_law_turn", "_law_near", "_law_goals", "_law_k"] ["_law_deck_here", "_law_top", "_law_many", "_law_long"] (defScope sLPlan) := ⟨rfl, rfl, rfl, by decide +kernel, rfl, by decide +kernel, by decide +kernel⟩
/-- a word of given signs -/
def spWord : Sp := fun vs H Q _ => ∃ (a q : Addr) (m t : Nat) (z : Str), vs = [.ref a, .str z, .int (t : Int)] ∧ Dw a q m H ∧ m + 1000 < 1000000000 ∧ t ≤ 100 ∧ z.length ≠ 0 ∧ z.length ≤ 1000 ∧
  ∀ (cs : List Nat) H', cs.length ≤ t → (∀ c ∈ cs, c ∈ z.cps.toList) → Off a q H H' → Dw a q (m + t + 1) H' → Q (.str ⟨cs.toArray⟩) H'
/-- a move: from, left word, right word, to -/
structure Mv where
  s : Nat
  l : List Nat
  r : List Nat
  t : Nat
abbrev mvD (m : Mv) : PyData := .tuple [.int m.s, .str ⟨m.l.toArray⟩, .str ⟨m.r.toArray⟩, .int m.t]
structure Plan where
  wide : Nat
  ins : List Nat
  ways : List Mv
  outs : List Nat
/-- ascending numbers below n -/
def Asc (n : Nat) (ns : List Nat) : Prop := ns.Pairwise (· < ·) ∧ ∀ x ∈ ns, x < n
structure Plan.Ok (p : Plan) (top many long : Nat) : Prop where
  w1 : 1 ≤ p.wide
  w2 : p.wide ≤ top
  i : Asc p.wide p.ins
  o : Asc p.wide p.outs
  n : p.ways.length ≤ many
  m : ∀ m ∈ p.ways, m.s < p.wide ∧ m.t < p.wide ∧ m.l.length ≤ long ∧ m.r.length ≤ long ∧ (∀ c ∈ m.l, c = 97 ∨ c = 98 ∨ c = 99) ∧ ∀ c ∈ m.r, c = 97 ∨ c = 98 ∨ c = 99
abbrev nats (ns : List Nat) : List PyData := ns.map fun (n : Nat) => PyData.int (n : Int)
/-- a list at a place, not locked -/
inductive LisA (K : PySem.W.Frag) (H : Hp) (a : Addr) (ds : List PyData) : Prop
  | lst {xs : List V} (hs : H a = some (.lst xs)) (ha : DqAll K H xs ds) : LisA K H a ds
theorem LisA.up {K : PySem.W.Frag} {H H' : Hp} {a : Addr} {ds : List PyData} (h : LisA K H a ds) (s : Same H H') : LisA K H' a ds := by
  cases h with
  | lst hs ha => exact .lst (s _ _ hs) (ha.up s)
structure PlanAt (K : PySem.W.Frag) (H : Hp) (p : Addr) (pl : Plan) : Prop where
  at' : ∃ vi vw vo : Addr, H p = some (.dK [(.inr "wide", .int (pl.wide : Int)), (.inr "in", .ref vi), (.inr "ways", .ref vw), (.inr "out", .ref vo)]) ∧
    Dq K H (.ref vi) (.tuple (nats pl.ins)) ∧ LisA K H vw (pl.ways.map mvD) ∧ Dq K H (.ref vo) (.tuple (nats pl.outs))
theorem PlanAt.up {K : PySem.W.Frag} {H H' : Hp} {p : Addr} {pl : Plan} (h : PlanAt K H p pl) (s : Same H H') : PlanAt K H' p pl := by
  obtain ⟨vi, vw, vo, h1, h2, h3, h4⟩ := h.at'
  exact ⟨vi, vw, vo, s _ _ h1, h2.up s, h3.up s, h4.up s⟩
/-- a plan, drawn -/
def spPlan (K : PySem.W.Frag) : Sp := fun vs H Q _ => ∃ (a q : Addr) (m top many long : Nat), vs = [.ref a, .int (top : Int), .int (many : Int), .int (long : Int)] ∧ Dw a q m H ∧ m + 100000 < 1000000000 ∧ 1 ≤ top ∧ top ≤ 50 ∧ many ≤ 50 ∧ long ≤ 50 ∧
  ∀ (p : Addr) (pl : Plan) H', pl.Ok top many long → PlanAt K (hid a q H') p pl → Off a q H H' → Dw a q (m + 20000) H' → Q (.ref p) H'
theorem nats_dqAll {K : PySem.W.Frag} {H : Hp} : ∀ ns : List Nat, DqAll K H (ns.map fun (n : Nat) => V.int (n : Int)) (nats ns)
  | [] => .nil
  | n :: r => .cons (.int _) (nats_dqAll r)
section
variable {P : Program} {w : World} {K : PySem.W.Frag} {mg : Str → Option Value} {base : Heap}
theorem ok_LWord {f : Addr} {fd : FuncData} {k : Nat} (F : Fun K "_law_word" "_law_word" sLWord f fd) (nrange : mg "range" = none)  (CLDraw : Cal P w K mg base k "_law_draw" ["_law_deck_here", "_law_below"] spDraw) (CLPick : Cal P w K mg base k "_law_pick" ["_law_deck_here", "_law_some"] (spPick K)) : FnOk P w K mg base CX0 (k + 1) f fd ["_law_deck_here", "_law_signs", "_law_top"] spWord := by
  refine F.ok scLWord (fun vs H Q E h => ?_) (fun cdv A outer s H vs Q E hr h => ?_)
  · obtain ⟨a, q, m, t, z, rfl, _⟩ := h; rfl
  · obtain ⟨a, q, m, t, z, rfl, hD, hm, ht, hz0, hz1, kQ⟩ := h
    have hu := hr.units
    refine ⟨_, (pss_one (ps_ret (pe_join pe_str (pe_lc (own := [("_law_turn", 3)]) (g := (gName 3)) (by rfl) scLWord.nd (pi_range1 rfl nrange (pa_cons (pe_cal CLDraw hr (by rfl) pass0 (pa_cons (pv 0) (pa_cons (pe_op op_add (pv 2) pe_int) pa_nil))) pa_nil)) (blkOk_by (own := [("_law_turn", 3)]) (N := ["_law_deck_here", "_law_signs", "_law_top", "_law_turn"]) (sc := defScope sLWord) (by decide +kernel)) (fun _ _ _ _ _ => (pg_name (i := 3) scLWord.nd rfl (by first | exact Or.inl rfl | exact Or.inr rfl))) (fun _ _ _ _ _ => pts_nil) (fun _ _ _ _ _ => (pe_cal CLPick hr (by rfl) pass0 (pa_cons (pv 0) (pa_cons (pv 1) pa_nil)))))))), ?_⟩
    refine ⟨⟨_, rfl⟩, .ref a, rfl, _, rfl, _, _, rfl, rfl, a, q, m, _, rfl, hD, by omega, by omega, by omega, fun n H1 h0 h1 o1 D1 => ?_⟩
    obtain ⟨n, rfl⟩ := Int.eq_ofNat_of_zero_le h0
    have hn : n ≤ t := by omega
    refine ⟨_, rfl, by omega, by omega, fun D nD => ?_⟩
    have nH : H D = none := offNone o1 D1 nD
    have na := D1.na nD
    rw [show (n : Int).toNat = n from Int.toNat_natCast n]
    refine lc_it walk_range (LcP D (fun i H' => Off a q H H' ∧ Dw a q (m + 1 + i) H') (fun j v => ∃ c, c ∈ z.cps.toList ∧ v = some (.str ⟨#[c]⟩))) (LcP.start ⟨offUpd o1 nH, D1.upd na.1 na.2⟩) (fun _ _ _ _ => trivial) ?_ ?_
    · rintro i y H2 H3 hi ⟨ys, hl, hR, hD2, o2, D2⟩ ⟨rfl, rfl⟩
      refine ⟨rfl, ?_⟩
      dsimp only [tYes]
      refine iteT ?_
      refine ⟨.ref a, rfl, _, rfl, a, q, m + 1 + i, _, rfl, D2, by omega, .inr ⟨z, rfl, hz0, by omega, fun j c H4 hc o4 D4 => ?_⟩⟩
      have o5 := o2.trans o4
      exact lcp_some hl hR (o4 _ _ na.1 na.2 hD2) (by omega) ⟨c, List.mem_of_getElem? hc, rfl⟩ ⟨offUpd o5 nH, D4.upd na.1 na.2⟩
    rintro H2 ⟨ys, hl, hR, hD2, o2, D2⟩
    obtain ⟨cs, e1, e2, e3⟩ := rows_signs hR
    rw [e1] at hD2
    refine ⟨_, D, cs.map (fun c => (⟨#[c]⟩ : Str)), rfl, rfl, .inl (sqOf hD2), ?_, ?_⟩
    · rw [ones, List.length_map]
      show _ + _ * 0 ≤ _
      omega
    · rw [join_signs]
      exact kQ cs H2 (by omega) e3 o2 (D2.mono (by omega))
end
end KP
namespace KP
open PySem PySem.Spec PyProof.Rows L2 EL
open Evl (pss_cut)
/-- within a loop of draws: the moves so far -/
def okMv (wide long : Nat) (m : Mv) : Prop := m.s < wide ∧ m.t < wide ∧ m.l.length ≤ long ∧ m.r.length ≤ long ∧ (∀ c ∈ m.l, c = 97 ∨ c = 98 ∨ c = 99) ∧ ∀ c ∈ m.r, c = 97 ∨ c = 98 ∨ c = 99
theorem merge4 (x y z u : V) : mergeK [] [(.inr "wide", x), (.inr "in", y), (.inr "ways", z), (.inr "out", u)] = ([(.inr "wide", x), (.inr "in", y), (.inr "ways", z), (.inr "out", u)] : List (Key × V)) := by
  have h1 : ¬ ("wide" : Str) = "in" := by decide +kernel
  have h2 : ¬ ("wide" : Str) = "ways" := by decide +kernel
  have h3 : ¬ ("in" : Str) = "ways" := by decide +kernel
  have h4 : ¬ ("wide" : Str) = "out" := by decide +kernel
  have h5 : ¬ ("in" : Str) = "out" := by decide +kernel
  have h6 : ¬ ("ways" : Str) = "out" := by decide +kernel
  simp [mergeK, putK, h1, h2, h3, h4, h5, h6]
theorem ab_of {cs : List Nat} (h : ∀ c ∈ cs, c ∈ ("ab" : Str).cps.toList) : ∀ c ∈ cs, c = 97 ∨ c = 98 ∨ c = 99 := fun c m => by
  have key : ∀ x ∈ ("ab" : Str).cps.toList, x = 97 ∨ x = 98 ∨ x = 99 := by decide
  exact key c (h c m)
section
variable {P : Program} {w : World} {K : PySem.W.Frag} {mg : Str → Option Value} {base : Heap}
theorem ok_LPlan {f : Addr} {fd : FuncData} {k : Nat} (F : Fun K "_law_plan" "_law_plan" sLPlan f fd) (nrange : mg "range" = none) (ntuple : mg "tuple" = none)  (CLDraw : Cal P w K mg base k "_law_draw" ["_law_deck_here", "_law_below"] spDraw) (CLWord : Cal P w K mg base k "_law_word" ["_law_deck_here", "_law_signs", "_law_top"] spWord) : FnOk P w K mg base CX0 (k + 1) f fd ["_law_deck_here", "_law_top", "_law_many", "_law_long"] (spPlan K) := by
  refine F.ok scLPlan (fun vs H Q E h => ?_) (fun cdv A outer s H vs Q E hr h => ?_)
  · obtain ⟨a, q, m, top, many, long, rfl, _⟩ := h; rfl
  · obtain ⟨a, q, m, top, many, long, rfl, hD, hm, ht1, ht2, hmany, hlong, kQ⟩ := h
    have hu := hr.units
    refine ⟨_, (pss_cons (ps_set (i := 4) scLPlan.nd rfl (by first | exact Or.inl rfl | exact Or.inr rfl) (pe_op op_add pe_int (pe_cal CLDraw hr (by rfl) pass0 (pa_cons (pv 0) (pa_cons (pv 1) pa_nil)))))
      (pss_cons (ps_set (i := 5) scLPlan.nd rfl (by first | exact Or.inl rfl | exact Or.inr rfl) (pe_lst pa_nil))
      (pss_cons (ps_for PassesOwn.never rfl (pi_range1 rfl nrange (pa_cons (pe_cal CLDraw hr (by rfl) pass0 (pa_cons (pv 0) (pa_cons (pe_op op_add (pv 2) pe_int) pa_nil))) pa_nil)) (pg_name (i := 6) scLPlan.nd rfl (by first | exact Or.inl rfl | exact Or.inr rfl)) (pss_cons (ps_set (i := 7) scLPlan.nd rfl (by first | exact Or.inl rfl | exact Or.inr rfl) (pe_cal CLDraw hr (by rfl) pass0 (pa_cons (pv 0) (pa_cons (pv 4) pa_nil))))
      (pss_one (ps_expr (pe_bm PySem.F.plainAttrs_list PySem.F.slot_list_append PySem.F.type_list_append mt_append (pv 5) (pa_cons (pe_tup (pa_cons (pv 7) (pa_cons (pe_cal CLWord hr (by rfl) pass0 (pa_cons (pv 0) (pa_cons pe_str (pa_cons (pv 3) pa_nil)))) (pa_cons (pe_cal CLWord hr (by rfl) pass0 (pa_cons (pv 0) (pa_cons pe_str (pa_cons (pv 3) pa_nil)))) (pa_cons (pe_cal CLDraw hr (by rfl) pass0 (pa_cons (pv 0) (pa_cons (pv 4) pa_nil))) pa_nil))))) pa_nil))))))
      (pss_cons (ps_set (i := 8) scLPlan.nd rfl (by first | exact Or.inl rfl | exact Or.inr rfl) (pe_callTy call_tuple_of (by rfl) ntuple boot_tuple (pa_cons (pe_lc (own := [("_law_k", 9)]) (g := (gName 9)) (by rfl) scLPlan.nd (pi_range1 rfl nrange (pa_cons (pv 4) pa_nil)) (blkOk_by (own := [("_law_k", 9)]) (N := ["_law_deck_here", "_law_top", "_law_many", "_law_long", "_law_wide", "_law_ways", "_law_turn", "_law_near", "_law_goals", "_law_k"]) (sc := defScope sLPlan) (by decide +kernel)) (fun _ _ _ _ _ => (pg_name (i := 9) scLPlan.nd rfl (by first | exact Or.inl rfl | exact Or.inr rfl))) (fun _ _ _ _ _ => (pts_one (pt_cmpR op_eq (pe_cal CLDraw hr (by rfl) pass0 (pa_cons (pv 0) (pa_cons pe_int pa_nil))) pe_int (nomark _)))) (fun _ _ _ _ _ => (pv 9))) pa_nil)))
      (pss_one (ps_ret (pe_disp (pps_cons pe_str (pv 4) (pps_cons pe_str (pe_callTy call_tuple_of (by rfl) ntuple boot_tuple (pa_cons (pe_lc (own := [("_law_k", 9)]) (g := (gName 9)) (by rfl) scLPlan.nd (pi_range1 rfl nrange (pa_cons (pv 4) pa_nil)) (blkOk_by (own := [("_law_k", 9)]) (N := ["_law_deck_here", "_law_top", "_law_many", "_law_long", "_law_wide", "_law_ways", "_law_turn", "_law_near", "_law_goals", "_law_k"]) (sc := defScope sLPlan) (by decide +kernel)) (fun _ _ _ _ _ => (pg_name (i := 9) scLPlan.nd rfl (by first | exact Or.inl rfl | exact Or.inr rfl))) (fun _ _ _ _ _ => (pts_one (pt_cmpR op_eq (pe_cal CLDraw hr (by rfl) pass0 (pa_cons (pv 0) (pa_cons pe_int pa_nil))) pe_int (nomark _)))) (fun _ _ _ _ _ => (pv 9))) pa_nil)) (pps_cons pe_str (pv 5) (pps_cons pe_str (pv 8) pps_nil)))) rfl rfl (by simp) (by decide)))))))), ?_⟩
    refine ⟨.ref a, rfl, _, rfl, a, q, m, _, rfl, hD, by omega, by omega, by omega, fun j H1 j0 j1 o1 D1 => ⟨_, _, rfl, rfl, ?_⟩⟩
    obtain ⟨j, rfl⟩ := Int.eq_ofNat_of_zero_le j0
    show gName 4 (V.int (1 + (j : Int))) _ _ _
    rw [show (1 : Int) + (j : Int) = ((j + 1 : Nat) : Int) by omega]
    have hw2 : j + 1 ≤ top := by omega
    generalize hwd : j + 1 = wide at hw2
    have hw1 : 1 ≤ wide := by omega
    refine ⟨Nat.zero_le _, fun l nl => ?_⟩
    have nlH := offNone o1 D1 nl
    have na := D1.na nl
    have o2 : EL.Off a q H (upd H1 l (.lst [])) := offUpd o1 nlH
    have g2 : upd H1 l (.lst []) l = some (.lst []) := upd_same
    have D2 := D1.upd (o := .lst []) na.1 na.2
    generalize upd H1 l (.lst []) = H2 at o2 g2 D2 ⊢
    refine ⟨.ref a, rfl, _, rfl, _, _, rfl, rfl, a, q, _, _, rfl, D2, by omega, by omega, by omega, fun c H3 c0 c1 o3 D3 => ?_⟩
    obtain ⟨c, rfl⟩ := Int.eq_ofNat_of_zero_le c0
    have hc : c ≤ many := by omega
    refine ⟨_, rfl, by omega, by omega, ?_⟩
    rw [show (c : Int).toNat = c from Int.toNat_natCast c]
    refine for_it walk_range (fun i σ H' => ∃ y6 y7 vs ws, σ = [some (.ref a), some (.int (top : Int)), some (.int (many : Int)), some (.int (long : Int)), some (.int (wide : Int)), some (.ref l), y6, y7, none, none] ∧ Dw a q (m + 2 + 200 * i) H' ∧ EL.Off a q H H' ∧ H' l = some (.lst vs) ∧ DqAll K (hi a q l H') vs (List.map mvD ws) ∧ ws.length = i ∧ ∀ w ∈ ws, okMv wide long w)
      ⟨none, none, [], [], rfl, D3, o2.trans o3, o3 _ _ na.1 na.2 g2, .nil, rfl, fun _ m => (List.not_mem_nil m).elim⟩ (fun _ _ _ _ _ => trivial) ?_ ?_
    · rintro i y σ H4 H5 hil ⟨y6, y7, vs, ws, rfl, D4, o4, g4, A4, hws, hok⟩ ⟨rfl, rfl⟩
      have hvl : vs.length = i := by rw [A4.len, List.length_map, hws]
      refine ⟨.ref a, rfl, _, rfl, a, q, _, _, rfl, D4, by omega, by omega, by omega, fun s0 H6 s0a s0b o6 D6 => ?_⟩
      obtain ⟨s0, rfl⟩ := Int.eq_ofNat_of_zero_le s0a
      have g6 := o6 _ _ na.1 na.2 g4
      refine ⟨.ref l, rfl, .inl ⟨rfl, _, sqOf g6⟩, _, rfl, ?_⟩
      refine ⟨.ref a, rfl, _, rfl, a, q, _, long, "ab", rfl, D6, by omega, by omega, by decide, by decide, fun x1 H7 hx1 hx1c o7 D7 => ?_⟩
      refine ⟨.ref a, rfl, _, rfl, a, q, _, long, "ab", rfl, D7, by omega, by omega, by decide, by decide, fun x2 H8 hx2 hx2c o8 D8 => ?_⟩
      refine ⟨.ref a, rfl, _, rfl, a, q, _, _, rfl, D8, by omega, by omega, by omega, fun t0 H9 t0a t0b o9 D9 => ?_⟩
      obtain ⟨t0, rfl⟩ := Int.eq_ofNat_of_zero_le t0a
      have o69 := o6.trans (o7.trans (o8.trans o9))
      have O9 := o4.trans o69
      have g9 := o69 _ _ na.1 na.2 g4
      have X9 : Dx a q l _ H9 := ⟨D9, .inr ⟨na.1, na.2, _, g9⟩⟩
      refine ⟨len_sz (by show 4 ≤ 1000000; decide), fun p np => ?_⟩
      have s10 := same_upd (o := .tup [.int (s0 : Int), .str ⟨x1.toArray⟩, .str ⟨x2.toArray⟩, .int (t0 : Int)]) np
      have g10 : upd H9 p (.tup [.int (s0 : Int), .str ⟨x1.toArray⟩, .str ⟨x2.toArray⟩, .int (t0 : Int)]) p = some (.tup [.int (s0 : Int), .str ⟨x1.toArray⟩, .str ⟨x2.toArray⟩, .int (t0 : Int)]) := upd_same
      generalize upd H9 p (.tup [.int (s0 : Int), .str ⟨x1.toArray⟩, .str ⟨x2.toArray⟩, .int (t0 : Int)]) = H10 at s10 g10 ⊢
      have X10 := X9.same s10
      refine ⟨l, vs, _, rfl, rfl, s10 _ _ g9, lt_sz (by omega), ?_⟩
      refine ⟨_, _, vs ++ [.ref p], ws ++ [⟨s0, x1, x2, t0⟩], rfl, (X10.dw.upd na.1 na.2).mono (by omega), offUpd (O9.trans (.of_same s10)) nlH, upd_same, ?_, by rw [List.length_append, hws]; rfl, fun w hw => ?_⟩
      · rw [hi_upd, List.map_append]
        exact DqAll.snoc (A4.up (off_hi (o69.trans (.of_same s10)))) (.tup (stOf (hi_of X9 np g10)) (.cons (.int _) (.cons (.str _) (.cons (.str _) (.cons (.int _) .nil)))))
      · rcases List.mem_append.mp hw with hw | hw
        · exact hok w hw
        · obtain rfl : w = ⟨s0, x1, x2, t0⟩ := by simpa using hw
          exact ⟨by show s0 < wide; omega, by show t0 < wide; omega, hx1, hx2, ab_of hx1c, ab_of hx2c⟩
    · rintro σ H4 ⟨y6, y7, vs, ws, rfl, D4, o4, g4, A4, hws, hok⟩
      have hM : m + 2 + 200 * c ≤ m + 2 + 200 * 50 := by omega
      generalize m + 2 + 200 * c = M at D4 hM
      refine ⟨_, rfl, _, rfl, by omega, by omega, fun D nD => ?_⟩
      have naD := D4.na nD
      rw [show (wide : Int).toNat = wide from Int.toNat_natCast wide]
      refine lc_it walk_range (LcP D (fun i H' => EL.Off a q H4 H' ∧ Dw a q (M + i) H') (fun j v => v = none ∨ v = some (.int ((0 + j : Nat) : Int)))) (LcP.start ⟨offUpd (.refl _) nD, D4.upd (o := .lst []) naD.1 naD.2⟩) (fun _ _ _ _ => trivial) ?_ ?_
      · rintro i y H' H'' hil ⟨ys, hl, hR, hDD, oo, DD⟩ ⟨rfl, rfl⟩
        refine ⟨rfl, .ref a, rfl, a, q, _, 2, rfl, DD, by omega, by decide, by decide, fun b H5 b0 b1 o5 D5 => ⟨rfl, _, rfl, ?_⟩⟩
        have hD5 := o5 _ _ naD.1 naD.2 hDD
        by_cases hb : V.int b = V.int 0
        · rw [decide_eq_true hb]
          refine iteT ⟨_, rfl, lcp_some hl hR hD5 (by omega) (.inr (by simp)) ⟨offUpd (oo.trans o5) nD, (D5.upd naD.1 naD.2).mono (by omega)⟩⟩
        · rw [decide_eq_false hb]
          exact iteF (lcp_none hl hR hD5 (.inl rfl) ⟨oo.trans o5, D5.mono (by omega)⟩)
      rintro H5 ⟨ys, hl, hR, hDD, o5, D5⟩
      obtain ⟨os, e1, e2, e3, e4⟩ := rows_sub 0 hR
      rw [e1] at hDD
      refine ⟨D, _, rfl, .inl ⟨sqOf hDD, fun po npo => ?_⟩⟩
      have npo4 : H4 po = none := offNone o5 D5 npo
      have s6 : Same H5 (upd H5 po (.tup (os.map fun (n : Nat) => V.int (n : Int)))) := same_upd npo
      have g6 : upd H5 po (.tup (os.map fun (n : Nat) => V.int (n : Int))) po = some (.tup (os.map fun (n : Nat) => V.int (n : Int))) := upd_same
      generalize upd H5 po (.tup (os.map fun (n : Nat) => V.int (n : Int))) = H6 at s6 g6 ⊢
      have D6 := D5.same s6
      have nap := D5.na npo
      -- the dict
      refine fun pd npd => ?_
      have o46 : EL.Off a q H4 H6 := o5.trans (.of_same s6)
      have npd4 : H4 pd = none := offNone o46 D6 npd
      have nad := D6.na npd
      have s7 : Same H6 (upd H6 pd (.dK [])) := same_upd npd
      have g7 : upd H6 pd (.dK []) pd = some (.dK []) := upd_same
      generalize upd H6 pd (.dK []) = H7 at s7 g7 ⊢
      have D7 := D6.same s7
      refine ⟨_, rfl, _, rfl, _, rfl, by omega, by omega, fun D' nD' => ?_⟩
      have naD' := D7.na nD'
      rw [show (wide : Int).toNat = wide from Int.toNat_natCast wide]
      refine lc_it walk_range (LcP D' (fun i H' => EL.Off a q H7 H' ∧ Dw a q ((M + wide) + i) H') (fun j v => v = none ∨ v = some (.int ((0 + j : Nat) : Int)))) (LcP.start ⟨offUpd (.refl _) nD', D7.upd (o := .lst []) naD'.1 naD'.2⟩) (fun _ _ _ _ => trivial) ?_ ?_
      · rintro i y H' H'' hil ⟨ys, hl, hR, hDD, oo, DD⟩ ⟨rfl, rfl⟩
        refine ⟨rfl, .ref a, rfl, a, q, _, 2, rfl, DD, by omega, by decide, by decide, fun b H5 b0 b1 o5 D5 => ⟨rfl, _, rfl, ?_⟩⟩
        have hD5 := o5 _ _ naD'.1 naD'.2 hDD
        by_cases hb : V.int b = V.int 0
        · rw [decide_eq_true hb]
          refine iteT ⟨_, rfl, lcp_some hl hR hD5 (by omega) (.inr (by simp)) ⟨offUpd (oo.trans o5) nD', (D5.upd naD'.1 naD'.2).mono (by omega)⟩⟩
        · rw [decide_eq_false hb]
          exact iteF (lcp_none hl hR hD5 (.inl rfl) ⟨oo.trans o5, D5.mono (by omega)⟩)
      rintro H8 ⟨ys', hl', hR', hDD', o8, D8⟩
      obtain ⟨is, f1, f2, f3, f4⟩ := rows_sub 0 hR'
      rw [f1] at hDD'
      refine ⟨D', _, rfl, .inl ⟨sqOf hDD', fun pi npi => ?_⟩⟩
      have s9 : Same H8 (upd H8 pi (.tup (is.map fun (n : Nat) => V.int (n : Int)))) := same_upd npi
      have g9 : upd H8 pi (.tup (is.map fun (n : Nat) => V.int (n : Int))) pi = some (.tup (is.map fun (n : Nat) => V.int (n : Int))) := upd_same
      have napi := D8.na npi
      generalize upd H8 pi (.tup (is.map fun (n : Nat) => V.int (n : Int))) = H9 at s9 g9 ⊢
      have D9 := D8.same s9
      have o79 : EL.Off a q H7 H9 := o8.trans (.of_same s9)
      have g79 := o79 _ _ nad.1 nad.2 g7
      refine ⟨_, rfl, _, rfl, g79, [(.inr "wide", .int (wide : Int)), (.inr "in", .ref pi), (.inr "ways", .ref l), (.inr "out", .ref po)], rfl, by simp, ?_⟩
      rw [merge4]
      have hO : EL.Off a q H (upd H9 pd (.dK [(.inr "wide", .int (wide : Int)), (.inr "in", .ref pi), (.inr "ways", .ref l), (.inr "out", .ref po)])) := offUpd (o4.trans (o46.trans ((EL.Off.of_same s7).trans o79))) (offNone o4 D4 npd4)
      have oz : ∀ b o, b ≠ a → b ≠ q → b ≠ pd → H9 b = some o → upd H9 pd (.dK [(.inr "wide", .int (wide : Int)), (.inr "in", .ref pi), (.inr "ways", .ref l), (.inr "out", .ref po)]) b = some o := fun b o _ _ h3 h => by rw [upd_ne h3]; exact h
      have hid9 : ∀ (b : Addr) (o : HO), b ≠ a → b ≠ q → b ≠ pd → H9 b = some o → hid a q (upd H9 pd (.dK [(.inr "wide", .int (wide : Int)), (.inr "in", .ref pi), (.inr "ways", .ref l), (.inr "out", .ref po)])) b = some o := fun b o h1 h2 h3 h => by rw [hid_ne h1 h2]; exact oz b o h1 h2 h3 h
      have gpo : H9 po = some (.tup (os.map fun (n : Nat) => V.int (n : Int))) := o79 _ _ nap.1 nap.2 (s7 _ _ g6)
      have gl : H9 l = some (.lst vs) := o79 _ _ na.1 na.2 (s7 _ _ (o46 _ _ na.1 na.2 g4))
      have npo' : po ≠ pd := ne_of_none g6 npd
      have nl' : l ≠ pd := ne_of_none (o46 _ _ na.1 na.2 g4) npd
      have npi' : pi ≠ pd := fun e => by rw [e] at npi; rw [o8 _ _ nad.1 nad.2 g7] at npi; cases npi
      refine kQ pd ⟨wide, is, ws, os⟩ _ ⟨hw1, hw2, ⟨f2, fun x m => by have := f3 x m; show x < wide; omega⟩, ⟨e2, fun x m => by have := e3 x m; show x < wide; omega⟩, by show ws.length ≤ many; omega, hok⟩
        ⟨pi, l, po, hid_ne (H := upd H9 pd _) nad.1 nad.2 ▸ upd_same, .tup (stOf (hid9 _ _ napi.1 napi.2 npi' g9)) (nats_dqAll is), .lst (hid9 _ _ na.1 na.2 nl' gl) ?_, .tup (stOf (hid9 _ _ nap.1 nap.2 npo' gpo)) (nats_dqAll os)⟩ hO ((D9.upd nad.1 nad.2).mono (by omega))
      refine A4.up fun b o hb => ?_
      obtain ⟨_, _, hb2⟩ := hid_some hb
      obtain ⟨h1, h2, h3⟩ := hid_some hb2
      have h6 := o46 b o h1 h2 h3
      exact hid9 b o h1 h2 (ne_of_none h6 npd) (o79 b o h1 h2 (s7 _ _ h6))

end
end KP
namespace KP
open PySem PySem.Spec PyProof.Rows L2 EL
open Evl (pss_cut)
abbrev sLCode : Stmt := topS 41
theorem scLCode : FnScope ["_law_w"] ["_law_w"] (defScope sLCode) := ⟨rfl, rfl, rfl, by decide +kernel, rfl, by decide +kernel, by decide +kernel⟩
theorem ascI_pair : ∀ {ns : List Nat}, ns.Pairwise (· < ·) → ascI ((nats ns).map intOf) = true
  | [], _ => rfl
  | [_], _ => rfl
  | a :: b :: r, h => by
    have h1 : a < b := (List.pairwise_cons.mp h).1 b List.mem_cons_self
    have ih := ascI_pair (ns := b :: r) (List.pairwise_cons.mp h).2
    simp only [List.map_cons, intOf, ascI] at ih ⊢
    rw [ih, Bool.and_true]
    exact decide_eq_true (by exact_mod_cast h1)
theorem states_ok {n : Nat} {ns : List Nat} (h : Asc n ns) : statesD n (.tuple (nats ns)) = true := by
  simp only [statesD, Bool.and_eq_true]
  refine ⟨List.all_eq_true.mpr fun d m => ?_, ascI_pair h.1⟩
  obtain ⟨x, hx, rfl⟩ := List.mem_map.mp m
  have := h.2 x hx
  simp only [stateD, Bool.and_eq_true, decide_eq_true_eq]
  omega
theorem ab_text {cs : List Nat} (h : ∀ c ∈ cs, c = 97 ∨ c = 98 ∨ c = 99) : isTextD (.str ⟨cs.toArray⟩) = true := by
  show cs.all isLow = true
  refine List.all_eq_true.mpr fun c m => ?_
  rcases h c m with rfl | rfl | rfl <;> decide
theorem moves_ok {n long : Nat} {ms : List Mv} (h : ∀ m ∈ ms, okMv n long m) : movesD n (.tuple (ms.map mvD)) = true := by
  simp only [movesD]
  refine List.all_eq_true.mpr fun d m => ?_
  obtain ⟨x, hx, rfl⟩ := List.mem_map.mp m
  obtain ⟨h1, h2, _, _, h5, h6⟩ := h x hx
  simp only [moveD, stateD, ab_text h5, ab_text h6, Bool.and_eq_true, decide_eq_true_eq]
  refine ⟨⟨?_, ?_⟩, trivial, trivial, ?_, ?_⟩ <;> omega
theorem nats_bulk : ∀ ns : List Nat, PyData.bulkAll (nats ns) ≤ 10 * ns.length
  | [] => by simp [PyData.bulkAll]
  | n :: r => by
    have : PyData.bulkAll (r.map fun (n : Nat) => PyData.int (n : Int)) ≤ 10 * r.length := nats_bulk r
    simp only [List.map_cons, PyData.bulkAll, PyData.bulk, List.length_cons]; omega
theorem moves_bulk {n long : Nat} (hl : long ≤ 50) : ∀ {ms : List Mv}, (∀ m ∈ ms, okMv n long m) → PyData.bulkAll (ms.map mvD) ≤ 200 * ms.length
  | [], _ => by simp [PyData.bulkAll]
  | m :: r, h => by
    have ih := moves_bulk hl (ms := r) fun x hx => h x (List.mem_cons_of_mem _ hx)
    obtain ⟨_, _, h3, h4, _, _⟩ := h m List.mem_cons_self
    have e1 : (PyData.str ⟨m.l.toArray⟩).bulk = m.l.length := by simp [PyData.bulk, Str.length]
    have e2 : (PyData.str ⟨m.r.toArray⟩).bulk = m.r.length := by simp [PyData.bulk, Str.length]
    have e0 : (mvD m).bulk ≤ 150 := by
      show PyData.bulkAll [_, _, _, _] ≤ 150
      simp only [PyData.bulkAll, e1, e2]
      simp only [PyData.bulk]; omega
    simp only [List.map_cons, PyData.bulkAll, List.length_cons]; omega
theorem asc_len {n : Nat} {ns : List Nat} (h : Asc n ns) : ns.length ≤ n := by
  have key : ∀ (k : Nat) (ns : List Nat), ns.Pairwise (· < ·) → (∀ x ∈ ns, k ≤ x) → (∀ x ∈ ns, x < n) → ns.length ≤ n - k := by
    intro k ns
    induction ns generalizing k with
    | nil => intros; simp
    | cons a r ih =>
      intro h1 h2 h3
      have := ih (a + 1) (List.pairwise_cons.mp h1).2 (fun x m => (List.pairwise_cons.mp h1).1 x m) fun x m => h3 x (List.mem_cons_of_mem _ m)
      have h4 := h2 a List.mem_cons_self
      have h5 := h3 a List.mem_cons_self
      rw [List.length_cons]; omega
  have := key 0 ns h.1 (fun _ _ => Nat.zero_le _) h.2
  omega
/-- a pacer of a plan -/
structure PacAt (K : PySem.W.Frag) (C : Addr) (H : Hp) (x : Addr) (pl : Plan) : Prop where
  at' : ∃ dx vb vm ve : Addr, H x = some (.ins C dx (pf (pl.wide : Int) (.ref vb) (.ref vm) (.ref ve))) ∧ Dq K H (.ref vb) (.tuple (nats pl.ins)) ∧ Dq K H (.ref vm) (.tuple (pl.ways.map mvD)) ∧ Dq K H (.ref ve) (.tuple (nats pl.outs))
theorem PacAt.up {K : PySem.W.Frag} {C : Addr} {H H' : Hp} {x : Addr} {pl : Plan} (h : PacAt K C H x pl) (s : Same H H') : PacAt K C H' x pl := by
  obtain ⟨dx, vb, vm, ve, h1, h2, h3, h4⟩ := h.at'
  exact ⟨dx, vb, vm, ve, s _ _ h1, h2.up s, h3.up s, h4.up s⟩
/-- the class, callable -/
structure CalC (P : Program) (w : World) (K : PySem.W.Frag) (mg : Str → Option Value) (base : Heap) (k : Nat) (C : Addr) where
  f : Addr
  fd : FuncData
  mke : Mk K C f
  ok : FnOk P w K mg base CX0 k f fd ["self", "size", "begins", "moves", "ends"] (spPInit K C)
  g : mg "Pacer" = some (.ref C)
  b : Binds K fd ["self", "size", "begins", "moves", "ends"] []
/-- a pacer made of a plan -/
def spCode (K : PySem.W.Frag) (C : Addr) : Sp := fun vs H Q _ => ∃ (p : Addr) (pl : Plan) (top many long : Nat), vs = [.ref p] ∧ PlanAt K H p pl ∧ pl.Ok top many long ∧ top ≤ 50 ∧ many ≤ 50 ∧ long ≤ 50 ∧
  ∀ x H', Same H H' → H x = none → PacAt K C H' x pl → Q (.ref x) H'
section
variable {P : Program} {w : World} {K : PySem.W.Frag} {mg : Str → Option Value} {base : Heap}
theorem ok_LCode {f C : Addr} {fd : FuncData} {k : Nat} (F : Fun K "_law_code" "_law_code" sLCode f fd) (ntuple : mg "tuple" = none) (CC : CalC P w K mg base k C) : FnOk P w K mg base CX0 (k + 2) f fd ["_law_w"] (spCode K C) := by
  refine F.ok scLCode (fun vs H Q E h => ?_) (fun cdv A outer s H vs Q E hr h => ?_)
  · obtain ⟨p, pl, top, many, long, rfl, _⟩ := h; rfl
  · obtain ⟨p, pl, top, many, long, rfl, hP, hO, h1, h2, h3, kQ⟩ := h
    have hu := hr.units
    have hu1 : (A.deeper (envOfC "_law_code" (defScope sLCode) s.heap.objs.size f cdv)).units + 1 < cLine := by omega
    refine ⟨_, (pss_one (ps_ret (pe_make CC.mke CC.ok hr (by rfl) CC.g CC.b .nil pass0 (pa_cons (pe_dget hu1 (pv 0) pe_str (fun _ _ => rfl)) (pa_cons (pe_dget hu1 (pv 0) pe_str (fun _ _ => rfl)) (pa_cons (pe_callTy call_tuple_of (by rfl) ntuple boot_tuple (pa_cons (pe_dget hu1 (pv 0) pe_str (fun _ _ => rfl)) pa_nil)) (pa_cons (pe_dget hu1 (pv 0) pe_str (fun _ _ => rfl)) pa_nil))))))), ?_⟩
    obtain ⟨vi, vw, vo, e1, e2, e3, e4⟩ := hP.at'
    have n1 : ¬ ("wide" : Str) = "in" := by decide +kernel
    have n2 : ¬ ("wide" : Str) = "ways" := by decide +kernel
    have n3 : ¬ ("in" : Str) = "ways" := by decide +kernel
    have n4 : ¬ ("wide" : Str) = "out" := by decide +kernel
    have n5 : ¬ ("in" : Str) = "out" := by decide +kernel
    have n6 : ¬ ("ways" : Str) = "out" := by decide +kernel
    have g1 : DGet H p (kV (.inr "wide")) (some (.int (pl.wide : Int))) := by
      have := DGet.k (k := .inr "wide") e1
      simpa [valV] using this
    have g2 : DGet H p (kV (.inr "in")) (some (.ref vi)) := by
      have := DGet.k (k := .inr "in") e1
      simpa [valV, n1] using this
    have g3 : DGet H p (kV (.inr "ways")) (some (.ref vw)) := by
      have := DGet.k (k := .inr "ways") e1
      simpa [valV, n2, n3] using this
    refine ⟨_, rfl, p, _, rfl, g1, _, rfl, p, _, rfl, g2, _, rfl, p, _, rfl, g3, ?_⟩
    obtain ⟨xs, hxs, hxa⟩ : ∃ xs, SqL K H vw xs ∧ DqAll K H xs (pl.ways.map mvD) := by
      cases e3 with
      | lst hs ha => exact ⟨_, sqOf hs, ha⟩
    refine ⟨vw, xs, rfl, .inl ⟨hxs, fun l nl => ?_⟩⟩
    have s1 : Same H (upd H l (.tup xs)) := same_upd nl
    have gl : upd H l (.tup xs) l = some (.tup xs) := upd_same
    generalize upd H l (.tup xs) = H1 at s1 gl ⊢
    have g4 : DGet H1 p (kV (.inr "out")) (some (.ref vo)) := by
      have := DGet.k (k := .inr "out") (s1 _ _ e1)
      simpa [valV, n4, n5, n6] using this
    refine ⟨_, rfl, p, _, rfl, g4, ?_⟩
    intro x dx nx ndx nex
    have s2 : Same H1 (upd (upd H1 dx (.own x)) x (.ins C dx [])) := fun b o e => by
      rw [upd_ne (ne_of_none e nx), upd_ne (ne_of_none e ndx)]; exact e
    have gx : upd (upd H1 dx (.own x)) x (.ins C dx []) x = some (.ins C dx []) := upd_same
    generalize upd (upd H1 dx (.own x)) x (.ins C dx []) = H2 at s2 gx ⊢
    have d1 : Dq K H2 (.ref vi) (.tuple (nats pl.ins)) := (e2.up s1).up s2
    have d2 : Dq K H2 (.ref l) (.tuple (pl.ways.map mvD)) := .tup (stOf (s2 _ _ gl)) ((hxa.up s1).up s2)
    have d3 : Dq K H2 (.ref vo) (.tuple (nats pl.outs)) := (e4.up s1).up s2
    have b1 := asc_len hO.i
    have b2 := asc_len hO.o
    have w2 := hO.w2
    have nn := hO.n
    refine ⟨x, dx, (pl.wide : Int), .ref vi, .ref l, .ref vo, _, _, _, rfl, gx, d1, d2, d3, ?_, ?_, ?_, by have := hO.w1; omega, states_ok hO.i, moves_ok hO.m, states_ok hO.o, fun H3 keep g => ⟨rfl, ?_⟩⟩
    · show PyData.bulkAll _ ≤ 500000
      have := nats_bulk pl.ins; omega
    · show PyData.bulkAll _ ≤ 500000
      have := moves_bulk h3 hO.m; omega
    · show PyData.bulkAll _ ≤ 500000
      have := nats_bulk pl.outs; omega
    · have nxH : H x = none := s1.free nx
      -- what stood before is kept: nothing of it is x
      have s13 : Same H1 H3 := fun b o e => keep b o (ne_of_none e nx) (s2 b o e)
      refine kQ x H3 (s1.trans s13) nxH ⟨dx, vi, l, vo, g, (e2.up s1).up s13, .tup (stOf (s13 _ _ gl)) ((hxa.up s1).up s13), (e4.up s1).up s13⟩
end
end KP
namespace KP
/-! ### places: what a pacer's moves come to, by mathematics alone -/
/-- a state and how far on each side -/
abbrev Pl := Nat × Nat × Nat
/-- the word stands in x at i -/
def fitsAt (x w : List Nat) (i : Nat) : Bool := decide (i + w.length ≤ x.length) && decide ((x.drop i).take w.length = w)
def nexts (ms : List Mv) (x y : List Nat) (p : Pl) : List Pl := ms.filterMap fun m => if m.s = p.1 ∧ fitsAt x m.l p.2.1 = true ∧ fitsAt y m.r p.2.2 = true then some (m.t, p.2.1 + m.l.length, p.2.2 + m.r.length) else none
inductive Reach (bs : List Nat) (ms : List Mv) (x y : List Nat) : Pl → Prop
  | base {b : Nat} : b ∈ bs → Reach bs ms x y (b, 0, 0)
  | step {p q : Pl} : Reach bs ms x y p → q ∈ nexts ms x y p → Reach bs ms x y q
theorem mem_nexts {ms : List Mv} {x y : List Nat} {p q : Pl} : q ∈ nexts ms x y p ↔ ∃ m ∈ ms, m.s = p.1 ∧ fitsAt x m.l p.2.1 = true ∧ fitsAt y m.r p.2.2 = true ∧ q = (m.t, p.2.1 + m.l.length, p.2.2 + m.r.length) := by
  unfold nexts
  rw [List.mem_filterMap]
  constructor
  · rintro ⟨m, hm, e⟩
    split at e
    · rename_i h
      exact ⟨m, hm, h.1, h.2.1, h.2.2, (Option.some.inj e).symm⟩
    · cases e
  · rintro ⟨m, hm, h1, h2, h3, rfl⟩
    exact ⟨m, hm, if_pos ⟨h1, h2, h3⟩⟩
/-- in the box -/
def InBox (n : Nat) (x y : List Nat) (p : Pl) : Prop := p.1 < n ∧ p.2.1 ≤ x.length ∧ p.2.2 ≤ y.length
theorem next_box {n : Nat} {ms : List Mv} {x y : List Nat} {p q : Pl} (h : ∀ m ∈ ms, m.t < n) (hq : q ∈ nexts ms x y p) : InBox n x y q := by
  obtain ⟨m, hm, _, f1, f2, rfl⟩ := mem_nexts.mp hq
  simp only [fitsAt, Bool.and_eq_true, decide_eq_true_eq] at f1 f2
  exact ⟨h m hm, f1.1, f2.1⟩
theorem reach_box {n : Nat} {bs : List Nat} {ms : List Mv} {x y : List Nat} (hb : ∀ b ∈ bs, b < n) (hm : ∀ m ∈ ms, m.t < n) {p : Pl} (h : Reach bs ms x y p) : InBox n x y p := by
  cases h with
  | base m => exact ⟨hb _ m, Nat.zero_le _, Nat.zero_le _⟩
  | step _ q => exact next_box hm q
/-- unlike numbers below n -/
theorem nodup_lt : ∀ (n : Nat) (l : List Nat), l.Nodup → (∀ x ∈ l, x < n) → l.length ≤ n
  | 0, l, _, h => by
    cases l with
    | nil => exact Nat.le_refl _
    | cons a r => exact absurd (h a List.mem_cons_self) (Nat.not_lt_zero _)
  | n + 1, l, d, h => by
    by_cases m : n ∈ l
    · have e := List.length_erase_of_mem m
      have ih := nodup_lt n (l.erase n) (d.erase n) fun x hx => by
        have h1 := h x (List.mem_of_mem_erase hx)
        have h2 : x ≠ n := fun e => by subst e; exact (List.Nodup.not_mem_erase d) hx
        omega
      have : 0 < l.length := List.length_pos_of_mem m
      omega
    · have ih := nodup_lt n l d fun x hx => by
        have h1 := h x hx
        have h2 : x ≠ n := fun e => m (e ▸ hx)
        omega
      omega
/-- a place as one number -/
def code (a b : Nat) (p : Pl) : Nat := (p.1 * (a + 1) + p.2.1) * (b + 1) + p.2.2
theorem code_lt {n : Nat} {x y : List Nat} {p : Pl} (h : InBox n x y p) : code x.length y.length p < n * (x.length + 1) * (y.length + 1) := by
  obtain ⟨h1, h2, h3⟩ := h
  unfold code
  generalize x.length = a at *
  generalize y.length = b at *
  have e1 : p.1 * (a + 1) + p.2.1 + 1 ≤ n * (a + 1) := by
    have : (p.1 + 1) * (a + 1) ≤ n * (a + 1) := Nat.mul_le_mul_right _ h1
    rw [Nat.add_mul] at this; omega
  have e2 : (p.1 * (a + 1) + p.2.1 + 1) * (b + 1) ≤ n * (a + 1) * (b + 1) := Nat.mul_le_mul_right _ e1
  rw [Nat.add_mul] at e2; omega
theorem code_inj {a b : Nat} {p q : Pl} (h1 : p.2.1 ≤ a) (h2 : q.2.1 ≤ a) (h3 : p.2.2 ≤ b) (h4 : q.2.2 ≤ b) (e : code a b p = code a b q) : p = q := by
  obtain ⟨p1, p2, p3⟩ := p
  obtain ⟨q1, q2, q3⟩ := q
  simp only [code] at *
  have r1 : p3 = q3 := by
    have := congrArg (· % (b + 1)) e
    simp only [Nat.mul_add_mod_self_right] at this
    rwa [Nat.mod_eq_of_lt (by omega), Nat.mod_eq_of_lt (by omega)] at this
  subst r1
  have e2 : (p1 * (a + 1) + p2) = (q1 * (a + 1) + q2) := Nat.eq_of_mul_eq_mul_right (Nat.succ_pos b) (Nat.add_right_cancel e)
  have r2 : p2 = q2 := by
    have := congrArg (· % (a + 1)) e2
    simp only [Nat.mul_add_mod_self_right] at this
    rwa [Nat.mod_eq_of_lt (by omega), Nat.mod_eq_of_lt (by omega)] at this
  subst r2
  have r3 : p1 = q1 := Nat.eq_of_mul_eq_mul_right (Nat.succ_pos a) (Nat.add_right_cancel e2)
  subst r3; rfl
theorem box_len {n : Nat} {x y : List Nat} {l : List Pl} (d : l.Nodup) (h : ∀ p ∈ l, InBox n x y p) : l.length ≤ n * (x.length + 1) * (y.length + 1) := by
  have key : ∀ l : List Pl, l.Nodup → (∀ p ∈ l, InBox n x y p) → (l.map (code x.length y.length)).Nodup := by
    intro l
    induction l with
    | nil => intros; exact List.nodup_nil
    | cons p r ih =>
      intro d h
      obtain ⟨d1, d2⟩ := List.nodup_cons.mp d
      refine List.nodup_cons.mpr ⟨fun m => ?_, ih d2 fun q m => h q (List.mem_cons_of_mem _ m)⟩
      obtain ⟨q, hq, e⟩ := List.mem_map.mp m
      have h1 := h p List.mem_cons_self
      have h2 := h q (List.mem_cons_of_mem _ hq)
      have := code_inj h1.2.1 h2.2.1 h1.2.2 h2.2.2 e.symm
      subst this; exact d1 hq
  have := nodup_lt _ _ (key l d h) (fun c m => by
    obtain ⟨p, hp, rfl⟩ := List.mem_map.mp m
    exact code_lt (h p hp))
  rwa [List.length_map] at this
/-! ### the program's going: met, and those of it that wait -/
structure Going (bs : List Nat) (ms : List Mv) (x y : List Nat) (M W : List Pl) : Prop where
  nd : M.Nodup
  re : ∀ p ∈ M, Reach bs ms x y p
  st : ∀ b ∈ bs, (b, 0, 0) ∈ M
  cl : ∀ p ∈ M, p ∉ W → ∀ q ∈ nexts ms x y p, q ∈ M
  su : ∀ p ∈ W, p ∈ M
theorem Going.done {bs : List Nat} {ms : List Mv} {x y : List Nat} {M : List Pl} (g : Going bs ms x y M []) (p : Pl) : p ∈ M ↔ Reach bs ms x y p := by
  refine ⟨g.re p, fun h => ?_⟩
  induction h with
  | base m => exact g.st _ m
  | step _ hq ih => exact g.cl _ ih (List.not_mem_nil) _ hq
/-! ### the law's going: found, and a row of those to come -/
structure Going2 (bs : List Nat) (ms : List Mv) (x y : List Nat) (F R : List Pl) (i : Nat) : Prop where
  nd : F.Nodup
  le : i ≤ R.length
  re : ∀ p ∈ R, Reach bs ms x y p
  sf : ∀ p ∈ F, p ∈ R
  st : ∀ b ∈ bs, (b, 0, 0) ∈ R
  cl : ∀ p ∈ F, ∀ q ∈ nexts ms x y p, q ∈ R
  be : ∀ (j : Nat) (p : Pl), j < i → R[j]? = some p → p ∈ F
theorem Going2.done {bs : List Nat} {ms : List Mv} {x y : List Nat} {F R : List Pl} (g : Going2 bs ms x y F R R.length) (p : Pl) : p ∈ F ↔ Reach bs ms x y p := by
  have rf : ∀ p ∈ R, p ∈ F := fun p m => by
    obtain ⟨j, hj, rfl⟩ := List.mem_iff_getElem.mp m
    exact g.be j _ hj (List.getElem?_eq_getElem hj)
  refine ⟨fun m => g.re p (g.sf p m), fun h => ?_⟩
  induction h with
  | base m => exact rf _ (g.st _ m)
  | step _ hq ih => exact rf _ (g.cl _ ih _ hq)
theorem Going2.seen {bs : List Nat} {ms : List Mv} {x y : List Nat} {F R : List Pl} {i : Nat} {p : Pl} (g : Going2 bs ms x y F R i) (hi : R[i]? = some p) (m : p ∈ F) : Going2 bs ms x y F R (i + 1) :=
  ⟨g.nd, (List.getElem?_eq_some_iff.mp hi).1, g.re, g.sf, g.st, g.cl, fun j q hj e => by
    by_cases h : j < i
    · exact g.be j q h e
    · obtain rfl : j = i := by omega
      rw [hi] at e
      exact Option.some.inj e ▸ m⟩
theorem Going2.new {bs : List Nat} {ms : List Mv} {x y : List Nat} {F R : List Pl} {i : Nat} {p : Pl} (g : Going2 bs ms x y F R i) (hi : R[i]? = some p) (m : p ∉ F) : Going2 bs ms x y (F ++ [p]) (R ++ nexts ms x y p) (i + 1) := by
  have hp : p ∈ R := List.mem_of_getElem? hi
  have lt := (List.getElem?_eq_some_iff.mp hi).1
  refine ⟨?_, by rw [List.length_append]; omega, fun q hq => ?_, fun q hq => ?_, fun b hb => List.mem_append_left _ (g.st b hb), fun q hq r hr => ?_, fun j q hj e => ?_⟩
  · rw [List.nodup_append]
    refine ⟨g.nd, by simp, fun a ha b hb => ?_⟩
    obtain rfl : b = p := by simpa using hb
    exact fun e => m (e ▸ ha)
  · rcases List.mem_append.mp hq with h | h
    · exact g.re q h
    · exact .step (g.re p hp) h
  · rcases List.mem_append.mp hq with h | h
    · exact List.mem_append_left _ (g.sf q h)
    · obtain rfl : q = p := by simpa using h
      exact List.mem_append_left _ hp
  · rcases List.mem_append.mp hq with h | h
    · exact List.mem_append_left _ (g.cl q h r hr)
    · obtain rfl : q = p := by simpa using h
      exact List.mem_append_right _ hr
  · by_cases h : j < i
    · rw [List.getElem?_append_left (by omega)] at e
      exact List.mem_append_left _ (g.be j q h e)
    · obtain rfl : j = i := by omega
      rw [List.getElem?_append_left lt, hi] at e
      obtain rfl := Option.some.inj e
      exact List.mem_append_right _ (by simp)
end KP
namespace KP
open PySem PySem.Spec PyProof.Rows L2 EL
open Evl (pss_cut)
abbrev sLTold : Stmt := topS 42
theorem scLTold : FnScope ["_law_w", "_law_x", "_law_y", "_law_found", "_law_waiting", "_law_at", "_law_k", "_law_i", "_law_j", "_law_near", "_law_word_here", "_law_mate", "_law_far"] ["_law_w", "_law_x", "_law_y"] (defScope sLTold) := ⟨rfl, rfl, rfl, by decide +kernel, rfl, by decide +kernel, by decide +kernel⟩
/-- told, by mathematics -/
noncomputable def toldB (pl : Plan) (x y : List Nat) : Bool := @decide (∃ e ∈ pl.outs, Reach pl.ins pl.ways x y (e, x.length, y.length)) (Classical.propDecidable _)
def spTold (K : PySem.W.Frag) : Sp := fun vs H Q _ => ∃ (p : Addr) (pl : Plan) (top many long : Nat) (x y : Str), vs = [.ref p, .str x, .str y] ∧ PlanAt K H p pl ∧ pl.Ok top many long ∧ top ≤ 10 ∧ many ≤ 10 ∧ long ≤ 50 ∧ x.length ≤ 20 ∧ y.length ≤ 20 ∧
  ∀ H', Same H H' → Q (.bl (toldB pl x.cps.toList y.cps.toList)) H'
/-- a place as a key, as a tuple's items -/
abbrev plK (p : Pl) : List L2.Key := [.inl (p.1 : Int), .inl (p.2.1 : Int), .inl (p.2.2 : Int)]
abbrev plV (p : Pl) : List V := [.int (p.1 : Int), .int (p.2.1 : Int), .int (p.2.2 : Int)]
theorem plK_inj {p q : Pl} (h : plK p = plK q) : p = q := by
  obtain ⟨a, b, c⟩ := p
  obtain ⟨d, e, f⟩ := q
  simp only [List.cons.injEq, Sum.inl.injEq, and_true] at h
  obtain ⟨h1, h2, h3⟩ := h
  have e1 : a = d := by exact_mod_cast h1
  have e2 : b = e := by exact_mod_cast h2
  have e3 : c = f := by exact_mod_cast h3
  rw [e1, e2, e3]
theorem plV_key (p : Pl) : (plK p).map kV = plV p := rfl
/-- the dict of places -/
abbrev plD (F : List Pl) : List (List L2.Key × V) := F.map fun p => (plK p, V.bl true)
theorem plD_get (F : List Pl) (p : Pl) : (valV (plD F) (plK p)).isSome = decide (p ∈ F) := by
  induction F with
  | nil => rfl
  | cons a r ih =>
    by_cases h : a = p
    · subst h
      show (valV ((plK a, V.bl true) :: plD r) (plK a)).isSome = _
      rw [valV_pos rfl]; simp
    · have hk : ¬ (plK a, V.bl true).1 = plK p := fun e => h (plK_inj e)
      show (valV ((plK a, V.bl true) :: plD r) (plK p)).isSome = _
      rw [valV_neg hk, ih]
      rw [decide_eq_decide]
      simp [Ne.symm h]
theorem plD_put {F : List Pl} {p : Pl} (h : p ∉ F) : putK (plD F) (plK p) (V.bl true) = plD (F ++ [p]) := by
  have hn : valV (plD F) (plK p) = none := by
    have := plD_get F p
    rw [decide_eq_false h] at this
    cases e : valV (plD F) (plK p) with
    | none => rfl
    | some v => rw [e] at this; cases this
  rw [putK_new _ hn]
  show List.map _ F ++ _ = List.map _ (F ++ [p])
  rw [List.map_append]; rfl
/-- a row of places, each a tuple -/
structure RowP (H : Hp) (vs : List V) (R : List Pl) : Prop where
  len : vs.length = R.length
  its : ∀ (j : Nat) (p : Pl), R[j]? = some p → ∃ T, vs[j]? = some (.ref T) ∧ H T = some (.tup (plV p))
theorem RowP.keep {H H' : Hp} {vs : List V} {R : List Pl} (h : RowP H vs R) (k : ∀ T xs, H T = some (.tup xs) → H' T = some (.tup xs)) : RowP H' vs R :=
  ⟨h.len, fun j p e => by obtain ⟨T, e1, e2⟩ := h.its j p e; exact ⟨T, e1, k _ _ e2⟩⟩
theorem RowP.snoc {H : Hp} {vs : List V} {R : List Pl} {T : Addr} {p : Pl} (h : RowP H vs R) (e : H T = some (.tup (plV p))) : RowP H (vs ++ [.ref T]) (R ++ [p]) := by
  refine ⟨by rw [List.length_append, List.length_append, h.len]; rfl, fun j q hq => ?_⟩
  by_cases hj : j < R.length
  · rw [List.getElem?_append_left hj] at hq
    obtain ⟨T', e1, e2⟩ := h.its j q hq
    exact ⟨T', by rw [List.getElem?_append_left (by rw [h.len]; exact hj)]; exact e1, e2⟩
  · rw [List.getElem?_append_right (by omega)] at hq
    have : j - R.length = 0 := by
      cases z : j - R.length with
      | zero => rfl
      | succ m => rw [z] at hq; simp at hq
    rw [this] at hq
    obtain rfl : p = q := by simpa using hq
    exact ⟨T, by rw [List.getElem?_append_right (by rw [h.len]; omega), h.len, this]; rfl, e⟩
theorem dq_mv {K : PySem.W.Frag} {H : Hp} {v : V} {m : Mv} (h : Dq K H v (mvD m)) : ∃ a, v = .ref a ∧ SqT K H a [.int (m.s : Int), .str ⟨m.l.toArray⟩, .str ⟨m.r.toArray⟩, .int (m.t : Int)] := by
  cases h with
  | tup hs ha =>
    cases ha with
    | cons h1 ha =>
      cases ha with
      | cons h2 ha =>
        cases ha with
        | cons h3 ha =>
          cases ha with
          | cons h4 ha =>
            cases ha; cases h1; cases h2; cases h3; cases h4
            exact ⟨_, rfl, hs⟩
/-- x[i:i + len(w)] == w -/
theorem cut_fits (z w : Str) (i : Nat) (h : i ≤ z.length) : decide (V.str (cutS z (some (i : Int)) (some ((i : Int) + (w.length : Nat)))) = V.str w) = fitsAt z.cps.toList w.cps.toList i := by
  rw [Bool.eq_iff_iff, decide_eq_true_iff]
  have e1 : ((i : Int) + (w.length : Nat)) = ((i + w.length : Nat) : Int) := by omega
  have e2 : (cutS z (some (i : Int)) (some ((i : Int) + (w.length : Nat)))).cps.toList = (z.cps.toList.drop i).take (min (i + w.length) z.length - i) := by
    rw [e1]
    show (((z.cps.toList.drop (HT.sIx z.length 0 (some (i : Int)))).take (HT.sIx z.length z.length (some ((i + w.length : Nat) : Int)) - HT.sIx z.length 0 (some (i : Int)))).toArray).toList = _
    rw [HT.sIx_nat, HT.sIx_nat, Nat.min_eq_left h]
  simp only [fitsAt, Bool.and_eq_true, decide_eq_true_eq, V.str.injEq, str_inj, e2]
  have lz : z.cps.toList.length = z.length := (str_len z).symm
  have lw : w.cps.toList.length = w.length := (str_len w).symm
  rw [lz, lw]
  constructor
  · intro e
    have hl := congrArg List.length e
    rw [List.length_take, List.length_drop, lz, lw] at hl
    have hle : i + w.length ≤ z.length := by omega
    refine ⟨hle, ?_⟩
    rw [Nat.min_eq_left hle, Nat.add_sub_cancel_left] at e
    exact e
  · rintro ⟨hle, e⟩
    rw [Nat.min_eq_left hle, Nat.add_sub_cancel_left]
    exact e
theorem nexts_snoc {ms : List Mv} {x y : List Nat} {p : Pl} {j : Nat} {m : Mv} (h : ms[j]? = some m) :
    nexts (ms.take (j + 1)) x y p = nexts (ms.take j) x y p ++ (if m.s = p.1 ∧ fitsAt x m.l p.2.1 = true ∧ fitsAt y m.r p.2.2 = true then [(m.t, p.2.1 + m.l.length, p.2.2 + m.r.length)] else []) := by
  have e : ms.take (j + 1) = ms.take j ++ [m] := by rw [List.take_add_one, h]; rfl
  unfold nexts
  rw [e, List.filterMap_append]
  congr 1
  by_cases c : m.s = p.1 ∧ fitsAt x m.l p.2.1 = true ∧ fitsAt y m.r p.2.2 = true
  · rw [if_pos c]; simp [c.1, c.2.1, c.2.2]
  · rw [if_neg c]
    rw [List.filterMap_cons, if_neg c]; rfl
section
variable {P : Program} {w : World} {K : PySem.W.Frag} {mg : Str → Option Value} {base : Heap}
theorem ok_LTold {f : Addr} {fd : FuncData} {k : Nat} (F : Fun K "_law_told" "_law_told" sLTold f fd) (nlen : mg "len" = none) : FnOk P w K mg base CX0 (k + 1) f fd ["_law_w", "_law_x", "_law_y"] (spTold K) := by
  refine F.ok scLTold (fun vs H Q E h => ?_) (fun cdv A outer s H vs Q E hr h => ?_)
  · obtain ⟨p, pl, top, many, long, x, y, rfl, _⟩ := h; rfl
  · obtain ⟨p, pl, top, many, long, x, y, rfl, hP, hO, h1, h2, h3, hx, hy, kQ⟩ := h
    have hu := hr.units
    have hu1 : (A.deeper (envOfC "_law_told" (defScope sLTold) s.heap.objs.size f cdv)).units + 1 < cLine := by omega
    refine ⟨_, (pss_cons (ps_asg (pe_tup (pa_cons pe_dnewT (pa_cons (pe_lc (own := [("_law_k", 6)]) (g := (gName 6)) (by rfl) scLTold.nd (pi_tup (pe_dget hu1 (pv 0) pe_str (fun _ _ => rfl))) (blkOk_by (own := [("_law_k", 6)]) (N := ["_law_w", "_law_x", "_law_y", "_law_found", "_law_waiting", "_law_at", "_law_k", "_law_i", "_law_j", "_law_near", "_law_word_here", "_law_mate", "_law_far"]) (sc := defScope sLTold) (by decide +kernel)) (fun _ _ _ _ _ => (pg_name (i := 6) scLTold.nd rfl (by first | exact Or.inl rfl | exact Or.inr rfl))) (fun _ _ _ _ _ => pts_nil) (fun _ _ _ _ _ => (pe_tup (pa_cons (pv 6) (pa_cons pe_int (pa_cons pe_int pa_nil)))))) (pa_cons pe_int pa_nil)))) (pg_tup (by rfl) (pgs_cons (pg_name (i := 3) scLTold.nd rfl (by first | exact Or.inl rfl | exact Or.inr rfl)) (pgs_cons (pg_name (i := 4) scLTold.nd rfl (by first | exact Or.inl rfl | exact Or.inr rfl)) (pgs_cons (pg_name (i := 5) scLTold.nd rfl (by first | exact Or.inl rfl | exact Or.inr rfl)) pgs_nil)))))
      (pss_cons (ps_while PassesOwn.never (pt_cmpR op_lt (pv 5) (pe_callB call_len (by rfl) nlen boot_len (pa_cons (pv 4) pa_nil)) (nomark _)) (pss_cons (ps_asg (pe_ix ix_list (pv 4) (pv 5) (fun _ _ => rfl)) (pg_tup (by rfl) (pgs_cons (pg_name (i := 6) scLTold.nd rfl (by first | exact Or.inl rfl | exact Or.inr rfl)) (pgs_cons (pg_name (i := 7) scLTold.nd rfl (by first | exact Or.inl rfl | exact Or.inr rfl)) (pgs_cons (pg_name (i := 8) scLTold.nd rfl (by first | exact Or.inl rfl | exact Or.inr rfl)) pgs_nil)))))
      (pss_cons (ps_set (i := 5) scLTold.nd rfl (by first | exact Or.inl rfl | exact Or.inr rfl) (pe_op op_add (pv 5) pe_int))
      (pss_one (ps_if (pt_cmp (pc_dnotin hu1 (pe_tup (pa_cons (pv 6) (pa_cons (pv 7) (pa_cons (pv 8) pa_nil)))) (pv 3))) (pss_cons (ps_dput hu1 (pv 3) (pe_tup (pa_cons (pv 6) (pa_cons (pv 7) (pa_cons (pv 8) pa_nil)))) pe_bl rfl)
      (pss_one (ps_for PassesOwn.never rfl (pi_list (pe_dget hu1 (pv 0) pe_str (fun _ _ => rfl))) (pg_tup (by rfl) (pgs_cons (pg_name (i := 9) scLTold.nd rfl (by first | exact Or.inl rfl | exact Or.inr rfl)) (pgs_cons (pg_name (i := 10) scLTold.nd rfl (by first | exact Or.inl rfl | exact Or.inr rfl)) (pgs_cons (pg_name (i := 11) scLTold.nd rfl (by first | exact Or.inl rfl | exact Or.inr rfl)) (pgs_cons (pg_name (i := 12) scLTold.nd rfl (by first | exact Or.inl rfl | exact Or.inr rfl)) pgs_nil))))) (pss_one (ps_if (PW.pt (pw_and (pt_cmpR op_eq (pv 9) (pv 6) (nomark _)) (pw_and (pt_cmpR op_eq (pe_slice sl_str (pv 1) (po_some (pv 7)) (po_some (pe_op op_add (pv 7) (pe_callB call_len (by rfl) nlen boot_len (pa_cons (pv 10) pa_nil))))) (pv 10) (nomark _)) (pw_and1 (pt_cmpR op_eq (pe_slice sl_str (pv 2) (po_some (pv 8)) (po_some (pe_op op_add (pv 8) (pe_callB call_len (by rfl) nlen boot_len (pa_cons (pv 11) pa_nil))))) (pv 11) (nomark _)))))) (pss_one (ps_expr (pe_bm PySem.F.plainAttrs_list PySem.F.slot_list_append PySem.F.type_list_append mt_append (pv 4) (pa_cons (pe_tup (pa_cons (pv 12) (pa_cons (pe_op op_add (pv 7) (pe_callB call_len (by rfl) nlen boot_len (pa_cons (pv 10) pa_nil))) (pa_cons (pe_op op_add (pv 8) (pe_callB call_len (by rfl) nlen boot_len (pa_cons (pv 11) pa_nil))) pa_nil)))) pa_nil)))) pss_nil))))) pss_nil)))))
      (pss_one (ps_ret (pe_cmpR (op_neN hr.units0) (pe_lc (own := [("_law_k", 6)]) (g := (gName 6)) (by rfl) scLTold.nd (pi_tup (pe_dget hu1 (pv 0) pe_str (fun _ _ => rfl))) (blkOk_by (own := [("_law_k", 6)]) (N := ["_law_w", "_law_x", "_law_y", "_law_found", "_law_waiting", "_law_at", "_law_k", "_law_i", "_law_j", "_law_near", "_law_word_here", "_law_mate", "_law_far"]) (sc := defScope sLTold) (by decide +kernel)) (fun _ _ _ _ _ => (pg_name (i := 6) scLTold.nd rfl (by first | exact Or.inl rfl | exact Or.inr rfl))) (fun _ _ _ _ _ => (pts_one (pt_cmp (pc_din hu1 (pe_tup (pa_cons (pv 6) (pa_cons (pe_callB (show CallR _ _ (rLenK K) from call_len) (by rfl) nlen boot_len (pa_cons (pv 1) pa_nil)) (pa_cons (pe_callB (show CallR _ _ (rLenK K) from call_len) (by rfl) nlen boot_len (pa_cons (pv 2) pa_nil)) pa_nil)))) (pv 3))))) (fun _ _ _ _ _ => (pv 6))) (pe_lst pa_nil) (nomark _)))))), ?_⟩
    obtain ⟨vi, vw, vo, e1, e2, e3, e4⟩ := hP.at'
    have n1 : ¬ ("wide" : Str) = "in" := by decide +kernel
    have n2 : ¬ ("wide" : Str) = "ways" := by decide +kernel
    have n3 : ¬ ("in" : Str) = "ways" := by decide +kernel
    have n4 : ¬ ("wide" : Str) = "out" := by decide +kernel
    have n5 : ¬ ("in" : Str) = "out" := by decide +kernel
    have n6 : ¬ ("ways" : Str) = "out" := by decide +kernel
    have gIn : ∀ {G : Hp}, Same H G → DGet G p (kV (.inr "in")) (some (.ref vi)) := fun sm => by
      have := DGet.k (k := .inr "in") (sm _ _ e1)
      simpa [valV, n1] using this
    have gWays : ∀ {G : Hp}, Same H G → DGet G p (kV (.inr "ways")) (some (.ref vw)) := fun sm => by
      have := DGet.k (k := .inr "ways") (sm _ _ e1)
      simpa [valV, n2, n3] using this
    have gOut : ∀ {G : Hp}, Same H G → DGet G p (kV (.inr "out")) (some (.ref vo)) := fun sm => by
      have := DGet.k (k := .inr "out") (sm _ _ e1)
      simpa [valV, n4, n5, n6] using this
    have three : 3 ≤ sizeLine := by decide
    have hil := asc_len hO.i
    have hol := asc_len hO.o
    have hw2 := hO.w2
    have hnl := hO.n
    obtain ⟨is, his, hia⟩ : ∃ is, SqT K H vi is ∧ DqAll K H is (nats pl.ins) := by
      cases e2 with
      | tup hs ha => exact ⟨_, hs, ha⟩
    obtain ⟨os, hos, hoa⟩ : ∃ os, SqT K H vo os ∧ DqAll K H os (nats pl.outs) := by
      cases e4 with
      | tup hs ha => exact ⟨_, hs, ha⟩
    obtain ⟨ws, hws, hwa⟩ : ∃ ws, SqL K H vw ws ∧ DqAll K H ws (pl.ways.map mvD) := by
      cases e3 with
      | lst hs ha => exact ⟨_, sqOf hs, ha⟩
    have lis : is.length = pl.ins.length := by rw [hia.len, List.length_map]
    have los : os.length = pl.outs.length := by rw [hoa.len, List.length_map]
    have lws : ws.length = pl.ways.length := by rw [hwa.len, List.length_map]
    generalize hX : x.cps.toList = X at kQ
    generalize hY : y.cps.toList = Y at kQ
    have lX : X.length = x.length := by rw [← hX, str_len]
    have lY : Y.length = y.length := by rw [← hY, str_len]
    -- found, waiting, at
    refine fun f nf => ?_
    have s1 : Same H (upd H f (.dT [])) := same_upd nf
    have g1 : upd H f (.dT []) f = some (.dT []) := upd_same
    generalize upd H f (.dT []) = H1 at s1 g1 ⊢
    refine ⟨_, rfl, p, _, rfl, gIn s1, vi, rfl, ⟨is, ex_t' s1 his⟩, fun D nD => ?_⟩
    have nDH : H D = none := s1.free nD
    refine lc_it walk_tup (fun i H' => ∃ vs, H' D = some (.lst vs) ∧ RowP H' vs ((pl.ins.take i).map fun b => ((b, 0, 0) : Pl)) ∧ Same H1 H') ⟨[], upd_same, ⟨rfl, fun j p e => by simp at e⟩, same_upd nD⟩ (fun i H' _ q => by obtain ⟨_, _, _, sm⟩ := q; exact ex_t' (s1.trans sm) his) ?_ ?_
    · rintro i v H2 H3 hi ⟨vs, hD, hR, sm⟩ ⟨rfl, hv⟩
      obtain ⟨d, hd, hdq⟩ := hia.at hv
      rw [List.getElem?_map] at hd
      obtain ⟨b, hb, rfl⟩ : ∃ b, pl.ins[i]? = some b ∧ d = PyData.int (b : Int) := by
        cases e : pl.ins[i]? with
        | none => rw [e] at hd; cases hd
        | some b => rw [e] at hd; exact ⟨b, rfl, (Option.some.inj hd).symm⟩
      cases hdq
      refine ⟨rfl, ?_⟩
      dsimp only [tYes]
      refine iteT ⟨_, rfl, three, fun T nT => ?_⟩
      have lv : vs.length ≤ 100 := by rw [hR.len, List.length_map, List.length_take]; omega
      refine ⟨vs, by rw [upd_ne (ne_of_none hD nT)]; exact hD, lt_sz (by omega), vs ++ [.ref T], upd_same, ?_, fun c o e => by rw [upd_ne (ne_of_none e nD), upd_ne (ne_of_none (sm c o e) nT)]; exact sm c o e⟩
      have e8 : (pl.ins.take (i + 1)).map (fun b => ((b, 0, 0) : Pl)) = (pl.ins.take i).map (fun b => ((b, 0, 0) : Pl)) ++ [(b, 0, 0)] := by
        rw [List.take_add_one, hb, List.map_append]; rfl
      rw [e8]
      refine RowP.snoc (hR.keep fun T' xs e => ?_) ?_
      · have h1 : T' ≠ D := ne_of e hD (fun q => nomatch q)
        rw [upd_ne h1, upd_ne (ne_of_none e nT)]; exact e
      · rw [upd_ne (ne_of_none hD nT).symm, upd_same]; rfl
    rintro H2 ⟨vs0, hD, hR, sm⟩
    rw [List.take_of_length_le (by rw [lis]; exact Nat.le_refl _)] at hR
    refine ⟨three, fun T0 nT0 => ?_⟩
    have s3 : Same H2 (upd H2 T0 (.tup [.ref f, .ref D, .int 0])) := same_upd nT0
    have g3 : upd H2 T0 (.tup [.ref f, .ref D, .int 0]) T0 = some (.tup [.ref f, .ref D, .int 0]) := upd_same
    generalize upd H2 T0 (.tup [.ref f, .ref D, .int 0]) = H3 at s3 g3 ⊢
    refine ⟨T0, _, rfl, stOf g3, rfl, _, _, rfl, _, _, rfl, _, _, rfl, rfl, ?_⟩
    have S3 := s1.trans (sm.trans s3)
    have nfD : f ≠ D := ne_of_none g1 nD
    have hm : ∀ m ∈ pl.ways, m.t < pl.wide := fun m h => (hO.m m h).2.1
    have hb : ∀ b ∈ pl.ins, b < pl.wide := fun b h => hO.i.2 b h
    generalize hB : pl.wide * (X.length + 1) * (Y.length + 1) = B
    have hB2 : B ≤ 4410 := by
      rw [← hB]
      have a1 : pl.wide ≤ 10 := by omega
      have a2 : X.length + 1 ≤ 21 := by omega
      have a3 : Y.length + 1 ≤ 21 := by omega
      exact Nat.mul_le_mul (Nat.mul_le_mul a1 a2) a3
    have boxed : ∀ {Fs : List Pl} {R : List Pl} {i : Nat}, Going2 pl.ins pl.ways X Y Fs R i → Fs.length ≤ B := fun g => by
      rw [← hB]
      exact box_len g.nd fun q m => reach_box hb hm (g.re q (g.sf q m))
    have nxl : ∀ (q : Pl) (ms : List Mv), (nexts ms X Y q).length ≤ ms.length := fun q ms => List.length_filterMap_le _ _
    have g0 : Going2 pl.ins pl.ways X Y [] (pl.ins.map fun b => ((b, 0, 0) : Pl)) 0 := by
      refine ⟨List.nodup_nil, Nat.zero_le _, fun q m => ?_, fun _ m => (List.not_mem_nil m).elim, fun b m => List.mem_map.mpr ⟨b, m, rfl⟩, fun _ m => (List.not_mem_nil m).elim, fun j q h => absurd h (Nat.not_lt_zero _)⟩
      obtain ⟨b, hbm, rfl⟩ := List.mem_map.mp m
      exact .base hbm
    have nDf : D ≠ f := nfD.symm
    refine ⟨fun m σ H' => ∃ (Fs R : List Pl) (i : Nat) (vs : List V) (y6 y7 y8 y9 y10 y11 y12 : Option V), σ = [some (.ref p), some (.str x), some (.str y), some (.ref f), some (.ref D), some (.int (i : Int)), y6, y7, y8, y9, y10, y11, y12] ∧ Same H H' ∧ H' f = some (.dT (plD Fs)) ∧ H' D = some (.lst vs) ∧ RowP H' vs R ∧ Going2 pl.ins pl.ways X Y Fs R i ∧ R.length ≤ 10 + 10 * Fs.length ∧ m = (B - Fs.length) * 11 + (R.length - i), ⟨_, [], pl.ins.map (fun b => ((b, 0, 0) : Pl)), 0, vs0, _, _, _, _, _, _, _, rfl, S3, (sm.trans s3) _ _ g1, s3 _ _ hD, hR.keep (fun T xs e => s3 _ _ e), g0, by rw [List.length_map]; omega, rfl⟩, ?_⟩
    rintro m σ H4 ⟨Fs, R, i, vs, y6, y7, y8, y9, y10, y11, y12, rfl, S4, gf, gD, hR4, G4, hRl, hmm⟩
    have hFB := boxed G4
    have lvs : vs.length = R.length := hR4.len
    refine ⟨_, rfl, .ref D, rfl, .ref D, (vs.length : Nat), rfl, .inl ⟨_, sqOf gD, rfl⟩, _, _, rfl, rfl, _, rfl, ?_⟩
    by_cases hlt : i < R.length
    · rw [decide_eq_true (by rw [lvs]; exact_mod_cast hlt)]
      refine ⟨fun σ' H' => ∃ m' < m, ∃ (Fs R : List Pl) (i : Nat) (vs : List V) (y6 y7 y8 y9 y10 y11 y12 : Option V), σ' = [some (.ref p), some (.str x), some (.str y), some (.ref f), some (.ref D), some (.int (i : Int)), y6, y7, y8, y9, y10, y11, y12] ∧ Same H H' ∧ H' f = some (.dT (plD Fs)) ∧ H' D = some (.lst vs) ∧ RowP H' vs R ∧ Going2 pl.ins pl.ways X Y Fs R i ∧ R.length ≤ 10 + 10 * Fs.length ∧ m' = (B - Fs.length) * 11 + (R.length - i), fun σ' H' hN => by obtain ⟨m', h1, h2⟩ := hN; exact ⟨m', h1, h2⟩, ?_⟩
      obtain ⟨q, hq⟩ : ∃ q, R[i]? = some q := ⟨_, List.getElem?_eq_getElem hlt⟩
      obtain ⟨T, hT1, hT2⟩ := hR4.its i q hq
      refine ⟨.ref D, rfl, _, rfl, D, vs, (i : Int), .ref T, rfl, rfl, sqOf gD, atI_nat hT1, T, _, rfl, stOf hT2, rfl, _, _, rfl, _, _, rfl, _, _, rfl, rfl, ?_⟩
      refine ⟨_, rfl, _, _, rfl, rfl, ?_⟩
      refine ⟨_, rfl, _, rfl, _, rfl, three, fun T1 nT1 => ?_⟩
      have s5 : Same H4 (upd H4 T1 (.tup (plV q))) := same_upd nT1
      have g5 : upd H4 T1 (.tup (plV q)) T1 = some (.tup (plV q)) := upd_same
      generalize upd H4 T1 (.tup (plV q)) = H5 at s5 g5 ⊢
      refine ⟨.ref f, rfl, f, _, rfl, DGet.t (k := plK q) (s5 _ _ gf) g5, _, rfl, ?_⟩
      rw [plD_get]
      have boxq : InBox pl.wide X Y q := reach_box hb hm (G4.re q (List.mem_of_getElem? hq))
      by_cases hmem : q ∈ Fs
      · rw [decide_eq_true hmem]
        exact iteF ⟨(B - Fs.length) * 11 + (R.length - (i + 1)), by omega, Fs, R, i + 1, vs, _, _, _, _, _, _, _, rfl, S4.trans s5, s5 _ _ gf, s5 _ _ gD, hR4.keep (fun T xs e => s5 _ _ e), G4.seen hq hmem, hRl, rfl⟩
      · rw [decide_eq_false hmem]
        have Gn := G4.new hq hmem
        have hFB2 := boxed Gn
        rw [List.length_append, List.length_singleton] at hFB2
        refine iteT ⟨.ref f, rfl, _, rfl, _, rfl, _, rfl, three, fun T2 nT2 => ?_⟩
        have s6 : Same H5 (upd H5 T2 (.tup (plV q))) := same_upd nT2
        have g6 : upd H5 T2 (.tup (plV q)) T2 = some (.tup (plV q)) := upd_same
        generalize upd H5 T2 (.tup (plV q)) = H6 at s6 g6 ⊢
        have gf6 := s6 _ _ (s5 _ _ gf)
        have gD6 := s6 _ _ (s5 _ _ gD)
        refine ⟨f, _, rfl, DPut.t (k := plK q) gf6 g6 (lt_sz (by rw [List.length_map]; omega)), ?_⟩
        rw [plD_put hmem]
        have S6 := S4.trans (s5.trans s6)
        have S7 : Same H (upd H6 f (.dT (plD (Fs ++ [q])))) := fun c o e => by rw [upd_ne (ne_of_none e nf)]; exact S6 c o e
        have g7 : upd H6 f (.dT (plD (Fs ++ [q]))) f = some (.dT (plD (Fs ++ [q]))) := upd_same
        have gD7 : upd H6 f (.dT (plD (Fs ++ [q]))) D = some (.lst vs) := by rw [upd_ne nDf]; exact gD6
        have hR7 : RowP (upd H6 f (.dT (plD (Fs ++ [q])))) vs R := hR4.keep fun T xs e => by
          have e6 := s6 _ _ (s5 _ _ e)
          have h1 : T ≠ f := ne_of e6 gf6 (fun q => nomatch q)
          rw [upd_ne h1]; exact e6
        generalize upd H6 f (.dT (plD (Fs ++ [q]))) = H7 at S7 g7 gD7 hR7 ⊢
        refine ⟨_, rfl, p, _, rfl, gWays S7, vw, rfl, ⟨ws, S7.seq hws⟩, ?_⟩
        refine for_it walk_list (fun j σ H' => ∃ (vs' : List V) (y9 y10 y11 y12 : Option V), σ = [some (.ref p), some (.str x), some (.str y), some (.ref f), some (.ref D), some (.int ((i + 1 : Nat) : Int)), some (.int (q.1 : Int)), some (.int (q.2.1 : Int)), some (.int (q.2.2 : Int)), y9, y10, y11, y12] ∧ Same H H' ∧ H' f = some (.dT (plD (Fs ++ [q]))) ∧ H' D = some (.lst vs') ∧ RowP H' vs' (R ++ nexts (pl.ways.take j) X Y q))
          ⟨vs, _, _, _, _, rfl, S7, g7, gD7, by rw [List.take_zero]; show RowP H7 vs (R ++ []); rw [List.append_nil]; exact hR7⟩ (fun j σ H' _ z => by obtain ⟨_, _, _, _, _, _, sm, _⟩ := z; exact sm.seq hws) ?_ ?_
        · rintro j v σ H9 H8 hj ⟨vs', y9, y10, y11, y12, rfl, S8, gf8, gD8, hR8⟩ ⟨rfl, hv⟩
          obtain ⟨d, hd, hdq⟩ := hwa.at hv
          rw [List.getElem?_map] at hd
          obtain ⟨mv, hmv, rfl⟩ : ∃ mv, pl.ways[j]? = some mv ∧ d = mvD mv := by
            cases e : pl.ways[j]? with
            | none => rw [e] at hd; cases hd
            | some b => rw [e] at hd; exact ⟨b, rfl, (Option.some.inj hd).symm⟩
          obtain ⟨a, rfl, hab⟩ := dq_mv (hdq.up S8)
          obtain ⟨_, _, hl1, hl2, _, _⟩ := hO.m mv (List.mem_of_getElem? hmv)
          have lnx : (nexts (pl.ways.take j) X Y q).length ≤ 10 := Nat.le_trans (nxl q _) (by rw [List.length_take]; omega)
          have lv8 : vs'.length ≤ 1000000 := by rw [hR8.len, List.length_append]; omega
          refine ⟨a, _, rfl, hab, rfl, _, _, rfl, _, _, rfl, _, _, rfl, _, _, rfl, rfl, ?_⟩
          have keepR : ¬ (mv.s = q.1 ∧ fitsAt X mv.l q.2.1 = true ∧ fitsAt Y mv.r q.2.2 = true) → ∀ (y9 y10 y11 y12 : Option V), ∃ (vs' : List V) (z9 z10 z11 z12 : Option V), [some (V.ref p), some (.str x), some (.str y), some (.ref f), some (.ref D), some (.int ((i + 1 : Nat) : Int)), some (.int (q.1 : Int)), some (.int (q.2.1 : Int)), some (.int (q.2.2 : Int)), y9, y10, y11, y12] = [some (V.ref p), some (.str x), some (.str y), some (.ref f), some (.ref D), some (.int ((i + 1 : Nat) : Int)), some (.int (q.1 : Int)), some (.int (q.2.1 : Int)), some (.int (q.2.2 : Int)), z9, z10, z11, z12] ∧ Same H H8 ∧ H8 f = some (.dT (plD (Fs ++ [q]))) ∧ H8 D = some (.lst vs') ∧ RowP H8 vs' (R ++ nexts (pl.ways.take (j + 1)) X Y q) := fun hno y9 y10 y11 y12 =>
            ⟨vs', _, _, _, _, rfl, S8, gf8, gD8, by rw [nexts_snoc hmv, if_neg hno, List.append_nil]; exact hR8⟩
          have d1 : decide (V.int (mv.s : Int) = V.int (q.1 : Int)) = decide (mv.s = q.1) := by
            rw [decide_eq_decide, V.int.injEq]; exact Int.ofNat_inj
          have w1 : (⟨mv.l.toArray⟩ : Str).length = mv.l.length := by rw [str_len]
          have w2 : (⟨mv.r.toArray⟩ : Str).length = mv.r.length := by rw [str_len]
          have c1 := cut_fits x ⟨mv.l.toArray⟩ q.2.1 (by rw [← lX]; exact boxq.2.1)
          have c2 := cut_fits y ⟨mv.r.toArray⟩ q.2.2 (by rw [← lY]; exact boxq.2.2)
          rw [hX] at c1
          rw [hY] at c2
          refine ⟨_, rfl, _, rfl, rfl, _, rfl, ?_⟩
          rw [d1]
          by_cases k1 : mv.s = q.1
          · rw [decide_eq_true k1]
            refine iteT ⟨_, rfl, _, rfl, _, rfl, _, rfl, _, rfl, .str ⟨mv.l.toArray⟩, ((⟨mv.l.toArray⟩ : Str).length : Nat), rfl, ⟨len_sz (by omega), rfl⟩, _, _, rfl, rfl, _, rfl, x, rfl, len_sz (by omega), _, rfl, rfl, _, rfl, ?_⟩
            rw [c1]
            cases k2 : fitsAt X mv.l q.2.1 with
            | false =>
              refine iteF (iteF (keepR (fun z => by rw [k2] at z; cases z.2.1) _ _ _ _))
            | true =>
              refine iteT ⟨_, rfl, _, rfl, _, rfl, _, rfl, _, rfl, .str ⟨mv.r.toArray⟩, ((⟨mv.r.toArray⟩ : Str).length : Nat), rfl, ⟨len_sz (by omega), rfl⟩, _, _, rfl, rfl, _, rfl, y, rfl, len_sz (by omega), _, rfl, rfl, _, rfl, ?_⟩
              rw [c2]
              cases k3 : fitsAt Y mv.r q.2.2 with
              | false => exact iteF (keepR (fun z => by rw [k3] at z; cases z.2.2) _ _ _ _)
              | true =>
                refine iteT ⟨.ref D, rfl, .inl ⟨rfl, _, sqOf gD8⟩, _, rfl, _, rfl, _, rfl, .str ⟨mv.l.toArray⟩, ((⟨mv.l.toArray⟩ : Str).length : Nat), rfl, ⟨len_sz (by omega), rfl⟩, _, _, rfl, rfl, _, rfl, _, rfl, .str ⟨mv.r.toArray⟩, ((⟨mv.r.toArray⟩ : Str).length : Nat), rfl, ⟨len_sz (by omega), rfl⟩, _, _, rfl, rfl, three, fun T3 nT3 => ?_⟩
                have s9 : Same H8 (upd H8 T3 (.tup (plV (mv.t, q.2.1 + mv.l.length, q.2.2 + mv.r.length)))) := same_upd nT3
                have g9 : upd H8 T3 (.tup (plV (mv.t, q.2.1 + mv.l.length, q.2.2 + mv.r.length))) T3 = some (.tup (plV (mv.t, q.2.1 + mv.l.length, q.2.2 + mv.r.length))) := upd_same
                have eT : ([.int (mv.t : Int), .int ((q.2.1 : Int) + ((⟨mv.l.toArray⟩ : Str).length : Nat)), .int ((q.2.2 : Int) + ((⟨mv.r.toArray⟩ : Str).length : Nat))] : List V) = plV (mv.t, q.2.1 + mv.l.length, q.2.2 + mv.r.length) := by
                  rw [w1, w2]
                  simp [plV]
                refine ⟨D, vs', _, rfl, rfl, (by rw [upd_ne (ne_of_none gD8 nT3)]; exact gD8), lt_sz lv8, vs' ++ [.ref T3], _, _, _, _, rfl, fun c o e => by rw [upd_ne (ne_of_none e nDH), upd_ne (ne_of_none (S8 c o e) nT3)]; exact S8 c o e, (by rw [upd_ne nfD, upd_ne (ne_of_none gf8 nT3)]; exact gf8), upd_same, ?_⟩
                rw [nexts_snoc hmv, if_pos ⟨k1, k2, k3⟩, ← List.append_assoc]
                refine RowP.snoc (hR8.keep fun T' xs e => ?_) ?_
                · have h1 : T' ≠ D := ne_of e gD8 (fun q => nomatch q)
                  rw [upd_ne h1, upd_ne (ne_of_none e nT3)]; exact e
                · rw [upd_ne (ne_of_none gD8 nT3).symm, upd_same]
                  exact congrArg (fun z => some (HO.tup z)) eT
          · rw [decide_eq_false k1]
            exact iteF (keepR (fun z => k1 z.1) _ _ _ _)
        · rintro σ H8 ⟨vs', y9, y10, y11, y12, rfl, S8, gf8, gD8, hR8⟩
          rw [lws, List.take_of_length_le (Nat.le_refl _)] at hR8
          have lnx : (nexts pl.ways X Y q).length ≤ 10 := Nat.le_trans (nxl q _) (by omega)
          refine ⟨(B - (Fs ++ [q]).length) * 11 + ((R ++ nexts pl.ways X Y q).length - (i + 1)), by simp only [List.length_append, List.length_singleton]; omega, Fs ++ [q], R ++ nexts pl.ways X Y q, i + 1, vs', _, _, _, _, _, _, _, rfl, S8, gf8, gD8, hR8, Gn, by simp only [List.length_append, List.length_singleton]; omega, rfl⟩
    · rw [decide_eq_false (by rw [lvs]; exact_mod_cast hlt)]
      obtain rfl : i = R.length := by have := G4.le; omega
      have done := G4.done
      refine ⟨_, rfl, p, _, rfl, gOut S4, vo, rfl, ⟨os, ex_t' S4 hos⟩, fun D3 nD3 => ?_⟩
      refine lc_it walk_tup (LcP D3 (fun _ H' => Same H4 H') (fun j v => ∃ e : Nat, pl.outs[j]? = some e ∧ v = if ((e, X.length, Y.length) : Pl) ∈ Fs then some (V.int (e : Int)) else none)) (LcP.start (same_upd nD3)) (fun i H' _ z => by obtain ⟨_, _, _, _, sm⟩ := z; exact ex_t' (S4.trans sm) hos) ?_ ?_
      · rintro j v H9 H8 hj ⟨zs, hl, hR3, hD3, sm3⟩ ⟨rfl, hv⟩
        obtain ⟨d, hd, hdq⟩ := hoa.at hv
        rw [List.getElem?_map] at hd
        obtain ⟨e, he, rfl⟩ : ∃ e, pl.outs[j]? = some e ∧ d = PyData.int (e : Int) := by
          cases e : pl.outs[j]? with
          | none => rw [e] at hd; cases hd
          | some b => rw [e] at hd; exact ⟨b, rfl, (Option.some.inj hd).symm⟩
        cases hdq
        refine ⟨rfl, _, rfl, _, rfl, .str x, (x.length : Nat), rfl, ⟨len_sz (by omega), rfl⟩, _, rfl, .str y, (y.length : Nat), rfl, ⟨len_sz (by omega), rfl⟩, three, fun T nT => ?_⟩
        have eT : ([.int (e : Int), .int (x.length : Nat), .int (y.length : Nat)] : List V) = plV (e, X.length, Y.length) := by
          simp only [plV, lX, lY]
        have s9 : Same H8 (upd H8 T (.tup (plV (e, X.length, Y.length)))) := same_upd nT
        have g9 : upd H8 T (.tup (plV (e, X.length, Y.length))) T = some (.tup (plV (e, X.length, Y.length))) := upd_same
        rw [← eT] at s9
        rw [← eT] at g9
        generalize upd H8 T (.tup [.int (e : Int), .int (x.length : Nat), .int (y.length : Nat)]) = H10 at s9 g9 ⊢
        rw [eT] at g9
        refine ⟨.ref f, rfl, f, _, rfl, DGet.t (k := plK (e, X.length, Y.length)) (s9 _ _ (sm3 _ _ gf)) g9, _, rfl, ?_⟩
        rw [plD_get]
        have sm10 := sm3.trans s9
        have hl2 : j < 1000000 := by omega
        by_cases hm2 : ((e, X.length, Y.length) : Pl) ∈ Fs
        · rw [decide_eq_true hm2]
          exact iteT ⟨_, rfl, lcp_some hl hR3 (s9 _ _ hD3) hl2 ⟨e, he, by rw [if_pos hm2]⟩ fun b o q => by rw [upd_ne (ne_of_none q nD3)]; exact sm10 b o q⟩
        · rw [decide_eq_false hm2]
          exact iteF (lcp_none hl hR3 (s9 _ _ hD3) ⟨e, he, by rw [if_neg hm2]⟩ sm10)
      · rintro H8 ⟨zs, hl, hR3, hD3, sm3⟩
        have e9 := rows_map (f := fun e : Nat => if ((e, X.length, Y.length) : Pl) ∈ Fs then some (V.int (e : Int)) else none) (l := pl.outs) (by rw [hl, los]) hR3
        refine ⟨Nat.zero_le _, fun r nr => ?_⟩
        refine ⟨D3, r, _, rfl, rfl, sqOf (by rw [upd_ne (ne_of_none hD3 nr)]; exact hD3), sqOf upd_same, ?_⟩
        have ev : (!decide (zs.filterMap id = [])) = toldB pl X Y := by
          rw [Bool.eq_iff_iff]
          unfold toldB
          rw [Bool.not_eq_true', decide_eq_false_iff_not, @decide_eq_true_iff _ (Classical.propDecidable _), e9, List.filterMap_eq_nil_iff]
          constructor
          · intro h
            apply Classical.byContradiction
            intro hn
            refine h fun v hv => ?_
            obtain ⟨e, he, rfl⟩ := List.mem_map.mp hv
            have hm3 : ((e, X.length, Y.length) : Pl) ∉ Fs := fun m => hn ⟨e, he, (done _).mp m⟩
            rw [if_neg hm3]; rfl
          · rintro ⟨e, he, hre⟩ h
            have := h _ (List.mem_map.mpr ⟨e, he, rfl⟩)
            rw [if_pos ((done _).mpr hre)] at this
            cases this
        rw [ev]
        exact kQ _ (S4.trans (sm3.trans (same_upd nr)))

end
end KP
namespace KP
open PySem PySem.Spec PyProof.Rows L2 EL
open Evl (pss_cut)
abbrev sMovesByState : Stmt := topS 31
theorem scMovesByState : FnScope ["moves", "leaving", "move"] ["moves"] (defScope sMovesByState) := ⟨rfl, rfl, rfl, by decide +kernel, rfl, by decide +kernel, by decide +kernel⟩
/-- the moves of a state -/
def ofSt (ms : List Mv) (s : Nat) : List Mv := ms.filter fun m => decide (m.s = s)
/-- a dict of lists: the moves by the states that they leave; all that stands in H is older -/
structure ByS (K : PySem.W.Frag) (H H' : Hp) (d : Addr) (ms : List Mv) : Prop where
  at' : ∃ kvs : List (L2.Key × V), H' d = some (.dK kvs) ∧ kvs.length ≤ ms.length ∧
    (∀ s : Nat, valV kvs (.inl (s : Int)) = none → ofSt ms s = []) ∧
    (∀ (s : Nat) (v : V), valV kvs (.inl (s : Int)) = some v → ∃ l vs, v = .ref l ∧ H l = none ∧ H' l = some (.lst vs) ∧ DqAll K H vs ((ofSt ms s).map mvD)) ∧
    ∀ (s t : Nat) (l : Addr), valV kvs (.inl (s : Int)) = some (.ref l) → valV kvs (.inl (t : Int)) = some (.ref l) → s = t
def spByState (K : PySem.W.Frag) : Sp := fun vs H Q _ => ∃ (v : V) (ms : List Mv), vs = [v] ∧ Dq K H v (.tuple (ms.map mvD)) ∧ ms.length ≤ 1000 ∧ ∀ d H', Same H H' → H d = none → ByS K H H' d ms → Q (.ref d) H'
theorem ofSt_snoc (ms : List Mv) (m : Mv) (s : Nat) : ofSt (ms ++ [m]) s = ofSt ms s ++ (if m.s = s then [m] else []) := by
  unfold ofSt
  rw [List.filter_append]
  congr 1
  by_cases h : m.s = s
  · rw [if_pos h, List.filter_cons_of_pos (by simpa using h)]; rfl
  · rw [if_neg h, List.filter_cons_of_neg (by simpa using h)]; rfl
theorem key_inj {s t : Nat} : (Sum.inl (s : Int) : L2.Key) = Sum.inl (t : Int) ↔ s = t := by
  rw [Sum.inl.injEq]; exact Int.ofNat_inj
section
variable {P : Program} {w : World} {K : PySem.W.Frag} {mg : Str → Option Value} {base : Heap}
theorem ok_MovesByState {f : Addr} {fd : FuncData} {k : Nat} (F : Fun K "moves_by_state" "moves_by_state" sMovesByState f fd) : FnOk P w K mg base CX0 (k + 1) f fd ["moves"] (spByState K) := by
  refine F.ok scMovesByState (fun vs H Q E h => ?_) (fun cdv A outer s H vs Q E hr h => ?_)
  · obtain ⟨v, ms, rfl, _⟩ := h; rfl
  · obtain ⟨v, ms, rfl, hd, hn, kQ⟩ := h
    have hu := hr.units
    refine ⟨_, (pss_cons (ps_set (i := 1) scMovesByState.nd rfl (by first | exact Or.inl rfl | exact Or.inr rfl) pe_dnewK)
      (pss_cons (ps_for PassesOwn.never rfl (pi_tup (pv 0)) (pg_name (i := 2) scMovesByState.nd rfl (by first | exact Or.inl rfl | exact Or.inr rfl)) (pss_one (ps_expr (pe_bm PySem.F.plainAttrs_list PySem.F.slot_list_append PySem.F.type_list_append mt_append (pe_dsetd (pv 1) (pe_ix ix_tup (pv 2) pe_int (fun _ _ => rfl)) (pe_lst pa_nil) ⟨by rfl, by rfl, by rfl, by rfl⟩) (pa_cons (pv 2) pa_nil)))))
      (pss_one (ps_ret (pv 1))))), ?_⟩
    cases hd with
    | tup hs ha =>
    rename_i a xs
    have lxs : xs.length = ms.length := by rw [ha.len, List.length_map]
    refine fun d nd => ?_
    have s1 : Same H (upd H d (.dK [])) := same_upd nd
    have g1 : upd H d (.dK []) d = some (.dK []) := upd_same
    generalize upd H d (.dK []) = H1 at s1 g1 ⊢
    refine ⟨.ref a, rfl, a, rfl, ⟨xs, ex_t' s1 hs⟩, ?_⟩
    refine for_it walk_tup (fun i σ H' => ∃ y : Option V, σ = [some (.ref a), some (.ref d), y] ∧ Same H H' ∧ ByS K H H' d (ms.take i)) ⟨none, rfl, s1, ⟨[], g1, Nat.zero_le _, fun s _ => rfl, fun s v e => (by rw [valV_nil] at e; cases e), fun s t l e => (by rw [valV_nil] at e; cases e)⟩⟩ (fun i σ H' _ z => by obtain ⟨_, _, sm, _⟩ := z; exact ex_t' sm hs) ?_ ?_
    · rintro i v σ H3 H2 hi ⟨y, rfl, sm, hB⟩ ⟨rfl, hv⟩
      obtain ⟨kvs, gd, hl, hno, hyes, hinj⟩ := hB.at'
      obtain ⟨e, he, hdq⟩ := ha.at hv
      rw [List.getElem?_map] at he
      obtain ⟨mv, hmv, rfl⟩ : ∃ mv, ms[i]? = some mv ∧ e = mvD mv := by
        cases q : ms[i]? with
        | none => rw [q] at he; cases he
        | some b => rw [q] at he; exact ⟨b, rfl, (Option.some.inj he).symm⟩
      obtain ⟨b, rfl, hb⟩ := dq_mv hdq
      have tk : ms.take (i + 1) = ms.take i ++ [mv] := by rw [List.take_add_one, hmv]; rfl
      have ltk : (ms.take i).length ≤ 1000 := by rw [List.length_take]; omega
      refine ⟨_, rfl, d, rfl, .inl ⟨kvs, .inl gd⟩, .ref b, rfl, b, _, 0, .int (mv.s : Int), rfl, rfl, ex_t' sm hb, rfl, Nat.zero_le _, fun z nz => ?_⟩
      have nzH : H z = none := sm.free nz
      have s3 : Same H2 (upd H2 z (.lst [])) := same_upd nz
      have g3 : upd H2 z (.lst []) z = some (.lst []) := upd_same
      generalize upd H2 z (.lst []) = H3 at s3 g3 ⊢
      have gd3 := s3 _ _ gd
      refine ⟨kvs, .inl (mv.s : Int), gd3, rfl, lt_sz (by omega), fun v hv => ?_, fun hv => ?_⟩
      · obtain ⟨l, vs, rfl, nl, gl, dl⟩ := hyes mv.s v hv
        have gl3 := s3 _ _ gl
        have lvs : vs.length ≤ 1000 := by
          rw [dl.len, List.length_map]
          exact Nat.le_trans (List.length_filter_le _ _) ltk
        refine ⟨.inl ⟨rfl, _, sqOf gl3⟩, _, rfl, l, vs, _, rfl, rfl, gl3, lt_sz (by omega), ?_⟩
        have ld : l ≠ d := ne_of gl3 gd3 (fun q => nomatch q)
        refine ⟨_, rfl, fun c o e => by rw [upd_ne (ne_of_none e nl)]; exact s3 _ _ (sm c o e), ?_⟩
        rw [tk]
        refine ⟨kvs, by rw [upd_ne ld.symm]; exact gd3, by rw [List.length_append]; omega, fun s hs' => ?_, fun s w hw => ?_, hinj⟩
        · have hne : mv.s ≠ s := fun e => by subst e; rw [hv] at hs'; cases hs'
          rw [ofSt_snoc, if_neg hne, List.append_nil]; exact hno s hs'
        · obtain ⟨l', vs', rfl, nl', gl', dl'⟩ := hyes s w hw
          by_cases es : mv.s = s
          · subst es
            rw [hv] at hw
            have : l = l' := by cases hw; rfl
            subst this
            have : vs = vs' := by rw [gl] at gl'; cases gl'; rfl
            subst this
            refine ⟨l, vs ++ [.ref b], rfl, nl, upd_same, ?_⟩
            rw [ofSt_snoc, if_pos rfl, List.map_append]
            exact DqAll.snoc dl hdq
          · have hll : l' ≠ l := fun e => by subst e; exact es (hinj mv.s s l' hv hw)
            refine ⟨l', vs', rfl, nl', by rw [upd_ne hll]; exact s3 _ _ gl', ?_⟩
            rw [ofSt_snoc, if_neg es, List.append_nil]; exact dl'
      · have zd : z ≠ d := ne_of g3 gd3 (fun q => nomatch q)
        have gz : upd H3 d (.dK (putK kvs (.inl (mv.s : Int)) (.ref z))) z = some (.lst []) := by rw [upd_ne zd]; exact g3
        refine ⟨.inl ⟨rfl, _, sqOf gz⟩, _, rfl, z, [], _, rfl, rfl, gz, lt_sz (by show 0 ≤ _; omega), ?_⟩
        refine ⟨_, rfl, fun c o e => by rw [upd_ne (ne_of_none e nzH), upd_ne (ne_of_none e nd)]; exact s3 _ _ (sm c o e), ?_⟩
        rw [tk]
        refine ⟨putK kvs (.inl (mv.s : Int)) (.ref z), by rw [upd_ne zd.symm, upd_same], by rw [putK_new _ hv, List.length_append, List.length_append]; simp only [List.length_singleton]; omega, fun s hs' => ?_, fun s w hw => ?_, fun s t l e1 e2 => ?_⟩
        · rw [valV_put] at hs'
          by_cases es : (Sum.inl (s : Int) : L2.Key) = .inl (mv.s : Int)
          · rw [if_pos es] at hs'; cases hs'
          · rw [if_neg es] at hs'
            have hne : mv.s ≠ s := fun e => es (key_inj.mpr e.symm)
            rw [ofSt_snoc, if_neg hne, List.append_nil]; exact hno s hs'
        · rw [valV_put] at hw
          by_cases es : (Sum.inl (s : Int) : L2.Key) = .inl (mv.s : Int)
          · rw [if_pos es] at hw
            cases hw
            have e2 := key_inj.mp es
            subst e2
            refine ⟨z, [.ref b], rfl, nzH, upd_same, ?_⟩
            rw [ofSt_snoc, if_pos rfl, hno mv.s hv]
            exact .cons hdq .nil
          · rw [if_neg es] at hw
            obtain ⟨l', vs', rfl, nl', gl', dl'⟩ := hyes s w hw
            have hlz : l' ≠ z := ne_of_none gl' nz
            have hld : l' ≠ d := ne_of gl' gd (fun q => nomatch q)
            refine ⟨l', vs', rfl, nl', by rw [upd_ne hlz, upd_ne hld]; exact s3 _ _ gl', ?_⟩
            have hne : mv.s ≠ s := fun e => es (key_inj.mpr e.symm)
            rw [ofSt_snoc, if_neg hne, List.append_nil]; exact dl'
        · rw [valV_put] at e1 e2
          have old : ∀ u : Nat, valV kvs (.inl (u : Int)) = some (.ref z) → False := fun u e => by
            obtain ⟨l', vs', e', _, gl', _⟩ := hyes u _ e
            cases e'
            rw [nz] at gl'; cases gl'
          by_cases es : (Sum.inl (s : Int) : L2.Key) = .inl (mv.s : Int)
          · rw [if_pos es] at e1
            cases e1
            by_cases et : (Sum.inl (t : Int) : L2.Key) = .inl (mv.s : Int)
            · exact key_inj.mp (es.trans et.symm)
            · rw [if_neg et] at e2; exact (old t e2).elim
          · rw [if_neg es] at e1
            by_cases et : (Sum.inl (t : Int) : L2.Key) = .inl (mv.s : Int)
            · rw [if_pos et] at e2
              cases e2
              exact (old s e1).elim
            · rw [if_neg et] at e2
              exact hinj s t l e1 e2
    · rintro σ H2 ⟨y, rfl, sm, hB⟩
      rw [lxs, List.take_of_length_le (Nat.le_refl _)] at hB
      exact ⟨_, rfl, kQ d H2 sm nd hB⟩

end
end KP
/-! {x: True for x in e}, e a list of tuples: a dict whose keys are these tuples. -/
namespace EL
open PySem PySem.Spec PyProof.Rows L2
theorem upd_upd {H : Hp} {a : Addr} {x y : HO} : L2.upd (L2.upd H a x) a y = L2.upd H a y := by
  funext b
  by_cases h : b = a
  · subst h; rw [upd_same, upd_same]
  · rw [upd_ne h, upd_ne h, upd_ne h]
/-- the dict of the first keys -/
def dT1 (ks : List (List L2.Key)) : List (List L2.Key × V) := ks.foldl (fun acc k => putK acc k (.bl true)) []
theorem dT1_snoc (ks : List (List L2.Key)) (k : List L2.Key) : dT1 (ks ++ [k]) = putK (dT1 ks) k (.bl true) := by
  unfold dT1; rw [List.foldl_append]; rfl
theorem dT1_len (ks : List (List L2.Key)) : (dT1 ks).length ≤ ks.length := by
  have key : ∀ (ks : List (List L2.Key)) (acc : List (List L2.Key × V)), (ks.foldl (fun acc k => putK acc k (.bl true)) acc).length ≤ acc.length + ks.length := by
    intro ks
    induction ks with
    | nil => intro acc; exact Nat.le_refl _
    | cons k r ih =>
      intro acc
      have h1 := ih (putK acc k (.bl true))
      have h2 := length_putK acc k (V.bl true)
      simp only [List.foldl_cons, List.length_cons]; omega
  have := key ks []
  simpa [dT1] using this
def tDcT (K : PySem.W.Frag) (te : TE) : TE := fun σ H Q => te σ H fun v H1 => ∃ (l : Addr) (vs : List V) (ks : List (List L2.Key)), v = .ref l ∧ SqL K H1 l vs ∧ vs.length = ks.length ∧ vs.length ≤ 1000000 ∧
  (∀ (j : Nat) (k : List L2.Key), ks[j]? = some k → ∃ T, vs[j]? = some (.ref T) ∧ H1 T = some (.tup (k.map kV))) ∧ ∀ D, H1 D = none → Q (.ref D) (L2.upd H1 D (.dT (dT1 ks)))
section
variable {X : Cx} {e : Expr} {te : TE} {x : Str} {scope : Scope} {p0 p1 p2 pos : Pos} {kk : Nat}
theorem dct_goes {pins : List (Addr × Obj)} {σ : L2.St} {H1 : Hp} {s1 : Shared} {l : Addr} {vs : List V} {ks : List (List L2.Key)} {use : Option (Value → Sem Unit)} {Qf : Value → Shared → Prop} (hc : X.calm = true) (hu : X.A.units + 1 < cLine) (hx : scope.names.lookup x = some .local)
    (hkind : scope.kind = .function) (hdb : (x == ("__debug__" : Str)) = false) (I1 : Inv X pins σ H1 s1) (hS : SqL X.K H1 l vs) (hlen : vs.length = ks.length) (hsz : vs.length ≤ 1000000)
    (hk : ∀ (j : Nat) (k : List L2.Key), ks[j]? = some k → ∃ T, vs[j]? = some (.ref T) ∧ H1 T = some (.tup (k.map kV)))
    (fin : ∀ (D C : Addr) (m : Str → Option Value) (s' : Shared), H1 D = none → s'.heap.Ns C m → Inv X pins σ (L2.upd H1 D (.dT (dT1 ks))) s' → FpOk X pins (L2.upd H1 D (.dT (dT1 ks))) C → compEnds (model X.prog X.w) X.A X.xe use Qf (.ref D) (compEnvC scope [] C X.env) (.ok .next) s') :
    wpAny (model X.prog X.w) X.A (pyIter (.ref l)) (DcGoes X.prog X.w X.A X.xe X.env scope [] (.Name x p0) [] (.Name x p1) (.Constant (.bool true) kk p2) use Qf) X.xe s1 := by
  obtain ⟨its, rv, pl, hz⟩ := I1.list hS
  have hl : s1.heap.IsList l its.toArray := pl.isList
  refine wpAny_pyIter_list hl ?_
  have hh := I1.ok.hd hc
  have lI : l ≠ s1.heap.objs.size := fun e => by
    obtain ⟨o, ho, _⟩ := hl
    have := Heap.lt_size ho
    rw [e] at this
    exact Nat.lt_irrefl _ this
  have up2 : ∀ b o, s1.heap.get? b = some o → (s1.heap.push { cls := .type "list_iterator", data := .fields #[.ref l, .int 0 0] }).get? b = some o := fun b o e => Heap.get?_push_of_some _ e
  have sz2 : (s1.heap.push { cls := .type "list_iterator", data := .fields #[.ref l, .int 0 0] }).objs.size = s1.heap.objs.size + 1 := Heap.size_push ..
  generalize hI : s1.heap.objs.size = it at lI sz2 ⊢
  refine ⟨it, [it, l], [it], its.toArray.size, _, _, rfl, Goes.list hh it l lI its.toArray, ⟨⟨_, (by rw [← hI]; exact Heap.get?_push_size _ rfl), rfl, rfl⟩, ?_⟩, fun D C s3 cb hD => ?_⟩
  · obtain ⟨o, ho, hr⟩ := hl
    exact ⟨o, up2 _ _ ho, hr⟩
  have lenV : its.length = vs.length := rv.length.symm
  have nD : it + 1 ≤ D := by have := cb.newD; rw [← sz2]; exact this
  have nC : it + 1 ≤ C := by have := cb.newC; rw [← sz2]; exact this
  have old3 := cb.old
  have ns3 := cb.names
  have neDC := cb.ne
  obtain ⟨h3, tk3, rfl⟩ := cb.only
  have hD0 : H1 D = none := I1.hok.fresh (by omega)
  have hC0 : H1 C = none := I1.hok.fresh (by omega)
  have hI0 : H1 it = none := I1.hok.fresh (by omega)
  have fpI : ∀ o : HO, FpOk X pins (L2.upd H1 D o) it := fun o => I1.fpOk (by omega) (by rw [upd_ne (Nat.ne_of_lt nD)]; exact hI0)
  have fpC : ∀ o : HO, FpOk X pins (L2.upd H1 D o) C := fun o => I1.fpOk (by omega) (by rw [upd_ne neDC.symm]; exact hC0)
  refine ⟨fun i s' => ∃ m, s'.heap.Ns C m ∧ Inv X pins σ (L2.upd H1 D (.dT (dT1 (ks.take i)))) s', ⟨_, ns3, ?_⟩, ?_, ?_, ?_⟩
  · exact I1.laid (t' := tk3) (fun b o e => old3 b o (up2 b o e)) (by omega) ⟨Nat.zero_le _, beq_eq_false_iff_ne.mpr (Ne.symm (Nat.ne_of_lt (Nat.lt_of_lt_of_le I1.big (by rw [hI]; exact Nat.le_of_succ_le nD)))), [], .nil, _, #[], 0, hD, ⟨rfl, rfl, rfl⟩, rfl, rfl, List.nodup_nil⟩
  · rintro i s' h' tk ⟨m, hn, J⟩ k _
    obtain ⟨f0, f1, f2, f3, f4, f5⟩ := fpI (.dT (dT1 (ks.take i)))
    refine ⟨m, ?_, J.turned (t' := tk) (fun b o hb e => k b o (by simpa using hb) e) f0 f1 f3 f4 f5⟩
    obtain ⟨o, es, n, e, d, r⟩ := hn
    exact ⟨o, es, n, k C o (by simp only [List.mem_singleton]; exact (Nat.ne_of_lt nC).symm) e, d, r⟩
  · rintro i v s' hi hY hSt ⟨m, hn, J⟩
    have hi2 : i < ks.length := by rw [List.size_toArray, lenV, hlen] at hi; exact hi
    obtain ⟨T, hT1, hT2⟩ := hk i _ (List.getElem?_eq_getElem hi2)
    obtain ⟨u, hu1, hu2⟩ := rv.get hT1
    have ev : v = .ref T := by
      have e1 : its[i]? = some v := by simpa using hY
      rw [e1] at hu1
      cases hu1
      exact hu2
    subst ev
    have hk' : (compEnvC scope [] C X.env).scope.kind = .function := by simp [compEnvC, relabel, hkind]
    have lk : Env.kindOf (compEnvC scope [] C X.env) x = some .local := lookup_relabel_local hx
    refine wpAny_assign_Name (wpAny_storeName_local (m := m) (hp := by rw [hk']; rfl) lk hn fun h' hn' sb => ?_)
    obtain ⟨f0, f1, f2, f3, f4, f5⟩ := fpC (.dT (dT1 (ks.take i)))
    have J2 := J.turned (t' := s'.toks + 1) (fun b o hb e => (sb.2 b hb).trans e) f0 f1 f3 f4 f5
    refine wpAny_pure ?_
    rw [if_pos rfl]
    refine wpAny_Name (wpAny_loadName_local hk' lk hn' (if_pos rfl) ?_) hdb
    refine wpAny_Constant_bool ?_
    have eD : L2.upd H1 D (.dT (dT1 (ks.take i))) D = some (.dT (dT1 (ks.take i))) := upd_same
    obtain ⟨zz, hd, xs, rel, dd⟩ := dt_of J2.hok eD
    have hz' : xs.length ≤ sizeLine := by rw [← Paired.length rel]; exact zz
    have neT : T ≠ D := ne_of_none hT2 hD0
    have eb : L2.upd H1 D (.dT (dT1 (ks.take i))) T = some (.tup (ks[i].map kV)) := by rw [upd_ne neT]; exact hT2
    have hl2 : (putK (dT1 (ks.take i)) ks[i] (V.bl true)).length ≤ sizeLine := by
      have h1 := length_putK (dT1 (ks.take i)) ks[i] (V.bl true)
      have h2 := dT1_len (ks.take i)
      rw [List.length_take] at h2
      exact Nat.le_trans h1 (lt_sz (by omega))
    have ksn : dT1 (ks.take (i + 1)) = putK (dT1 (ks.take i)) ks[i] (.bl true) := by
      rw [List.take_add_one, List.getElem?_eq_getElem hi2]
      exact dT1_snoc _ _
    have llt : l < it := by
      obtain ⟨o, ho, _⟩ := hl
      rw [← hI]; exact Heap.lt_size ho
    have itC : it ≠ C := Nat.ne_of_lt nC
    have itD : it ≠ D := Nat.ne_of_lt nD
    have lC : l ≠ C := Nat.ne_of_lt (Nat.lt_trans llt nC)
    have lD : l ≠ D := Nat.ne_of_lt (Nat.lt_trans llt nD)
    refine wpAny_dictSet_heap (hsz := hz') (show X.A.units < cLine by omega) (key_of J2.hok eb) dd fun h4 dd' sb2 => ?_
    have keep4 : ∀ b o, b ≠ C → b ≠ D → s'.heap.get? b = some o → h4.get? b = some o := fun b o h1 h2 e => (sb2.2 b h2).trans ((sb.2 b h1).trans e)
    refine ⟨⟨fun x' => if x' = x then some (.ref T) else m x', ?_, ?_⟩, ?_, ?_⟩
    · obtain ⟨o, es, n, e, d, r⟩ := hn'
      exact ⟨o, es, n, (sb2.2 C neDC.symm).trans e, d, r⟩
    · obtain ⟨q4, es, ep, hq, y2, y3, y4, _, y5⟩ := dd'
      have J3 := d_write (t' := s'.toks + 1 + (tupleKind (mixKind X.prog X.w)).draws ks[i]) (ob := .dT (putK (dT1 (ks.take i)) ks[i] (.bl true))) J2 (by rw [eD]; exact True.intro) sb2 ⟨q4, hq⟩ ⟨hl2, hd, _, (rel.put ks[i] eb (show RelV (.bl true) (.bool true) from rfl)).keeps fun c ys ec => by
        rw [upd_ne (ne_of ec eD (fun z => nomatch z))]; exact ec, q4, es, ep, hq, y2, y3, y4, y5⟩
      rw [upd_upd] at J3
      rw [ksn]
      exact J3
    · obtain ⟨o, ho, hr⟩ := hSt.1
      exact ⟨o, keep4 it o itC itD ho, hr⟩
    · obtain ⟨o, ho, hr⟩ := hSt.2
      exact ⟨o, keep4 l o lC lD ho, hr⟩
  · rintro s' ⟨m, hn, J⟩
    have f := fpC (.dT (dT1 (ks.take its.toArray.size)))
    rw [List.size_toArray, lenV, hlen, List.take_of_length_le (Nat.le_refl _)] at J f
    exact fin D C m s' hD0 hn J f
theorem pe_dctrue (hc : X.calm = true) (hu : X.A.units + 1 < cLine) (he : PE X e te) (hx : scope.names.lookup x = some .local) (hclos : closureFor scope X.env = pure [])
    (hcell : ∀ y ∈ scope.names, y.2 ≠ .cell) (hkind : scope.kind = .function) (hnames : ∀ y ∈ scope.names, y.2 = .local → scope.names.lookup y.1 = some .local) (hs : ∀ x, foldedSetIterable e X.env x = pure x := by intro _; rfl)
    (hdb : (x == ("__debug__" : Str)) = false := by decide) :
    PE X (.DictComp (.Name x p1) (.Constant (.bool true) kk p2) [⟨.Name x p0, e, [], 0⟩] scope pos) (tDcT X.K te) := by
  refine ⟨fun pins s σ H Q I h => ?_⟩
  refine DictComp_goes hclos hcell hkind hnames (thn (he.run pins s σ H _ I h) fun v s1 hh => ?_) hs
  obtain ⟨xv, H1, I1, r1, l, vs, ks, rfl, hS, hlen, hsz, hk, q⟩ := hh
  cases r1
  refine dct_goes hc hu hx hkind hdb I1 hS hlen hsz hk fun D C m s' hD0 hn J f => ?_
  refine ⟨m, hn, fun h' sb => ?_⟩
  obtain ⟨f0, f1, f2, f3, f4, f5⟩ := f
  exact ⟨.ref D, _, J.turned (t' := s'.toks) (fun b o hb e => (sb.2 b hb).trans e) f0 f1 f3 f4 f5, rfl, q D hD0⟩
/-- y = {x: True for x in e}, stored before the block is let go -/
theorem ps_dctrue {i : Nat} {y : Str} {py spos : Pos} (hc : X.calm = true) (hu : X.A.units + 1 < cLine) (hN : X.N.Nodup) (hy : X.N[i]? = some y) (hyl : X.env.scope.names.lookup y = some .local)
    (hsw : swapsWith (.DictComp (.Name x p1) (.Constant (.bool true) kk p2) [⟨.Name x p0, e, [], 0⟩] scope pos) (some (.Name y py)) spos.line X.env = pure true) (he : PE X e te) (hx : scope.names.lookup x = some .local) (hclos : closureFor scope X.env = pure [])
    (hcell : ∀ y ∈ scope.names, y.2 ≠ .cell) (hkind : scope.kind = .function) (hnames : ∀ y ∈ scope.names, y.2 = .local → scope.names.lookup y.1 = some .local) (hs : ∀ x, foldedSetIterable e X.env x = pure x := by intro _; rfl)
    (hdb : (x == ("__debug__" : Str)) = false := by decide) :
    PS X (.Assign [.Name y py] (.DictComp (.Name x p1) (.Constant (.bool true) kk p2) [⟨.Name x p0, e, [], 0⟩] scope pos) spos) (tAsg (tDcT X.K te) (gName i)) := by
  refine ⟨fun pins s σ H D I h => ?_⟩
  have h : tDcT X.K te σ H (fun v H1 => gName i v σ H1 D.nx) := h
  rw [exec_Assign_Name_used _ _ _ _ hsw]
  refine wpAny_bind (wpAny_standAt (wpAny_bind ?_))
  refine wpAny_bind (wpAny_mono (comprehension_at (use := some (assign (.Name y py) X.env)) (Q := fun _ s' => SP X pins D .next s') rfl hs hclos hkind hnames
    (thn (he.run pins s σ H _ I h) fun v s1 hh => ?_)) (fun _ s' hq => wpAny_pure (wpAny_pure hq)) fun _ _ z => z)
  obtain ⟨xv, H1, I1, r1, l, vs, ks, rfl, hS, hlen, hsz, hk, q⟩ := hh
  cases r1
  refine wpAny_mono (dct_goes (use := some (assign (.Name y py) X.env)) (Qf := fun _ s' => SP X pins D .next s') hc hu hx hkind hdb I1 hS hlen hsz hk fun L C m s' hD0 hn J f => ?_) (fun it s2 h2 => compBlock_dict hcell hkind h2) fun _ _ z => z
  show wpAny _ _ (assign (.Name y py) X.env (.ref L)) _ _ _
  refine wpAny_assign_Name (store_ok2 (v := V.ref L) J hN hy (.inl hyl) rfl (fun s2 J2 hst => ?_) (.inr hyl))
  obtain ⟨a, sb, ha⟩ := hst
  obtain ⟨f0, f1, f2, f3, f4, f5⟩ := f
  have haC : C ≠ a := by
    rcases ha with z | z
    · rw [z]; exact f1
    · exact fun q => f4 y a z q.symm
  refine ⟨m, hn.sameBut sb haC, fun h3 sb3 => ?_⟩
  exact ⟨_, _, J2.turned (t' := s2.toks) (fun b o hb q => (sb3.2 b hb).trans q) f0 f1 f3 f4 f5, q L hD0⟩
end
end EL
namespace KP
open PySem PySem.Spec PyProof.Rows L2 EL
open Evl (pss_cut)
abbrev sPlacesMet : Stmt := topS 32
theorem scPlacesMet : FnScope ["pacer", "left", "right", "leaving", "waiting", "met", "state", "on_left", "on_right", "_", "word", "other", "further", "place", "fits", "begin"] ["pacer", "left", "right"] (defScope sPlacesMet) := ⟨rfl, rfl, rfl, by decide +kernel, rfl, by decide +kernel, by decide +kernel⟩
theorem starts_fits (x w : Str) (i : Nat) : Txt.startswith3 x w (i : Int) = fitsAt x.cps.toList w.cps.toList i := by
  have e1 : PySem.fromIndex x.length (i : Int) = i := by
    unfold PySem.fromIndex
    rw [if_neg (by omega)]
    omega
  have lx : x.cps.toList.length = x.length := (str_len x).symm
  have lw : w.cps.toList.length = w.length := (str_len w).symm
  unfold Txt.startswith3
  rw [e1, Bool.eq_iff_iff]
  simp only [fitsAt, Bool.and_eq_true, decide_eq_true_eq, lx, lw, Builtin.Str.subAt, beq_iff_eq]
  have key : x.cps.extract i (i + w.length) = w.cps ↔ (x.cps.toList.drop i).take w.length = w.cps.toList := by
    rw [← Array.toList_inj]
    simp [List.extract_eq_drop_take]
  rw [key]
/-- one place gone on from, some moves looked at: those that are new -/
structure Inn (bs : List Nat) (ms : List Mv) (x y : List Nat) (M : List Pl) (q : Pl) (done : List Mv) (N : List Pl) : Prop where
  nd : (M ++ N).Nodup
  re : ∀ p ∈ N, Reach bs ms x y p
  cl : ∀ r ∈ nexts done x y q, r ∈ M ++ N
theorem Inn.no {bs : List Nat} {ms : List Mv} {x y : List Nat} {M : List Pl} {q : Pl} {dn : List Mv} {N : List Pl} {m : Mv} (h : Inn bs ms x y M q dn N) (n : ¬ (m.s = q.1 ∧ fitsAt x m.l q.2.1 = true ∧ fitsAt y m.r q.2.2 = true)) : Inn bs ms x y M q (dn ++ [m]) N :=
  ⟨h.nd, h.re, fun r hr => by
    obtain ⟨m', hm', h1, h2, h3, rfl⟩ := mem_nexts.mp hr
    rcases List.mem_append.mp hm' with k | k
    · exact h.cl _ (mem_nexts.mpr ⟨m', k, h1, h2, h3, rfl⟩)
    · obtain rfl : m' = m := by simpa using k
      exact absurd ⟨h1, h2, h3⟩ n⟩
theorem Inn.old {bs : List Nat} {ms : List Mv} {x y : List Nat} {M : List Pl} {q : Pl} {dn : List Mv} {N : List Pl} {m : Mv} (h : Inn bs ms x y M q dn N) (hin : (m.t, q.2.1 + m.l.length, q.2.2 + m.r.length) ∈ M ++ N) : Inn bs ms x y M q (dn ++ [m]) N :=
  ⟨h.nd, h.re, fun r hr => by
    obtain ⟨m', hm', h1, h2, h3, rfl⟩ := mem_nexts.mp hr
    rcases List.mem_append.mp hm' with k | k
    · exact h.cl _ (mem_nexts.mpr ⟨m', k, h1, h2, h3, rfl⟩)
    · obtain rfl : m' = m := by simpa using k
      exact hin⟩
theorem Inn.new {bs : List Nat} {ms : List Mv} {x y : List Nat} {M : List Pl} {q : Pl} {dn : List Mv} {N : List Pl} {m : Mv} (h : Inn bs ms x y M q dn N) (hq : Reach bs ms x y q) (hm : m ∈ ms) (fit : m.s = q.1 ∧ fitsAt x m.l q.2.1 = true ∧ fitsAt y m.r q.2.2 = true)
    (hin : (m.t, q.2.1 + m.l.length, q.2.2 + m.r.length) ∉ M ++ N) : Inn bs ms x y M q (dn ++ [m]) (N ++ [(m.t, q.2.1 + m.l.length, q.2.2 + m.r.length)]) := by
  have hr := mem_nexts.mpr ⟨m, hm, fit.1, fit.2.1, fit.2.2, rfl⟩
  generalize hz : (m.t, q.2.1 + m.l.length, q.2.2 + m.r.length) = z at hin hr ⊢
  refine ⟨?_, fun p hp => ?_, fun r hr2 => ?_⟩
  · rw [← List.append_assoc, List.nodup_append]
    exact ⟨h.nd, by simp, fun a ha b hb => by
      obtain rfl : b = z := by simpa using hb
      exact fun e => hin (e ▸ ha)⟩
  · rcases List.mem_append.mp hp with k | k
    · exact h.re p k
    · obtain rfl : p = z := by simpa using k
      exact .step hq hr
  · obtain ⟨m', hm', h1, h2, h3, rfl⟩ := mem_nexts.mp hr2
    rw [← List.append_assoc]
    rcases List.mem_append.mp hm' with k | k
    · exact List.mem_append_left _ (h.cl _ (mem_nexts.mpr ⟨m', k, h1, h2, h3, rfl⟩))
    · obtain rfl : m' = m := by simpa using k
      rw [hz]
      exact List.mem_append_right _ (by simp)
theorem Inn.fin {bs : List Nat} {ms : List Mv} {x y : List Nat} {M W N : List Pl} {q : Pl} (g : Going bs ms x y M (W ++ [q])) (h : Inn bs ms x y M q ms N) : Going bs ms x y (M ++ N) (W ++ N) := by
  refine ⟨h.nd, fun p hp => ?_, fun b hb => List.mem_append_left _ (g.st b hb), fun p hp hw r hr => ?_, fun p hp => ?_⟩
  · rcases List.mem_append.mp hp with k | k
    · exact g.re p k
    · exact h.re p k
  · rcases List.mem_append.mp hp with k | k
    · by_cases e : p = q
      · subst e; exact h.cl r hr
      · refine List.mem_append_left _ (g.cl p k (fun m => ?_) r hr)
        rcases List.mem_append.mp m with m | m
        · exact hw (List.mem_append_left _ m)
        · exact e (by simpa using m)
    · exact absurd (List.mem_append_right _ k) hw
  · rcases List.mem_append.mp hp with k | k
    · exact List.mem_append_left _ (g.su p (List.mem_append_left _ k))
    · exact List.mem_append_right _ k
/-- only the moves of the place's state count -/
theorem nexts_of (ms : List Mv) (x y : List Nat) (q : Pl) : nexts ms x y q = nexts (ofSt ms q.1) x y q := by
  unfold nexts ofSt
  induction ms with
  | nil => rfl
  | cons m r ih =>
    by_cases h : m.s = q.1
    · rw [List.filter_cons_of_pos (by simpa using h), List.filterMap_cons, List.filterMap_cons, ih]
    · rw [List.filter_cons_of_neg (by simpa using h), List.filterMap_cons, if_neg (fun z => h z.1), ih]
theorem dT1_pl : ∀ {R : List Pl}, R.Nodup → dT1 (R.map plK) = plD R := by
  intro R
  have key : ∀ (R A : List Pl), (A ++ R).Nodup → (R.map plK).foldl (fun acc k => putK acc k (V.bl true)) (plD A) = plD (A ++ R) := by
    intro R
    induction R with
    | nil => intro A _; simp
    | cons p r ih =>
      intro A h
      have hp : p ∉ A := fun m => by
        rw [List.nodup_append] at h
        exact h.2.2 p m p List.mem_cons_self rfl
      rw [List.map_cons, List.foldl_cons, plD_put hp]
      have := ih (A ++ [p]) (by rw [List.append_assoc]; exact h)
      rw [List.append_assoc] at this
      exact this
  intro h
  have := key R [] (by simpa using h)
  simpa [dT1] using this
theorem pf_b (n : Int) (b m e : V) : (pf n b m e).lookup ("begins" : Str) = some b := by
  have h1 : (("begins" : Str) == "size") = false := by decide +kernel
  simp [pf, List.lookup, h1]
theorem pf_m (n : Int) (b m e : V) : (pf n b m e).lookup ("moves" : Str) = some m := by
  have h1 : (("moves" : Str) == "size") = false := by decide +kernel
  have h2 : (("moves" : Str) == "begins") = false := by decide +kernel
  simp [pf, List.lookup, h1, h2]
theorem pf_e (n : Int) (b m e : V) : (pf n b m e).lookup ("ends" : Str) = some e := by
  have h1 : (("ends" : Str) == "size") = false := by decide +kernel
  have h2 : (("ends" : Str) == "begins") = false := by decide +kernel
  have h3 : (("ends" : Str) == "moves") = false := by decide +kernel
  simp [pf, List.lookup, h1, h2, h3]
theorem nodup_starts {n : Nat} {ns : List Nat} (h : Asc n ns) : (ns.map fun b => ((b, 0, 0) : Pl)).Nodup := by
  have := h.1
  clear h
  induction ns with
  | nil => exact List.nodup_nil
  | cons a r ih =>
    obtain ⟨h1, h2⟩ := List.pairwise_cons.mp this
    refine List.nodup_cons.mpr ⟨fun m => ?_, ih h2⟩
    obtain ⟨b, hb, e⟩ := List.mem_map.mp m
    have := h1 b hb
    have : b = a := congrArg Prod.fst e
    omega
/-- where a pacer comes to -/
def spMet (K : PySem.W.Frag) (C : Addr) : Sp := fun vs H Q _ => ∃ (p : Addr) (pl : Plan) (top many long : Nat) (x y : Str), vs = [.ref p, .str x, .str y] ∧ PacAt K C H p pl ∧ pl.Ok top many long ∧ top ≤ 10 ∧ many ≤ 20 ∧ long ≤ 50 ∧ x.length ≤ 20 ∧ y.length ≤ 20 ∧
  ∀ (d : Addr) (M : List Pl) H', Same H H' → H' d = some (.dT (plD M)) → (∀ q, q ∈ M ↔ Reach pl.ins pl.ways x.cps.toList y.cps.toList q) → Q (.ref d) H'
section
variable {P : Program} {w : World} {K : PySem.W.Frag} {mg : Str → Option Value} {base : Heap}
theorem ok_PlacesMet {f C : Addr} {fd : FuncData} {k : Nat} (F : Fun K "places_met" "places_met" sPlacesMet f fd) (T : PTxt K C) (nlen : mg "len" = none) (CMovesByState : Cal P w K mg base k "moves_by_state" ["moves"] (spByState K)) : FnOk P w K mg base CX0 (k + 1) f fd ["pacer", "left", "right"] (spMet K C) := by
  refine F.ok scPlacesMet (fun vs H Q E h => ?_) (fun cdv A outer s H vs Q E hr h => ?_)
  · obtain ⟨p, pl, top, many, long, x, y, rfl, _⟩ := h; rfl
  · obtain ⟨p, pl, top, many, long, x, y, rfl, hP, hO, h1, h2, h3, hx, hy, kQ⟩ := h
    have hu := hr.units
    have hu1 : (A.deeper (envOfC "places_met" (defScope sPlacesMet) s.heap.objs.size f cdv)).units + 1 < cLine := by omega
    refine ⟨_, (pss_cons (ps_set (i := 3) scPlacesMet.nd rfl (by first | exact Or.inl rfl | exact Or.inr rfl) (pe_cal CMovesByState hr (by rfl) pass0 (pa_cons (pe_fld (pv 0) rfl) pa_nil)))
      (pss_cons (ps_setLc (i := 4) (own := [("begin", 15)]) (g := (gName 15)) (by rfl) scPlacesMet.nd rfl rfl (sw_true rfl rfl rfl (by decide +kernel)) (pi_tup (pe_fld (pv 0) rfl)) (blkOk_by (own := [("begin", 15)]) (N := ["pacer", "left", "right", "leaving", "waiting", "met", "state", "on_left", "on_right", "_", "word", "other", "further", "place", "fits", "begin"]) (sc := defScope sPlacesMet) (by decide +kernel)) (fun _ _ _ _ _ => (pg_name (i := 15) scPlacesMet.nd rfl (by first | exact Or.inl rfl | exact Or.inr rfl))) (fun _ _ _ _ _ => pts_nil) (fun _ _ _ _ _ => (pe_tup (pa_cons (pv 15) (pa_cons pe_int (pa_cons pe_int pa_nil))))))
      (pss_cons (ps_dctrue (i := 5) (by rfl) hu1 scPlacesMet.nd rfl rfl (by rfl) (pv 4) rfl (by rfl) (by decide) rfl (by decide))
      (pss_cons (ps_while PassesOwn.never (pt_truth (pv 4) (by intro _; rfl)) (pss_cons (ps_asg (pe_bm0 PySem.F.plainAttrs_list PySem.F.slot_list_pop PySem.F.type_list_pop mt_pop (pv 4)) (pg_tup (by rfl) (pgs_cons (pg_name (i := 6) scPlacesMet.nd rfl (by first | exact Or.inl rfl | exact Or.inr rfl)) (pgs_cons (pg_name (i := 7) scPlacesMet.nd rfl (by first | exact Or.inl rfl | exact Or.inr rfl)) (pgs_cons (pg_name (i := 8) scPlacesMet.nd rfl (by first | exact Or.inl rfl | exact Or.inr rfl)) pgs_nil)))))
      (pss_one (ps_for PassesOwn.never rfl (pi_list (pe_dget2 hu1 (pv 3) (pv 6) (pe_lst pa_nil) ⟨by rfl, by rfl, by rfl, by rfl⟩)) (pg_tup (by rfl) (pgs_cons (pg_name (i := 9) scPlacesMet.nd rfl (by first | exact Or.inl rfl | exact Or.inr rfl)) (pgs_cons (pg_name (i := 10) scPlacesMet.nd rfl (by first | exact Or.inl rfl | exact Or.inr rfl)) (pgs_cons (pg_name (i := 11) scPlacesMet.nd rfl (by first | exact Or.inl rfl | exact Or.inr rfl)) (pgs_cons (pg_name (i := 12) scPlacesMet.nd rfl (by first | exact Or.inl rfl | exact Or.inr rfl)) pgs_nil))))) (pss_cons (ps_set (i := 13) scPlacesMet.nd rfl (by first | exact Or.inl rfl | exact Or.inr rfl) (pe_tup (pa_cons (pv 12) (pa_cons (pe_op op_add (pv 7) (pe_callB call_len (by rfl) nlen boot_len (pa_cons (pv 10) pa_nil))) (pa_cons (pe_op op_add (pv 8) (pe_callB call_len (by rfl) nlen boot_len (pa_cons (pv 11) pa_nil))) pa_nil)))))
      (pss_cons (ps_set (i := 14) scPlacesMet.nd rfl (by first | exact Or.inl rfl | exact Or.inr rfl) (pe_and (pe_bm PySem.F.plainAttrs_str PySem.F.slot_str_startswith PySem.F.type_str_startswith mt_startswith3 (pv 1) (pa_cons (pv 10) (pa_cons (pv 7) pa_nil))) (pe_one (pe_bm PySem.F.plainAttrs_str PySem.F.slot_str_startswith PySem.F.type_str_startswith mt_startswith3 (pv 2) (pa_cons (pv 11) (pa_cons (pv 8) pa_nil))))))
      (pss_one (ps_if (PW.pt (pw_and (pt_val (pv 14)) (pw_and1 (pt_cmp (pc_dnotin hu1 (pv 13) (pv 5)))))) (pss_cons (ps_dput hu1 (pv 5) (pv 13) pe_bl rfl)
      (pss_one (ps_expr (pe_bm PySem.F.plainAttrs_list PySem.F.slot_list_append PySem.F.type_list_append mt_append (pv 4) (pa_cons (pv 13) pa_nil))))) pss_nil))))))))
      (pss_one (ps_ret (pv 5))))))), ?_⟩
    obtain ⟨dx, vb, vm, ve, e1, e2, e3, e4⟩ := hP.at'
    have three : 3 ≤ sizeLine := by decide
    have hil := asc_len hO.i
    have hw2 := hO.w2
    have hnl := hO.n
    obtain ⟨is, his, hia⟩ : ∃ is, SqT K H vb is ∧ DqAll K H is (nats pl.ins) := by
      cases e2 with
      | tup hs ha => exact ⟨_, hs, ha⟩
    have lis : is.length = pl.ins.length := by rw [hia.len, List.length_map]
    generalize hX : x.cps.toList = X at kQ
    generalize hY : y.cps.toList = Y at kQ
    have lX : X.length = x.length := by rw [← hX, str_len]
    have lY : Y.length = y.length := by rw [← hY, str_len]
    refine ⟨_, rfl, p, C, dx, _, _, rfl, e1, T.cl, T.nM, pf_m _ _ _ _, .ref vm, pl.ways, rfl, e3, by omega, fun d H1 s1 nd hB => ?_⟩
    obtain ⟨kvs, gd, hkl, hno, hyes, hinj⟩ := hB.at'
    refine ⟨_, rfl, p, C, dx, _, _, rfl, s1 _ _ e1, T.cl, T.nB, pf_b _ _ _ _, vb, rfl, ⟨is, ex_t' s1 his⟩, fun D nD => ?_⟩
    refine lc_it walk_tup (fun i H' => ∃ vs, H' D = some (.lst vs) ∧ RowP H' vs ((pl.ins.take i).map fun b => ((b, 0, 0) : Pl)) ∧ Same H1 H') ⟨[], upd_same, ⟨rfl, fun j p e => by simp at e⟩, same_upd nD⟩ (fun i H' _ q => by obtain ⟨_, _, _, sm⟩ := q; exact ex_t' (s1.trans sm) his) ?_ ?_
    · rintro i v H2 H3 hi ⟨vs, hD, hR, sm⟩ ⟨rfl, hv⟩
      obtain ⟨dd, hd, hdq⟩ := hia.at hv
      rw [List.getElem?_map] at hd
      obtain ⟨b, hb, rfl⟩ : ∃ b, pl.ins[i]? = some b ∧ dd = PyData.int (b : Int) := by
        cases e : pl.ins[i]? with
        | none => rw [e] at hd; cases hd
        | some b => rw [e] at hd; exact ⟨b, rfl, (Option.some.inj hd).symm⟩
      cases hdq
      refine ⟨rfl, ?_⟩
      dsimp only [tYes]
      refine iteT ⟨_, rfl, three, fun T nT => ?_⟩
      have lv : vs.length ≤ 100 := by rw [hR.len, List.length_map, List.length_take]; omega
      refine ⟨vs, by rw [upd_ne (ne_of_none hD nT)]; exact hD, lt_sz (by omega), vs ++ [.ref T], upd_same, ?_, fun c o e => by rw [upd_ne (ne_of_none e nD), upd_ne (ne_of_none (sm c o e) nT)]; exact sm c o e⟩
      have e8 : (pl.ins.take (i + 1)).map (fun b => ((b, 0, 0) : Pl)) = (pl.ins.take i).map (fun b => ((b, 0, 0) : Pl)) ++ [(b, 0, 0)] := by
        rw [List.take_add_one, hb, List.map_append]; rfl
      rw [e8]
      refine RowP.snoc (hR.keep fun T' xs e => ?_) ?_
      · have h1 : T' ≠ D := ne_of e hD (fun q => nomatch q)
        rw [upd_ne h1, upd_ne (ne_of_none e nT)]; exact e
      · rw [upd_ne (ne_of_none hD nT).symm, upd_same]; rfl
    rintro H2 ⟨vs0, hD, hR, sm2⟩
    rw [List.take_of_length_le (by rw [lis]; exact Nat.le_refl _)] at hR
    have nd0 := nodup_starts hO.i
    have g0 : Going pl.ins pl.ways X Y (pl.ins.map fun b => ((b, 0, 0) : Pl)) (pl.ins.map fun b => ((b, 0, 0) : Pl)) := by
      refine ⟨nd0, fun q m => ?_, fun b m => List.mem_map.mpr ⟨b, m, rfl⟩, fun q m n => absurd m n, fun q m => m⟩
      obtain ⟨b, hbm, rfl⟩ := List.mem_map.mp m
      exact .base hbm
    have lR0 : (pl.ins.map fun b => ((b, 0, 0) : Pl)).length ≤ 10 := by rw [List.length_map]; omega
    generalize hR0 : (pl.ins.map fun b => ((b, 0, 0) : Pl)) = R0 at hR nd0 g0 lR0
    refine ⟨_, rfl, D, vs0, R0.map plK, rfl, sqOf hD, by rw [hR.len, List.length_map], by rw [hR.len]; omega, fun j kq hq => ?_, fun M nM => ?_⟩
    · rw [List.getElem?_map] at hq
      cases e : R0[j]? with
      | none => rw [e] at hq; cases hq
      | some q0 =>
        rw [e] at hq
        obtain rfl := Option.some.inj hq
        obtain ⟨T, t1, t2⟩ := hR.its j q0 e
        exact ⟨T, t1, t2⟩
    rw [dT1_pl nd0]
    have s3 : Same H2 (upd H2 M (.dT (plD R0))) := same_upd nM
    have g3 : upd H2 M (.dT (plD R0)) M = some (.dT (plD R0)) := upd_same
    generalize upd H2 M (.dT (plD R0)) = H3 at s3 g3 ⊢
    have nM1 : H1 M = none := sm2.free nM
    have nDM : D ≠ M := ne_of_none hD nM
    have hm : ∀ m ∈ pl.ways, m.t < pl.wide := fun m h => (hO.m m h).2.1
    have hb : ∀ b ∈ pl.ins, b < pl.wide := fun b h => hO.i.2 b h
    generalize hBB : pl.wide * (X.length + 1) * (Y.length + 1) = B
    have hB2 : B ≤ 4410 := by
      rw [← hBB]
      have a1 : pl.wide ≤ 10 := by omega
      have a2 : X.length + 1 ≤ 21 := by omega
      have a3 : Y.length + 1 ≤ 21 := by omega
      exact Nat.mul_le_mul (Nat.mul_le_mul a1 a2) a3
    have boxed : ∀ {Ms : List Pl}, Ms.Nodup → (∀ q ∈ Ms, Reach pl.ins pl.ways X Y q) → Ms.length ≤ B := fun n r => by
      rw [← hBB]
      exact box_len n fun q m => reach_box hb hm (r q m)
    refine ⟨fun m σ H' => ∃ (Ms W : List Pl) (vs : List V) (y6 y7 y8 y9 y10 y11 y12 y13 y14 y15 : Option V), σ = [some (.ref p), some (.str x), some (.str y), some (.ref d), some (.ref D), some (.ref M), y6, y7, y8, y9, y10, y11, y12, y13, y14, y15] ∧ Same H1 H' ∧ H' M = some (.dT (plD Ms)) ∧ H' D = some (.lst vs) ∧ RowP H' vs W ∧ Going pl.ins pl.ways X Y Ms W ∧ W.length ≤ Ms.length ∧ m = (B - Ms.length) * 2 + W.length, ⟨_, R0, R0, vs0, _, _, _, _, _, _, _, _, _, _, rfl, sm2.trans s3, g3, s3 _ _ hD, hR.keep (fun T xs e => s3 _ _ e), g0, Nat.le_refl _, rfl⟩, ?_⟩
    rintro m σ H4 ⟨Ms, W, vs, y6, y7, y8, y9, y10, y11, y12, y13, y14, y15, rfl, S4, gM, gD, hR4, G4, hWl, hmm⟩
    have lvs : vs.length = W.length := hR4.len
    have hMB := boxed G4.nd G4.re
    refine ⟨.ref D, rfl, !vs.isEmpty, .inl ⟨vs, sqOf gD, rfl⟩, ?_⟩
    rcases List.eq_nil_or_concat W with rfl | ⟨W', q, rfl⟩
    · obtain rfl : vs = [] := List.eq_nil_of_length_eq_zero lvs
      exact ⟨_, rfl, kQ M Ms H4 (s1.trans S4) gM G4.done⟩
    rw [List.concat_eq_append] at *
    have hve : (!vs.isEmpty) = true := by
      cases vs with
      | nil => simp at lvs
      | cons _ _ => rfl
    rw [hve]
    have lvs2 : vs.length = W'.length + 1 := by rw [lvs, List.length_append]; rfl
    have hWl2 : W'.length + 1 ≤ Ms.length := by rw [List.length_append] at hWl; exact hWl
    refine ⟨fun σ' H' => ∃ m' < m, ∃ (Ms W : List Pl) (vs : List V) (y6 y7 y8 y9 y10 y11 y12 y13 y14 y15 : Option V), σ' = [some (.ref p), some (.str x), some (.str y), some (.ref d), some (.ref D), some (.ref M), y6, y7, y8, y9, y10, y11, y12, y13, y14, y15] ∧ Same H1 H' ∧ H' M = some (.dT (plD Ms)) ∧ H' D = some (.lst vs) ∧ RowP H' vs W ∧ Going pl.ins pl.ways X Y Ms W ∧ W.length ≤ Ms.length ∧ m' = (B - Ms.length) * 2 + W.length, fun σ' H' hN => by obtain ⟨m', h1, h2⟩ := hN; exact ⟨m', h1, h2⟩, ?_⟩
    obtain ⟨T0, hT1, hT2⟩ := hR4.its W'.length q (by rw [List.getElem?_append_right (Nat.le_refl _), Nat.sub_self]; rfl)
    refine ⟨.ref D, rfl, .inl ⟨rfl, _, sqOf gD⟩, D, vs, .ref T0, rfl, rfl, gD, by rw [lvs2]; exact hT1, ?_⟩
    have hTD : T0 ≠ D := ne_of hT2 gD (fun q => nomatch q)
    have hT3 : upd H4 D (.lst vs.dropLast) T0 = some (.tup (plV q)) := by rw [upd_ne hTD]; exact hT2
    have gD5 : upd H4 D (.lst vs.dropLast) D = some (.lst vs.dropLast) := upd_same
    have gM5 : upd H4 D (.lst vs.dropLast) M = some (.dT (plD Ms)) := by rw [upd_ne nDM.symm]; exact gM
    have S5 : Same H1 (upd H4 D (.lst vs.dropLast)) := fun c o e => by rw [upd_ne (ne_of_none e nD)]; exact S4 c o e
    have hR5 : RowP (upd H4 D (.lst vs.dropLast)) vs.dropLast W' := by
      refine ⟨by rw [List.length_dropLast, lvs2]; rfl, fun j r hr => ?_⟩
      obtain ⟨hj, _⟩ := List.getElem?_eq_some_iff.mp hr
      obtain ⟨T', t1, t2⟩ := hR4.its j r (by rw [List.getElem?_append_left hj]; exact hr)
      have h1 : T' ≠ D := ne_of t2 gD (fun q => nomatch q)
      exact ⟨T', by rw [List.getElem?_dropLast, if_pos (by omega)]; exact t1, by rw [upd_ne h1]; exact t2⟩
    generalize upd H4 D (.lst vs.dropLast) = H5 at hT3 gD5 gM5 S5 hR5 ⊢
    refine ⟨T0, _, rfl, stOf hT3, rfl, _, _, rfl, _, _, rfl, _, _, rfl, rfl, ?_⟩
    refine ⟨_, rfl, d, rfl, .inl ⟨kvs, .inl (S5 _ _ gd)⟩, _, rfl, Nat.zero_le _, fun z nz => ?_⟩
    have s6 : Same H5 (upd H5 z (.lst [])) := same_upd nz
    have g6 : upd H5 z (.lst []) z = some (.lst []) := upd_same
    generalize upd H5 z (.lst []) = H6 at s6 g6 ⊢
    have gD6 := s6 _ _ gD5
    have gM6 := s6 _ _ gM5
    have S6 : Same H1 H6 := S5.trans s6
    have hR6 := hR5.keep (fun T xs e => s6 T _ e)
    refine ⟨valV kvs (.inl (q.1 : Int)), DGet.k (k := .inl (q.1 : Int)) (S6 _ _ gd), ?_⟩
    obtain ⟨l, xs, el, hl, hda, hlD, hlM⟩ : ∃ l xs, (valV kvs (.inl (q.1 : Int))).getD (.ref z) = .ref l ∧ H6 l = some (.lst xs) ∧ DqAll K H xs ((ofSt pl.ways q.1).map mvD) ∧ l ≠ D ∧ l ≠ M := by
      cases e : valV kvs (.inl (q.1 : Int)) with
      | none => exact ⟨z, [], rfl, g6, by rw [hno q.1 e]; exact .nil, (ne_of_none gD5 nz).symm, (ne_of_none gM5 nz).symm⟩
      | some v =>
        obtain ⟨l, xs, rfl, _, hl, hda⟩ := hyes q.1 v e
        exact ⟨l, xs, rfl, S6 _ _ hl, hda, ne_of_none hl nD, ne_of_none hl nM1⟩
    have lxs : xs.length = (ofSt pl.ways q.1).length := by rw [hda.len, List.length_map]
    have hqr : Reach pl.ins pl.ways X Y q := G4.re q (G4.su q (by simp))
    have boxq : InBox pl.wide X Y q := reach_box hb hm hqr
    rw [el]
    refine ⟨l, rfl, ⟨xs, sqOf hl⟩, ?_⟩
    refine for_it walk_list (fun j σ H' => ∃ (N : List Pl) (vs' : List V) (y9 y10 y11 y12 y13 y14 y15 : Option V), σ = [some (.ref p), some (.str x), some (.str y), some (.ref d), some (.ref D), some (.ref M), some (.int (q.1 : Int)), some (.int (q.2.1 : Int)), some (.int (q.2.2 : Int)), y9, y10, y11, y12, y13, y14, y15] ∧ Same H1 H' ∧ H' M = some (.dT (plD (Ms ++ N))) ∧ H' D = some (.lst vs') ∧ RowP H' vs' (W' ++ N) ∧ Inn pl.ins pl.ways X Y Ms q ((ofSt pl.ways q.1).take j) N ∧ H' l = some (.lst xs))
      ⟨[], vs.dropLast, _, _, _, _, _, _, _, rfl, S6, by rw [List.append_nil]; exact gM6, gD6, by rw [List.append_nil]; exact hR6, ⟨by rw [List.append_nil]; exact G4.nd, fun p m => (List.not_mem_nil m).elim, fun r hr => by rw [List.take_zero] at hr; exact (List.not_mem_nil hr).elim⟩, hl⟩ (fun j σ H' _ w => by obtain ⟨_, _, _, _, _, _, _, _, _, _, _, _, _, _, _, hh⟩ := w; exact sqOf hh) ?_ ?_
    · rintro j v σ H9 H8 hj ⟨N, vs', y9, y10, y11, y12, y13, y14, y15, rfl, S8, gM8, gD8, hR8, hI, hl8⟩ ⟨rfl, hv⟩
      obtain ⟨dd, hd, hdq⟩ := hda.at hv
      rw [List.getElem?_map] at hd
      obtain ⟨mv, hmv, rfl⟩ : ∃ mv, (ofSt pl.ways q.1)[j]? = some mv ∧ dd = mvD mv := by
        cases e : (ofSt pl.ways q.1)[j]? with
        | none => rw [e] at hd; cases hd
        | some b => rw [e] at hd; exact ⟨b, rfl, (Option.some.inj hd).symm⟩
      obtain ⟨a, rfl, hab⟩ := dq_mv (hdq.up (s1.trans S8))
      have hmo := List.mem_of_getElem? hmv
      have hmw : mv ∈ pl.ways := (List.mem_filter.mp hmo).1
      have hms : mv.s = q.1 := by simpa using (List.mem_filter.mp hmo).2
      obtain ⟨_, _, hl1, hl2, _, _⟩ := hO.m mv hmw
      have tkj : (ofSt pl.ways q.1).take (j + 1) = (ofSt pl.ways q.1).take j ++ [mv] := by rw [List.take_add_one, hmv]; rfl
      have w1 : (⟨mv.l.toArray⟩ : Str).length = mv.l.length := by rw [str_len]
      have w2 : (⟨mv.r.toArray⟩ : Str).length = mv.r.length := by rw [str_len]
      have c1 : Txt.startswith3 x ⟨mv.l.toArray⟩ (q.2.1 : Int) = fitsAt X mv.l q.2.1 := by
        have := starts_fits x ⟨mv.l.toArray⟩ q.2.1
        rw [hX] at this
        exact this
      have c2 : Txt.startswith3 y ⟨mv.r.toArray⟩ (q.2.2 : Int) = fitsAt Y mv.r q.2.2 := by
        have := starts_fits y ⟨mv.r.toArray⟩ q.2.2
        rw [hY] at this
        exact this
      have hMN : (Ms ++ N).length ≤ B := boxed hI.nd fun r m => (List.mem_append.mp m).elim (G4.re r) (hI.re r)
      rw [List.length_append] at hMN
      have lv8 : vs'.length ≤ 1000000 := by rw [hR8.len, List.length_append]; omega
      refine ⟨a, _, rfl, hab, rfl, _, _, rfl, _, _, rfl, _, _, rfl, _, _, rfl, rfl, ?_⟩
      refine ⟨_, rfl, _, rfl, _, rfl, .str ⟨mv.l.toArray⟩, ((⟨mv.l.toArray⟩ : Str).length : Nat), rfl, ⟨len_sz (by omega), rfl⟩, _, _, rfl, rfl, _, rfl, _, rfl, .str ⟨mv.r.toArray⟩, ((⟨mv.r.toArray⟩ : Str).length : Nat), rfl, ⟨len_sz (by omega), rfl⟩, _, _, rfl, rfl, three, fun T3 nT3 => ?_⟩
      have eT : ([.int (mv.t : Int), .int ((q.2.1 : Int) + ((⟨mv.l.toArray⟩ : Str).length : Nat)), .int ((q.2.2 : Int) + ((⟨mv.r.toArray⟩ : Str).length : Nat))] : List V) = plV (mv.t, q.2.1 + mv.l.length, q.2.2 + mv.r.length) := by
        rw [w1, w2]
        simp [plV]
      have s9 : Same H8 (upd H8 T3 (.tup [.int (mv.t : Int), .int ((q.2.1 : Int) + ((⟨mv.l.toArray⟩ : Str).length : Nat)), .int ((q.2.2 : Int) + ((⟨mv.r.toArray⟩ : Str).length : Nat))])) := same_upd nT3
      have g9 : upd H8 T3 (.tup [.int (mv.t : Int), .int ((q.2.1 : Int) + ((⟨mv.l.toArray⟩ : Str).length : Nat)), .int ((q.2.2 : Int) + ((⟨mv.r.toArray⟩ : Str).length : Nat))]) T3 = some (.tup (plV (mv.t, q.2.1 + mv.l.length, q.2.2 + mv.r.length))) := by rw [upd_same, eT]
      generalize upd H8 T3 (.tup [.int (mv.t : Int), .int ((q.2.1 : Int) + ((⟨mv.l.toArray⟩ : Str).length : Nat)), .int ((q.2.2 : Int) + ((⟨mv.r.toArray⟩ : Str).length : Nat))]) = H9 at s9 g9 ⊢
      generalize hz : ((mv.t, q.2.1 + mv.l.length, q.2.2 + mv.r.length) : Pl) = zp at g9
      have gM9 := s9 _ _ gM8
      have gD9 := s9 _ _ gD8
      have S9 := S8.trans s9
      have hR9 := hR8.keep (fun T xs e => s9 T _ e)
      have hl9 := s9 _ _ hl8
      have stay : Inn pl.ins pl.ways X Y Ms q ((ofSt pl.ways q.1).take (j + 1)) N → ∀ y9 y10 y11 y12 y13 y14 y15 : Option V, ∃ (N : List Pl) (vs' : List V) (z9 z10 z11 z12 z13 z14 z15 : Option V), [some (V.ref p), some (.str x), some (.str y), some (.ref d), some (.ref D), some (.ref M), some (.int (q.1 : Int)), some (.int (q.2.1 : Int)), some (.int (q.2.2 : Int)), y9, y10, y11, y12, y13, y14, y15] = [some (V.ref p), some (.str x), some (.str y), some (.ref d), some (.ref D), some (.ref M), some (.int (q.1 : Int)), some (.int (q.2.1 : Int)), some (.int (q.2.2 : Int)), z9, z10, z11, z12, z13, z14, z15] ∧ Same H1 H9 ∧ H9 M = some (.dT (plD (Ms ++ N))) ∧ H9 D = some (.lst vs') ∧ RowP H9 vs' (W' ++ N) ∧ Inn pl.ins pl.ways X Y Ms q ((ofSt pl.ways q.1).take (j + 1)) N ∧ H9 l = some (.lst xs) := fun hh y9 y10 y11 y12 y13 y14 y15 =>
        ⟨N, vs', _, _, _, _, _, _, _, rfl, S9, gM9, gD9, hR9, hh, hl9⟩
      refine ⟨.str x, rfl, rfl, _, rfl, _, rfl, x, _, _, rfl, rfl, _, rfl, ?_⟩
      rw [c1]
      cases k2 : fitsAt X mv.l q.2.1 with
      | false => exact iteF ⟨_, rfl, _, rfl, iteF (iteF (stay (by rw [tkj]; exact hI.no (fun w => by rw [k2] at w; cases w.2.1)) _ _ _ _ _ _ _))⟩
      | true =>
        refine iteT ⟨.str y, rfl, rfl, _, rfl, _, rfl, y, _, _, rfl, rfl, ?_⟩
        rw [c2]
        cases k3 : fitsAt Y mv.r q.2.2 with
        | false => exact ⟨_, rfl, _, rfl, iteF (iteF (stay (by rw [tkj]; exact hI.no (fun w => by rw [k3] at w; cases w.2.2)) _ _ _ _ _ _ _))⟩
        | true =>
          refine ⟨_, rfl, _, rfl, iteT ⟨.ref T3, rfl, .ref M, rfl, M, _, rfl, DGet.t (k := plK zp) gM9 g9, _, rfl, ?_⟩⟩
          rw [plD_get]
          by_cases hin : zp ∈ Ms ++ N
          · rw [decide_eq_true hin]
            exact iteF (stay (by rw [tkj]; exact hI.old (by rw [hz]; exact hin)) _ _ _ _ _ _ _)
          · rw [decide_eq_false hin]
            refine iteT ⟨.ref M, rfl, .ref T3, rfl, M, _, rfl, DPut.t (k := plK zp) gM9 g9 (lt_sz (by rw [List.length_map, List.length_append]; omega)), ?_⟩
            rw [plD_put hin]
            have hT3M : T3 ≠ M := ne_of g9 gM9 (fun q => nomatch q)
            have gD10 : upd H9 M (.dT (plD (Ms ++ N ++ [zp]))) D = some (.lst vs') := by rw [upd_ne nDM]; exact gD9
            have gM10 : upd H9 M (.dT (plD (Ms ++ N ++ [zp]))) M = some (.dT (plD (Ms ++ N ++ [zp]))) := upd_same
            have S10 : Same H1 (upd H9 M (.dT (plD (Ms ++ N ++ [zp])))) := fun c o e => by rw [upd_ne (ne_of_none e nM1)]; exact S9 c o e
            have hR10 : RowP (upd H9 M (.dT (plD (Ms ++ N ++ [zp])))) vs' (W' ++ N) := hR9.keep fun T' xs e => by
              have h1 : T' ≠ M := ne_of e gM9 (fun q => nomatch q)
              rw [upd_ne h1]; exact e
            have g10 : upd H9 M (.dT (plD (Ms ++ N ++ [zp]))) T3 = some (.tup (plV zp)) := by rw [upd_ne hT3M]; exact g9
            have hl10 : upd H9 M (.dT (plD (Ms ++ N ++ [zp]))) l = some (.lst xs) := by rw [upd_ne hlM]; exact hl9
            generalize upd H9 M (.dT (plD (Ms ++ N ++ [zp]))) = H10 at gD10 gM10 S10 hR10 g10 hl10 ⊢
            have hT3D : T3 ≠ D := ne_of g10 gD10 (fun q => nomatch q)
            refine ⟨.ref D, rfl, .inl ⟨rfl, _, sqOf gD10⟩, .ref T3, rfl, D, vs', _, rfl, rfl, gD10, lt_sz lv8, ?_⟩
            refine ⟨N ++ [zp], vs' ++ [.ref T3], _, _, _, _, _, _, _, rfl, fun c o e => by rw [upd_ne (ne_of_none e nD)]; exact S10 c o e, by rw [upd_ne nDM.symm, ← List.append_assoc]; exact gM10, upd_same, ?_, ?_, by rw [upd_ne hlD]; exact hl10⟩
            · rw [← List.append_assoc]
              refine RowP.snoc (hR10.keep fun T' xs e => ?_) (by rw [upd_ne hT3D]; exact g10)
              have h1 : T' ≠ D := ne_of e gD10 (fun q => nomatch q)
              rw [upd_ne h1]; exact e
            · rw [tkj]
              have := hI.new hqr hmw ⟨hms, k2, k3⟩ (by rw [hz]; exact hin)
              rw [hz] at this
              exact this
    · rintro σ H8 ⟨N, vs', y9, y10, y11, y12, y13, y14, y15, rfl, S8, gM8, gD8, hR8, hI, hl8⟩
      rw [lxs, List.take_of_length_le (Nat.le_refl _)] at hI
      have hI2 : Inn pl.ins pl.ways X Y Ms q pl.ways N := ⟨hI.nd, hI.re, fun r hr => hI.cl r (by rw [← nexts_of]; exact hr)⟩
      have Gn := hI2.fin G4
      have hMN := boxed Gn.nd Gn.re
      rw [List.length_append] at hMN
      refine ⟨(B - (Ms ++ N).length) * 2 + (W' ++ N).length, by rw [hmm]; simp only [List.length_append, List.length_singleton]; omega, Ms ++ N, W' ++ N, vs', _, _, _, _, _, _, _, _, _, _, rfl, S8, gM8, gD8, hR8, Gn, by simp only [List.length_append]; omega, rfl⟩

end
end KP
namespace KP
open PySem PySem.Spec PyProof.Rows L2 EL
open Evl (pss_cut)

theorem scPacerTells : FnScope ["self", "left", "right", "met", "end"] ["self", "left", "right"] (defScope sPacerTells) := ⟨rfl, rfl, rfl, by decide +kernel, rfl, by decide +kernel, by decide +kernel⟩
def spTells (K : PySem.W.Frag) (C : Addr) : Sp := fun vs H Q _ => ∃ (p : Addr) (pl : Plan) (top many long : Nat) (x y : Str), vs = [.ref p, .str x, .str y] ∧ PacAt K C H p pl ∧ pl.Ok top many long ∧ top ≤ 10 ∧ many ≤ 20 ∧ long ≤ 50 ∧ x.length ≤ 20 ∧ y.length ≤ 20 ∧
  ∀ H', Same H H' → Q (.bl (toldB pl x.cps.toList y.cps.toList)) H'
section
variable {P : Program} {w : World} {K : PySem.W.Frag} {mg : Str → Option Value} {base : Heap}
theorem ok_PacerTells {f C : Addr} {fd : FuncData} {k : Nat} (F : Fun K "tells" "Pacer.tells" sPacerTells f fd) (T : PTxt K C) (nany : mg "any" = none) (nlen : mg "len" = none) (CPlacesMet : Cal P w K mg base k "places_met" ["pacer", "left", "right"] (spMet K C)) : FnOk P w K mg base CX0 (k + 1) f fd ["self", "left", "right"] (spTells K C) := by
  refine F.ok scPacerTells (fun vs H Q E h => ?_) (fun cdv A outer s H vs Q E hr h => ?_)
  · obtain ⟨p, pl, top, many, long, x, y, rfl, _⟩ := h; rfl
  · obtain ⟨p, pl, top, many, long, x, y, rfl, hP, hO, h1, h2, h3, hx, hy, kQ⟩ := h
    have hu := hr.units
    have hu1 : (A.deeper (envOfC "Pacer.tells" (defScope sPacerTells) s.heap.objs.size f cdv)).units + 1 < cLine := by omega
    refine ⟨_, (pss_cons (ps_set (i := 3) scPacerTells.nd rfl (by first | exact Or.inl rfl | exact Or.inr rfl) (pe_cal CPlacesMet hr (by rfl) pass0 (pa_cons (pv 0) (pa_cons (pv 1) (pa_cons (pv 2) pa_nil)))))
      (pss_one (ps_ret (pe_callB (cr_any rfl) (by rfl) nany (by decide +kernel) (pa_cons (pe_lc (own := [("end", 4)]) (g := (gName 4)) (by rfl) scPacerTells.nd (pi_tup (pe_fld (pv 0) rfl)) (blkOk_by (own := [("end", 4)]) (N := ["self", "left", "right", "met", "end"]) (sc := defScope sPacerTells) (by decide +kernel)) (fun _ _ _ _ _ => (pg_name (i := 4) scPacerTells.nd rfl (by first | exact Or.inl rfl | exact Or.inr rfl))) (fun _ _ _ _ _ => pts_nil) (fun _ _ _ _ _ => (pe_cmp (pc_din hu1 (pe_tup (pa_cons (pv 4) (pa_cons (pe_callB (show CallR _ _ (rLenK K) from call_len) (by rfl) nlen boot_len (pa_cons (pv 1) pa_nil)) (pa_cons (pe_callB (show CallR _ _ (rLenK K) from call_len) (by rfl) nlen boot_len (pa_cons (pv 2) pa_nil)) pa_nil)))) (pv 3))))) pa_nil))))), ?_⟩
    obtain ⟨dx, vb, vm, ve, e1, e2, e3, e4⟩ := hP.at'
    have three : 3 ≤ sizeLine := by decide
    have hol := asc_len hO.o
    have hw2 := hO.w2
    obtain ⟨os, hos, hoa⟩ : ∃ os, SqT K H ve os ∧ DqAll K H os (nats pl.outs) := by
      cases e4 with
      | tup hs ha => exact ⟨_, hs, ha⟩
    have los : os.length = pl.outs.length := by rw [hoa.len, List.length_map]
    have lX : x.cps.toList.length = x.length := (str_len x).symm
    have lY : y.cps.toList.length = y.length := (str_len y).symm
    refine ⟨_, rfl, _, rfl, _, rfl, p, pl, top, many, long, x, y, rfl, hP, hO, h1, h2, h3, hx, hy, fun d M H1 s1 gM done => ?_⟩
    generalize x.cps.toList = X at kQ done lX
    generalize y.cps.toList = Y at kQ done lY
    refine ⟨_, rfl, p, C, dx, _, _, rfl, s1 _ _ e1, T.cl, T.nE, pf_e _ _ _ _, ve, rfl, ⟨os, ex_t' s1 hos⟩, fun D nD => ?_⟩
    refine lc_it walk_tup (LcP D (fun _ H' => Same H1 H') (fun j v => ∃ e : Nat, pl.outs[j]? = some e ∧ v = some (V.bl (decide (((e, X.length, Y.length) : Pl) ∈ M))))) (LcP.start (same_upd nD)) (fun i H' _ z => by obtain ⟨_, _, _, _, sm⟩ := z; exact ex_t' (s1.trans sm) hos) ?_ ?_
    · rintro j v H9 H8 hj ⟨zs, hl, hR3, hD3, sm3⟩ ⟨rfl, hv⟩
      obtain ⟨dd, hd, hdq⟩ := hoa.at hv
      rw [List.getElem?_map] at hd
      obtain ⟨e, he, rfl⟩ : ∃ e, pl.outs[j]? = some e ∧ dd = PyData.int (e : Int) := by
        cases e : pl.outs[j]? with
        | none => rw [e] at hd; cases hd
        | some b => rw [e] at hd; exact ⟨b, rfl, (Option.some.inj hd).symm⟩
      cases hdq
      refine ⟨rfl, ?_⟩
      dsimp only [tYes]
      refine iteT ⟨_, rfl, _, rfl, .str x, (x.length : Nat), rfl, ⟨len_sz (by omega), rfl⟩, _, rfl, .str y, (y.length : Nat), rfl, ⟨len_sz (by omega), rfl⟩, three, fun T nT => ?_⟩
      have eT : ([.int (e : Int), .int (x.length : Nat), .int (y.length : Nat)] : List V) = plV (e, X.length, Y.length) := by
        simp only [plV, lX, lY]
      have s9 : Same H8 (upd H8 T (.tup [.int (e : Int), .int (x.length : Nat), .int (y.length : Nat)])) := same_upd nT
      have g9 : upd H8 T (.tup [.int (e : Int), .int (x.length : Nat), .int (y.length : Nat)]) T = some (.tup (plV (e, X.length, Y.length))) := by rw [upd_same, eT]
      generalize upd H8 T (.tup [.int (e : Int), .int (x.length : Nat), .int (y.length : Nat)]) = H10 at s9 g9 ⊢
      refine ⟨.ref d, rfl, d, _, rfl, DGet.t (k := plK (e, X.length, Y.length)) (s9 _ _ (sm3 _ _ gM)) g9, ?_⟩
      rw [plD_get]
      have sm10 := sm3.trans s9
      exact lcp_some hl hR3 (s9 _ _ hD3) (by omega) ⟨e, he, rfl⟩ fun b o q => by rw [upd_ne (ne_of_none q nD)]; exact sm10 b o q
    · rintro H8 ⟨zs, hl, hR3, hD3, sm3⟩
      have e9 := rows_map (f := fun e : Nat => some (V.bl (decide (((e, X.length, Y.length) : Pl) ∈ M)))) (l := pl.outs) (by rw [hl, los]) hR3
      refine ⟨D, pl.outs.map (fun e => decide (((e, X.length, Y.length) : Pl) ∈ M)), rfl, sqOf (by rw [hD3, e9]; simp [List.filterMap_map, Function.comp_def]), ?_⟩
      have ev : (pl.outs.map (fun e => decide (((e, X.length, Y.length) : Pl) ∈ M))).any id = toldB pl X Y := by
        rw [Bool.eq_iff_iff]
        unfold toldB
        rw [@decide_eq_true_iff _ (Classical.propDecidable _)]
        simp only [List.any_map, List.any_eq_true, Function.comp_def, id_eq, decide_eq_true_eq]
        constructor
        · rintro ⟨e, he, hm⟩; exact ⟨e, he, (done _).mp hm⟩
        · rintro ⟨e, he, hm⟩; exact ⟨e, he, (done _).mpr hm⟩
      rw [ev]
      exact kQ H8 (s1.trans sm3)
end
end KP
namespace KP
open PySem PySem.Spec PyProof.Rows L2 EL
open Evl (pss_cut)

theorem scPacerEq : FnScope ["self", "other"] ["self", "other"] (defScope sPacerEq) := ⟨rfl, rfl, rfl, by decide +kernel, rfl, by decide +kernel, by decide +kernel⟩
/-- plans alike, part by part -/
def peq (a b : Plan) : Bool := decide (V.int (a.wide : Int) = V.int (b.wide : Int)) && (PyData.eqv (.tuple (nats a.ins)) (.tuple (nats b.ins)) && (PyData.eqv (.tuple (a.ways.map mvD)) (.tuple (b.ways.map mvD)) && PyData.eqv (.tuple (nats a.outs)) (.tuple (nats b.outs))))
/-- texts of small letters alone, for ==: signs below 128 -/
def AscP (p : Plan) : Prop := ∀ m ∈ p.ways, (∀ c ∈ m.l, c < 128) ∧ ∀ c ∈ m.r, c < 128
theorem nats_lay : ∀ ns : List Nat, PyData.canLayAll0 (nats ns) = true ∧ PyData.depthAll (nats ns) = 0 ∧ PyData.hasDictAll (nats ns) = false
  | [] => by simp [PyData.canLayAll0, PyData.depthAll, PyData.hasDictAll]
  | n :: r => by
    obtain ⟨h1, h2, h3⟩ : PyData.canLayAll0 (r.map fun (n : Nat) => PyData.int (n : Int)) = true ∧ PyData.depthAll (r.map fun (n : Nat) => PyData.int (n : Int)) = 0 ∧ PyData.hasDictAll (r.map fun (n : Nat) => PyData.int (n : Int)) = false := nats_lay r
    simp only [List.map_cons, PyData.canLayAll0, PyData.canLay0, PyData.depthAll, PyData.depth, PyData.hasDictAll, PyData.hasDict, h1, h2, h3]
    exact ⟨rfl, rfl, rfl⟩
theorem shaped_nats (ns : List Nat) : SeqAt.shaped (.tuple (nats ns)) = true := by
  obtain ⟨h1, h2, _⟩ := nats_lay ns
  simp only [SeqAt.shaped, PyData.canLay0, PyData.depth, h1, h2]; rfl
theorem strOk_codes {cs : List Nat} (h : ∀ c ∈ cs, c < 128) : PyData.strOk ⟨cs.toArray⟩ = true := by
  unfold PyData.strOk
  rw [Array.all_eq_true_iff_forall_mem]
  intro c hc
  have := h c (by simpa using hc)
  exact decide_eq_true (by omega)
theorem moves_lay : ∀ ms : List Mv, (∀ m ∈ ms, (∀ c ∈ m.l, c < 128) ∧ ∀ c ∈ m.r, c < 128) → PyData.canLayAll0 (ms.map mvD) = true ∧ PyData.depthAll (ms.map mvD) ≤ 1 ∧ PyData.hasDictAll (ms.map mvD) = false
  | [], _ => by simp [PyData.canLayAll0, PyData.depthAll, PyData.hasDictAll]
  | m :: r, h => by
    obtain ⟨h1, h2, h3⟩ := moves_lay r fun x hx => h x (List.mem_cons_of_mem _ hx)
    obtain ⟨a1, a2⟩ := h m List.mem_cons_self
    have b1 := strOk_codes a1
    have b2 := strOk_codes a2
    simp only [List.map_cons, PyData.canLayAll0, PyData.canLay0, PyData.depthAll, PyData.depth, PyData.hasDictAll, PyData.hasDict, h1, h3, b1, b2]
    refine ⟨rfl, by omega, rfl⟩
theorem shaped_moves {ms : List Mv} (h : ∀ m ∈ ms, (∀ c ∈ m.l, c < 128) ∧ ∀ c ∈ m.r, c < 128) : SeqAt.shaped (.tuple (ms.map mvD)) = true := by
  obtain ⟨h1, h2, _⟩ := moves_lay ms h
  simp only [SeqAt.shaped, PyData.canLay0, PyData.depth, h1, Bool.true_and]
  exact decide_eq_true (by omega)
def spEq (K : PySem.W.Frag) (C : Addr) : Sp := fun vs H Q _ => ∃ (p r : Addr) (a b : Plan), vs = [.ref p, .ref r] ∧ PacAt K C H p a ∧ PacAt K C H r b ∧ AscP a ∧ AscP b ∧ Q (.bl (peq a b)) H
theorem pf_s (n : Int) (b m e : V) : (pf n b m e).lookup ("size" : Str) = some (.int n) := by
  simp [pf, List.lookup]
mutual
theorem dp_of {K : PySem.W.Frag} {H : Hp} : ∀ (d : PyData) (v : V), Dq K H v d → d.hasDict = false → Dp K H v d
  | .none, _, h, _ => by cases h; exact .non
  | .bool b, _, h, _ => by cases h; exact .bl b
  | .int i, _, h, _ => by cases h; exact .int i
  | .str x, _, h, _ => by cases h; exact .str x
  | .list ds, _, h, n => by
    cases h with
    | lst hs ha => exact .lst hs (dpAll_of ds _ ha (by simpa [PyData.hasDict] using n))
  | .tuple ds, _, h, n => by
    cases h with
    | tup hs ha => exact .tup hs (dpAll_of ds _ ha (by simpa [PyData.hasDict] using n))
  | .dict _, _, h, n => by simp [PyData.hasDict] at n
theorem dpAll_of {K : PySem.W.Frag} {H : Hp} : ∀ (ds : List PyData) (vs : List V), DqAll K H vs ds → PyData.hasDictAll ds = false → DpAll K H vs ds
  | [], _, h, _ => by cases h; exact .nil
  | d :: ds, _, h, n => by
    cases h with
    | cons h1 h2 =>
      obtain ⟨n1, n2⟩ : d.hasDict = false ∧ PyData.hasDictAll ds = false := by simpa [PyData.hasDictAll] using n
      exact .cons (dp_of d _ h1 n1) (dpAll_of ds _ h2 n2)
end
section
variable {P : Program} {w : World} {K : PySem.W.Frag} {mg : Str → Option Value} {base : Heap}
theorem ok_PacerEq {f C : Addr} {fd : FuncData} {k : Nat} (F : Fun K "__eq__" "Pacer.__eq__" sPacerEq f fd) (T : PTxt K C) (nisinstance : mg "isinstance" = none) (gC : mg "Pacer" = some (.ref C)) (kC : PySem.W.kitOne K (.ref C) (.ref C) = some true) (hT : ∀ (H : Hp) (a dx : Addr) (fs : List (Str × V)), H a = some (.ins C dx fs) → TyOf K H (.ref a) (.ref C)) : FnOk P w K mg base CX0 (k + 1) f fd ["self", "other"] (spEq K C) := by
  refine F.ok scPacerEq (fun vs H Q E h => ?_) (fun cdv A outer s H vs Q E hr h => ?_)
  · obtain ⟨p, r, a, b, rfl, _⟩ := h; rfl
  · obtain ⟨p, r, a, b, rfl, hP, hR, ha, hb, q⟩ := h
    have hu := hr.units
    refine ⟨_, (pss_one (ps_ret (pe_and (pe_callB call_isi (by rfl) nisinstance boot_isinstance (pa_cons (pv 1) (pa_cons (pe_glob rfl gC (show RelV (.ref C) (.ref C) from rfl)) pa_nil))) (pe_and (pe_cmpR op_eq (pe_fld (pv 0) rfl) (pe_fld (pv 1) rfl) (nomark _)) (pe_and (pe_cmpR (op_eqD hu) (pe_fld (pv 0) rfl) (pe_fld (pv 1) rfl) (nomark _)) (pe_and (pe_cmpR (op_eqD hu) (pe_fld (pv 0) rfl) (pe_fld (pv 1) rfl) (nomark _)) (pe_one (pe_cmpR (op_eqD hu) (pe_fld (pv 0) rfl) (pe_fld (pv 1) rfl) (nomark _))))))))), ?_⟩
    obtain ⟨dx, vb, vm, ve, e1, e2, e3, e4⟩ := hP.at'
    obtain ⟨dy, ub, um, ue, f1, f2, f3, f4⟩ := hR.at'
    refine ⟨.ref r, rfl, .ref r, .ref C, _, _, true, rfl, .own C, .base (hT H r dy _ f1), kC, _, rfl, iteT ?_⟩
    refine ⟨_, rfl, p, C, dx, _, _, rfl, e1, T.cl, T.nS, pf_s _ _ _ _, _, rfl, r, C, dy, _, _, rfl, f1, T.cl, T.nS, pf_s _ _ _ _, rfl, _, rfl, ?_⟩
    unfold peq at q
    cases c1 : decide (V.int (a.wide : Int) = V.int (b.wide : Int)) with
    | false => rw [c1] at q; exact iteF q
    | true =>
    rw [c1] at q
    have nd : ∀ ns : List Nat, (PyData.tuple (nats ns)).hasDict = false := fun ns => by simpa only [PyData.hasDict] using (nats_lay ns).2.2
    refine iteT ⟨_, rfl, p, C, dx, _, _, rfl, e1, T.cl, T.nB, pf_b _ _ _ _, _, rfl, r, C, dy, _, _, rfl, f1, T.cl, T.nB, pf_b _ _ _ _, _, _, dp_of _ _ e2 (nd _), dp_of _ _ f2 (nd _), shaped_nats _, shaped_nats _, _, rfl, ?_⟩
    cases c2 : PyData.eqv (.tuple (nats a.ins)) (.tuple (nats b.ins)) with
    | false => rw [c2] at q; exact iteF q
    | true =>
    rw [c2] at q
    refine iteT ⟨_, rfl, p, C, dx, _, _, rfl, e1, T.cl, T.nM, pf_m _ _ _ _, _, rfl, r, C, dy, _, _, rfl, f1, T.cl, T.nM, pf_m _ _ _ _, _, _, dp_of _ _ e3 (by simpa only [PyData.hasDict] using (moves_lay _ ha).2.2), dp_of _ _ f3 (by simpa only [PyData.hasDict] using (moves_lay _ hb).2.2), shaped_moves ha, shaped_moves hb, _, rfl, ?_⟩
    cases c3 : PyData.eqv (.tuple (a.ways.map mvD)) (.tuple (b.ways.map mvD)) with
    | false => rw [c3] at q; exact iteF q
    | true =>
    rw [c3] at q
    exact iteT ⟨_, rfl, p, C, dx, _, _, rfl, e1, T.cl, T.nE, pf_e _ _ _ _, _, rfl, r, C, dy, _, _, rfl, f1, T.cl, T.nE, pf_e _ _ _ _, _, _, dp_of _ _ e4 (nd _), dp_of _ _ f4 (nd _), shaped_nats _, shaped_nats _, q⟩
end
end KP
/-! sum(lists, []): one list after the other put behind. -/
namespace EL
open PySem PySem.Spec PyProof.Rows L2
/-- the first i parts, one behind the other -/
def catA (parts : Nat → Array Value) : Nat → Array Value
  | 0 => #[]
  | i + 1 => catA parts i ++ parts i
section
variable {prog : Program} {w : World} {A : Around} {E : Value → Shared → Prop} {R : Result → Shared → Prop} {I lx S : Addr} {items : Array Value} {parts : Nat → Array Value}
theorem sumL_loop (hh : A.handled = none) (hI : lx ≠ I) (hSI : S ≠ I) (hSl : S ≠ lx) (hcat : ∀ i, i ≤ items.size → (catA parts i).size ≤ 1000000) :
    ∀ (k i : Nat) (s : Shared) (T : Addr) (c : Nat), items.size - i = k → i ≤ items.size → s.heap.IsListIter I lx i → s.heap.IsList lx items →
      s.heap.get? S = some { cls := .type "list", dict := none, data := .seq #[.ref T] c, slots := #[] } → T ≠ S → T ≠ I → (∃ n, IsL s.heap T (catA parts i) n) →
      (∀ j, i ≤ j → j < items.size → ∃ b n, items[j]? = some (.ref b) ∧ b ≠ S ∧ b ≠ I ∧ IsL s.heap b (parts j) n) →
      (∀ h' tk T' n, (∀ b o, b ≠ I → b ≠ S → s.heap.get? b = some o → h'.get? b = some o) → IsL h' T' (catA parts items.size) n → ((i = items.size ∧ T' = T) ∨ I < T') → R (.ok (.ret (.ref T'))) { s with heap := h', toks := tk }) →
      codeAny (model prog w) A (.builtin "sum.loop" ⟨[.ref I, .ref S, rawInt 2, rawInt 0], []⟩) R s := by
  intro k
  have W : Walks prog w A.in1 I [I, lx] [I] items.size _ _ := Walks.list (A := A.in1) hh I lx hI items
  induction k with
  | zero =>
    intro i s T c hk hi hit hlx hS hTS hTI hT hp hR
    obtain rfl : i = items.size := by omega
    obtain ⟨nT, hT⟩ := hT
    refine codeAny_builtin PySem.F.entry_sum_loop ?_
    rw [Around.under_plainId PySem.F.plain_sum_loop _]
    refine wpAny_bind (wpAny_seqItems hS rfl ?_)
    show wpAny _ A.in1 (tryCatch (pyNext (.ref I)) _ >>= _) _ _ s
    refine wpAny_bind (wpAny_tryCatch (W.done s _ _ ⟨hit, hlx⟩ fun h' tk keep => ?_))
    have kp : ∀ b o, b ≠ I → b ≠ S → s.heap.get? b = some o → h'.get? b = some o := fun b o hb _ e => keep b o (by simpa using hb) e
    exact wpAny_pure (hR h' tk T nT kp (kp T _ hTI hTS hT) (.inl ⟨rfl, rfl⟩))
  | succ k ih =>
    intro i s T c hk hi hit hlx hS hTS hTI hT hp hR
    have hlt : i < items.size := by omega
    obtain ⟨nT, hT⟩ := hT
    obtain ⟨b, nb, hb1, hbS, hbI, hb2⟩ := hp i (Nat.le_refl _) hlt
    refine codeAny_builtin PySem.F.entry_sum_loop ?_
    rw [Around.under_plainId PySem.F.plain_sum_loop _]
    refine wpAny_bind (wpAny_seqItems hS rfl ?_)
    show wpAny _ A.in1 (tryCatch (pyNext (.ref I)) _ >>= _) _ _ s
    refine wpAny_bind (wpAny_tryCatch (W.item i s _ _ hlt ⟨hit, hlx⟩ fun v h1 tk hv st1 keep => ?_))
    have ev : v = .ref b := by
      have : items[i]? = some v := hv
      rw [hb1] at this
      exact (Option.some.inj this).symm
    subst ev
    have kp : ∀ b o, b ≠ I → s.heap.get? b = some o → h1.get? b = some o := fun b o hb e => keep b o (by simpa using hb) e
    have hS1 := kp S _ hSI hS
    have hT1 := kp T _ hTI hT
    have hb1' := kp b _ hbI hb2
    have hsz : (catA parts i).size + (parts i).size ≤ 1000000 := by
      have := hcat (i + 1) hlt
      simpa [catA, Array.size_append] using this
    show wpAny _ A.in1 ((holding [Value.ref b] (binaryOp .Add (.ref T) (.ref b))).attempt >>= _) _ _ _
    refine wpAny_bind (wpAny_attempt (wpAny_holding (PySem.P.add_list (hsz := Nat.le_trans hsz (by decide)) hT1 hb1' ?_)))
    generalize hN : h1.objs.size = N
    have nN : h1.get? N = none := by
      cases e : h1.get? N with
      | none => rfl
      | some o => exact absurd (Heap.lt_size e) (by rw [hN]; exact Nat.lt_irrefl _)
    have NI : N ≠ I := fun e => by
      obtain ⟨o, ho, _⟩ := st1.1
      rw [← e, nN] at ho; cases ho
    have NS : N ≠ S := fun e => by rw [← e, nN] at hS1; cases hS1
    have IN : I < N := by
      obtain ⟨o, ho, _⟩ := st1.1
      rw [← hN]; exact Heap.lt_size ho
    have hS2 : (h1.push { cls := .type "list", data := .seq (catA parts i ++ parts i) }).get? S = _ := Heap.get?_push_of_some _ hS1
    have gN : (h1.push { cls := .type "list", data := .seq (catA parts i ++ parts i) }).get? N = some { cls := .type "list", data := .seq (catA parts i ++ parts i) } := by rw [← hN]; exact Heap.get?_push_size _ rfl
    have kp2 : ∀ b o, b ≠ I → s.heap.get? b = some o → (h1.push { cls := .type "list", data := .seq (catA parts i ++ parts i) }).get? b = some o := fun b o hb e => Heap.get?_push_of_some _ (kp b o hb e)
    have it2 : (h1.push { cls := .type "list", data := .seq (catA parts i ++ parts i) }).IsListIter I lx (i + 1) := st1.1.at fun o e => Heap.get?_push_of_some _ e
    have lx2 : (h1.push { cls := .type "list", data := .seq (catA parts i ++ parts i) }).IsList lx items := st1.2.at fun o e => Heap.get?_push_of_some _ e
    generalize h1.push { cls := .type "list", data := .seq (catA parts i ++ parts i) } = h2 at hS2 gN kp2 it2 lx2 ⊢
    show wpAny _ A.in1 (updateSeq S (fun _ => #[.ref N]) >>= _) _ _ _
    refine wpAny_bind (wpAny_updateSeq hS2 rfl ?_)
    have hS3 := Heap.get?_update_self (Obj.mapSeq fun _ => #[Value.ref N]) hS2 rfl
    refine wpAny_bind (wpAny_letGo (wpAny_bind (wpAny_updateSeq hS3 rfl (wpAny_pure ⟨plainId_quiet PySem.F.plain_sum_loop _, ?_⟩))))
    have oth : ∀ b o, b ≠ S → h2.get? b = some o → ((h2.update S (Obj.mapSeq fun _ => #[Value.ref N])).update S (Obj.mapSeq fun _ => #[Value.ref N])).get? b = some o := fun b o hb e =>
      (Heap.get?_update_other _ _ (Ne.symm hb)).trans ((Heap.get?_update_other _ _ (Ne.symm hb)).trans e)
    refine ih (i + 1) _ N _ (by omega) hlt (it2.at fun o e => oth _ _ (Ne.symm hSI) e) (lx2.at fun o e => oth _ _ (Ne.symm hSl) e) (Heap.get?_update_self _ hS3 rfl) NS NI ⟨_, oth N _ NS gN⟩ (fun j h1 h2 => ?_) fun h' tk' T' n k' hT' hn => ?_
    · obtain ⟨b', n', q1, q2, q3, q4⟩ := hp j (by omega) h2
      exact ⟨b', n', q1, q2, q3, oth _ _ q2 (kp2 _ _ q3 q4)⟩
    · refine hR h' tk' T' n (fun b o hb1 hb2 e => k' b o hb1 hb2 (oth b o hb2 (kp2 b o hb1 e))) hT' (.inr ?_)
      rcases hn with ⟨_, rfl⟩ | hn
      · exact IN
      · exact hn
theorem args_sum2 (a b : Value) : argsOk "sum" ⟨[a, b], []⟩ := by unfold argsOk; kernel_rfl
theorem sumL_call {s : Shared} {t : Addr} {Q : Value → Shared → Prop} (hh : A.handled = none) (hlx : s.heap.IsList lx items) (ht : ∃ n, IsL s.heap t #[] n) (h1 : 0 < items.size) (hcat : ∀ i, i ≤ items.size → (catA parts i).size ≤ 1000000)
    (hp : ∀ j, j < items.size → ∃ b n, items[j]? = some (.ref b) ∧ IsL s.heap b (parts j) n)
    (hQ : ∀ h' tk T' n, (∀ b o, s.heap.get? b = some o → h'.get? b = some o) → IsL h' T' (catA parts items.size) n → s.heap.objs.size ≤ T' → Q (.ref T') { s with heap := h', toks := tk }) :
    wpAny (model prog w) A (call (.builtin "sum") [.ref lx, .ref t]) Q E s := by
  refine call_function_tree PySem.F.kind_sum PySem.F.plain_sum PySem.F.entry_sum (args_sum2 _ _) ?_
  unfold Builtin.«sum»
  simp only [List.length_cons, List.length_nil]
  rw [if_neg (by decide)]
  refine wpAny_bind (wpAny_of_eq (show Builtin.Builtins.bindParams "sum" ["start"] 0 ⟨[.ref t], []⟩ = pure [some (.ref t)] from rfl) ?_)
  refine wpAny_bind (wpAny_pyIter_list hlx ?_)
  obtain ⟨nt, ht⟩ := ht
  generalize hI : s.heap.objs.size = it
  have up : ∀ b o, s.heap.get? b = some o → (s.heap.push { cls := .type "list_iterator", data := .fields #[.ref lx, .int 0 0] }).get? b = some o := fun b o e => Heap.get?_push_of_some _ e
  have gI : (s.heap.push { cls := .type "list_iterator", data := .fields #[.ref lx, .int 0 0] }).get? it = some { cls := .type "list_iterator", data := .fields #[.ref lx, .int 0 0] } := by rw [← hI]; exact Heap.get?_push_size _ rfl
  have szI : (s.heap.push { cls := .type "list_iterator", data := .fields #[.ref lx, .int 0 0] }).objs.size = it + 1 := by rw [Heap.size_push, hI]
  generalize s.heap.push { cls := .type "list_iterator", data := .fields #[.ref lx, .int 0 0] } = h1 at up gI szI ⊢
  refine wpAny_bind (wpAny_pure ?_)
  have ty : ({ s with heap := h1 } : Shared).TypeIs (.ref t) "list" := ⟨_, up _ _ ht, rfl⟩
  simp only [List.forIn_cons, List.forIn_nil]
  refine wpAny_bind (wpAny_bind (wpAny_bind (wpAny_isInstance (T := "list") (b := false) ty sub_list_str ?_)))
  simp only [Bool.false_eq_true, if_false]
  refine wpAny_pure (wpAny_bind (wpAny_bind (wpAny_isInstance (T := "list") (b := false) ty PySem.F.sub_list_bytes ?_)))
  simp only [Bool.false_eq_true, if_false]
  refine wpAny_pure (wpAny_bind (wpAny_bind (wpAny_isInstance (T := "list") (b := false) ty PySem.F.sub_list_bytearray ?_)))
  simp only [Bool.false_eq_true, if_false]
  refine wpAny_pure (wpAny_pure ?_)
  refine wpAny_bind (wpAny_newObj_type ?_)
  have old : ∀ b o, s.heap.get? b = some o → b < it := fun b o e => by rw [← hI]; exact Heap.lt_size e
  have ltx : lx < it := by obtain ⟨o, ho, _⟩ := hlx; exact old _ _ ho
  have ltt : t < it := old _ _ ht
  have itS : it < h1.objs.size := by rw [szI]; exact Nat.lt_succ_self _
  have up2 : ∀ b o, h1.get? b = some o → (h1.push { cls := .type "list", data := .seq #[.ref t] }).get? b = some o := fun b o e => Heap.get?_push_of_some _ e
  show wpAny _ _ (pure _) _ _ _
  refine wpAny_pure ⟨plainId_quiet PySem.F.plain_sum_loop _, sumL_loop (I := it) (lx := lx) (S := h1.objs.size) (items := items) (parts := parts) hh (Nat.ne_of_lt ltx) (Nat.ne_of_gt itS) (Nat.ne_of_gt (Nat.lt_trans ltx itS)) hcat items.size 0 _ t _ rfl (Nat.zero_le _) ⟨_, up2 _ _ gI, rfl, rfl⟩ ?_ (Heap.get?_push_size _ rfl) (Nat.ne_of_lt (Nat.lt_trans ltt itS)) (Nat.ne_of_lt ltt) ⟨nt, up2 _ _ (up _ _ ht)⟩ (fun j _ hj => ?_) fun h' tk T' n keep hT' hn => ?_⟩
  · obtain ⟨o, ho, hr⟩ := hlx
    exact ⟨o, up2 _ _ (up _ _ ho), hr⟩
  · obtain ⟨b, n, q1, q2⟩ := hp j hj
    have := old _ _ q2
    exact ⟨b, n, q1, Nat.ne_of_lt (Nat.lt_trans this itS), Nat.ne_of_lt this, up2 _ _ (up _ _ q2)⟩
  · refine hQ h' tk T' n (fun b o e => keep b o (Nat.ne_of_lt (old b o e)) (Nat.ne_of_lt (Nat.lt_trans (old b o e) itS)) (up2 _ _ (up _ _ e))) hT' ?_
    rcases hn with ⟨h0, _⟩ | hn
    · omega
    · rw [hI]; exact Nat.le_of_lt hn
end
theorem vals_append {xs ys : List V} {us ws : List Value} (h1 : Vals xs us) (h2 : Vals ys ws) : Vals (xs ++ ys) (us ++ ws) := by
  induction h1 with
  | nil => exact h2
  | cons a _ ih => exact .cons a ih
def rSumL (K : PySem.W.Frag) : List V → Hp → VK → Prop := fun xs H Q => ∃ (l t : Addr) (vs : List V) (parts : List (List V)), xs = [.ref l, .ref t] ∧ SqL K H l vs ∧ H t = some (.lst []) ∧ 0 < vs.length ∧ vs.length = parts.length ∧ parts.flatten.length ≤ 1000000 ∧
  (∀ (j : Nat) (p : List V), parts[j]? = some p → ∃ b, vs[j]? = some (.ref b) ∧ H b = some (.lst p)) ∧ ∀ q, H q = none → Q (.ref q) (L2.upd H q (.lst parts.flatten))
theorem cr_sumL {X : Cx} (hc : X.calm = true) : CallR X (.builtin "sum") (rSumL X.K) := by
  intro pins s σ H xs us Q I rv h
  obtain ⟨l, t, vs, parts, rfl, hS, ht, h1, hlen, hz, hk, q⟩ := h
  obtain ⟨u1, u2, rfl, r1, r2⟩ : ∃ u1 u2, us = [u1, u2] ∧ RelV (.ref l) u1 ∧ RelV (.ref t) u2 := by
    cases rv with
    | cons a r =>
      cases r with
      | cons b r => cases r; exact ⟨_, _, rfl, a, b⟩
  cases r1
  cases r2
  obtain ⟨its, rv2, pl, _⟩ := I.list hS
  have li : its.length = vs.length := rv2.length.symm
  have ch : ∀ j : Nat, ∃ ws : List Value, ∀ p, parts[j]? = some p → Vals p ws ∧ ∃ b n, its.toArray[j]? = some (.ref b) ∧ IsL s.heap b ws.toArray n := fun j => by
    cases e : parts[j]? with
    | none => exact ⟨[], fun p h => by cases h⟩
    | some p =>
      obtain ⟨b, hb1, hb2⟩ := hk j p e
      obtain ⟨u, hu1, hu2⟩ := rv2.get hb1
      cases hu2
      obtain ⟨_, ws, n, rw', gb⟩ := (show ObjOk X.prog X.w H s.heap b (.lst p) from I.hok b _ hb2)
      exact ⟨ws, fun p' h => by cases h; exact ⟨rw', b, n, by simpa using hu1, gb⟩⟩
  obtain ⟨f, hf⟩ := Classical.skolem.mp ch
  have vals : ∀ i, i ≤ parts.length → Vals (parts.take i).flatten (catA (fun j => (f j).toArray) i).toList := by
    intro i
    induction i with
    | zero => intro _; exact .nil
    | succ i ih =>
      intro hi
      have e : parts[i]? = some (parts[i]'(by omega)) := List.getElem?_eq_getElem (by omega)
      rw [List.take_add_one, e]
      simp only [Option.toList_some, List.flatten_append, List.flatten_cons, List.flatten_nil, List.append_nil, catA, Array.toList_append]
      exact vals_append (ih (by omega)) (hf i _ e).1
  have szs : ∀ i, i ≤ parts.length → (catA (fun j => (f j).toArray) i).size ≤ 1000000 := fun i hi => by
    have e1 : (parts.take i).flatten.length = (catA (fun j => (f j).toArray) i).toList.length := (vals i hi).length
    have e3 : (catA (fun j => (f j).toArray) i).toList.length = (catA (fun j => (f j).toArray) i).size := Array.length_toList
    have e2 : parts.flatten.length = (parts.take i).flatten.length + (parts.drop i).flatten.length := by
      rw [← List.length_append, ← List.flatten_append, List.take_append_drop]
    omega
  have sz : its.toArray.size = parts.length := by rw [List.size_toArray, li, hlen]
  obtain ⟨_, w0, n0, r0, g0⟩ := (show ObjOk X.prog X.w H s.heap t (.lst []) from I.hok t _ ht)
  cases r0
  refine sumL_call (parts := fun j => (f j).toArray) (I.ok.hd hc) pl.isList ⟨n0, g0⟩ (by rw [sz, ← hlen]; exact h1) (fun i hi => szs i (by rw [← sz]; exact hi)) (fun j hj => ?_) fun h' tk T' n keep hT' le => ?_
  · exact (hf j _ (List.getElem?_eq_getElem (by rw [← sz]; exact hj))).2
  · rw [sz] at hT'
    have v2 := vals parts.length (Nat.le_refl _)
    rw [List.take_of_length_le (Nat.le_refl _)] at v2
    refine ⟨.ref T', _, I.laid (t' := tk) (o := .lst parts.flatten) keep le ⟨len_sz hz, _, n, v2, ?_⟩, rfl, q T' (I.hok.fresh le)⟩
    rw [Array.toArray_toList]
    exact hT'
end EL
/-! == and != of instances by their class's own __eq__, whatever it answers; o.m(k = v, ..) by keywords alone. -/
namespace EL
open PySem PySem.Spec PyProof.Rows L2
section
variable {X : Cx} {k : Nat} {C f : Addr} {fd : FuncData} {ps : List Str} {sp : Sp} {E : XK}
/-- an instance compared by its own __eq__: what is asked -/
def rOwn (C : Addr) (sp : Sp) (E : XK) (g : Bool → Bool) : R2 := fun x y H Q => ∃ a b dx dy fs gs, x = .ref a ∧ y = .ref b ∧ H a = some (.ins C dx fs) ∧ H b = some (.ins C dy gs) ∧ sp [.ref a, .ref b] H (fun v H' => ∃ r : Bool, v = .bl r ∧ Q (.bl (g r)) H') E
theorem run_own {A : Around} {pins : List (Addr × Obj)} {s : Shared} {σ : L2.St} {H : Hp} {a b : Addr} {Q : VK} (hA : A.frames = X.A.frames) (hr : Room k A) (F : FnOk X.prog X.w X.K X.mg X.base CX0 k f fd ps sp) (hb : Binds X.K fd ps []) (hx : Passes CX0 X E) (I : Inv X pins σ H s)
    (hsp : sp [.ref a, .ref b] H (fun v H' => ∃ r : Bool, v = .bl r ∧ Q v H') E) :
    wpAny (model X.prog X.w) A (call (.ref f) [.ref a, .ref b]) (fun v s' => ∃ r : Bool, v = .bool r ∧ EP X pins σ (fun v H' => v = .bl r ∧ Q v H') (.bool r) s') X.xe s := by
  have e0 : Env0 X.prog X.w X.K X.mg X.base A X.stack s H := by
    have e := I.env0
    exact ⟨by rw [hA]; exact e.frames, e.mod, e.bs, e.bsz, e.funs, e.frf, e.hok, e.bare⟩
  have hl := F.len _ _ _ _ hsp
  have r2 : Vals [V.ref a, V.ref b] [Value.ref a, Value.ref b] := .cons rfl (.cons rfl .nil)
  refine wpAny_call (codeAny_mono (F.run A X.stack s H ⟨[.ref a, .ref b], []⟩ [.ref a, .ref b] [.ref a, .ref b] _ E hr e0 (by
    have := hb s [.ref a, .ref b] I.kIn (by simpa using hl)
    simpa using this) r2 hsp) fun r s' hq => ?_)
  cases r with
  | error e => exact hx pins σ H s e s' I hq
  | ok fl =>
    cases fl with
    | ret w =>
      obtain ⟨z, H', I', rz, r, ez, q⟩ := I.after hq
      subst ez
      cases rz
      exact ⟨r, rfl, .bl r, H', I', rfl, rfl, q⟩
    | next => exact False.elim hq
    | brk => exact False.elim hq
    | cont => exact False.elim hq
theorem op_eqOwn (F : FnOk X.prog X.w X.K X.mg X.base CX0 k f fd ps sp) (hr : Room k X.A) (hs : PySem.W.findIn X.K (.ref C) "__eq__" = some (some (.ref f))) (hf : PySem.W.isFn X.K (.ref f) = true) (hb : Binds X.K fd ps []) (hx : Passes CX0 X E) :
    OpR X (compareOp .Eq) (rOwn C sp E id) := by
  intro pins s σ H x y v u Q I rx ry hq
  obtain ⟨a, b, dx, dy, fs, gs, rfl, rfl, ha, hb', hsp⟩ := hq
  cases rx
  cases ry
  obtain ⟨mA, J, _⟩ := ins_get I.hok ha
  obtain ⟨mB, J', _⟩ := ins_get I.hok hb'
  obtain ⟨od, J, _⟩ := J.look
  obtain ⟨od', J', _⟩ := J'.look
  obtain ⟨m, hF⟩ := I.fr
  show wpAny (model X.prog X.w) X.A (richCompare .Eq (.ref a) (.ref b)) (EP X pins σ Q) X.xe s
  refine PySem.W.cmp_K (op := .Eq) (tb := .ref C) hr.units0 hF I.ok.mod.kin J J'.type (by simp [PySem.W.notFirst]) hs hf ?_
  refine wpAny_mono (run_own (Q := Q) rfl hr F hb hx I (show sp _ H (fun v H' => ∃ r : Bool, v = .bl r ∧ Q v H') E from ?_)) (fun r s' hq => ?_) fun _ _ z => z
  · have e : (fun (v : V) (H' : Hp) => ∃ r : Bool, v = .bl r ∧ Q (.bl (id r)) H') = fun v H' => ∃ r : Bool, v = .bl r ∧ Q v H' := by
      funext v H'
      apply propext
      constructor
      · rintro ⟨r, rfl, q⟩; exact ⟨r, rfl, q⟩
      · rintro ⟨r, rfl, q⟩; exact ⟨r, rfl, q⟩
    rw [← e]; exact hsp
  · obtain ⟨r, rfl, z, H', I', rz, rfl, q⟩ := hq
    exact ⟨_, H', I', rz, q⟩
theorem ne_units {A : Around} {k : Nat} (h : Room (k + 1) A) : A.units < cLine := h.units0
/-- what != wants to know of the class -/
structure NeOwn (K : PySem.W.Frag) (C f : Addr) : Prop where
  ne : PySem.W.findIn K (.ref C) "__ne__" = some (some (.builtin "object.__ne__"))
  eq : PySem.W.findIn K (.ref C) "__eq__" = some (some (.ref f))
  fn : PySem.W.isFn K (.ref f) = true
  ob : PySem.W.subIn K (.ref C) (.type "object") = some true
theorem op_neOwn (F : FnOk X.prog X.w X.K X.mg X.base CX0 k f fd ps sp) (hr : Room (k + 1) X.A) (N : NeOwn X.K C f) (hb : Binds X.K fd ps []) (hx : Passes CX0 X E) :
    OpR X (compareOp .NotEq) (rOwn C sp E not) := by
  intro pins s σ H x y v u Q I rx ry hq
  obtain ⟨a, b, dx, dy, fs, gs, rfl, rfl, ha, hb', hsp⟩ := hq
  cases rx
  cases ry
  obtain ⟨mA, J, _⟩ := ins_get I.hok ha
  obtain ⟨mB, J', _⟩ := ins_get I.hok hb'
  obtain ⟨od, J, _⟩ := J.look
  obtain ⟨od', J', _⟩ := J'.look
  show wpAny (model X.prog X.w) X.A (richCompare .NotEq (.ref a) (.ref b)) (EP X pins σ Q) X.xe s
  have inA : wpAny (model X.prog X.w) X.A.in1 (call (.ref f) [.ref a, .ref b]) (fun v s' => ∃ r : Bool, v = .bool r ∧ EP X pins σ Q (.bool (!r)) s') X.xe s := by
    refine wpAny_mono (run_own (X := X) (A := X.A.in1) (Q := fun v H' => ∃ r, v = V.bl r ∧ Q (.bl (!r)) H') rfl hr.in1 F hb hx I ?_) (fun r s' hq => ?_) fun _ _ z => z
    · have e : (fun (v : V) (H' : Hp) => ∃ r : Bool, v = .bl r ∧ Q (.bl (not r)) H') = fun v H' => ∃ r : Bool, v = .bl r ∧ ∃ r, v = V.bl r ∧ Q (.bl (!r)) H' := by
        funext v H'
        apply propext
        constructor
        · rintro ⟨r, rfl, q⟩; exact ⟨r, rfl, r, rfl, q⟩
        · rintro ⟨r, rfl, r', e, q⟩; cases e; exact ⟨r, rfl, q⟩
      rw [← e]; exact hsp
    · obtain ⟨r, rfl, z, H', I', rz, rfl, r', e, q⟩ := hq
      cases e
      exact ⟨r, rfl, .bl (!r), H', I', rfl, q⟩
  have one : wpAny (model X.prog X.w) X.A (call (.builtin "object.__ne__") [.ref a, .ref b]) (fun v s' => v ≠ .notImplemented ∧ EP X pins σ Q v s') X.xe s := by
    have t2 : PySem.W.Looks (model X.prog X.w) s.heap (isInstance (.ref a) (.type "object")) true := J.type.andThen (PySem.W.looks_subIn I.kIn N.ob)
    refine wpAny_call (codeAny_call_builtin PySem.F.cmp_object.ne.plain PySem.F.cmpEntry_ne (@PySem.W.check_slot (model X.prog X.w) _ _ _ "object.__ne__" "object" "__ne__" (.ref a) [.ref b] [] _ PySem.F.cmpKind_ne PySem.F.cmpSplit_ne t2 (PySem.F.cmpArgs_ne _ _) ?_))
    show wpAny (model X.prog X.w) X.A.in1 (Builtin.«object.__ne__» ⟨[.ref a, .ref b], []⟩) _ _ s
    unfold Builtin.«object.__ne__»
    repeat (first
      | with_reducible refine wpAny_cRoomFor hr.in1.units0 ?_
      | (refine wpAny_bind (m := callSpecialIfBound? (.ref a) (Str.ofString "__eq__") [.ref b])
          (PySem.W.ifBound_K I.kIn J N.eq N.fn (wpAny_mono inA (fun r s' hr => by
            obtain ⟨b, rfl, hq⟩ := hr
            repeat (first | exact ⟨by simp, hq⟩ | exact wpAny_pure ⟨by simp, hq⟩ | exact wpAny_truthy_bool ⟨by simp, hq⟩ | (refine wpAny_bind (m := truthy (.bool _)) (wpAny_truthy_bool ?_)) | wp_step)) fun _ _ e => e)))
      | wp_step)
  have try1 : wpAny (model X.prog X.w) X.A (tryCompare (.ref a) "__ne__" (.ref b)) (fun r s' => ∃ v, r = some v ∧ EP X pins σ Q v s') X.xe s := by
    unfold tryCompare
    refine wpAny_bind ?_
    simp only [callSpecialIfBound?, bindSpecialIfBound?]
    refine wpAny_holding (wpAny_bind (wpAny_bind (wpAny_bind (J.type.here ((PySem.W.looks_findIn I.kIn N.ne).here ?_)))))
    refine wpAny_bind (wpAny_askSetting (wpAny_ite ?_))
    have fin : wpAny (model X.prog X.w) X.A (call (.builtin "object.__ne__") ([.ref a] ++ [.ref b]) >>= fun v => pure (some v)) (fun r s' => wpAny (model X.prog X.w) X.A (match r with | some .notImplemented => pure none | none => pure none | some v => pure (some v)) (fun r s' => ∃ v, r = some v ∧ EP X pins σ Q v s') X.xe s') X.xe s := by
      refine wpAny_bind (wpAny_mono one (fun v s' h' => wpAny_pure ?_) fun _ _ h' => h')
      obtain ⟨hn, q⟩ := h'
      cases v <;> first | exact absurd rfl hn | exact wpAny_pure ⟨_, rfl, q⟩
    split
    · exact wpAny_bind ((PySem.W.Looks.of_pure (PySem.F.cmp_object.ne.bind _)).here (wpAny_pure (by exact fin)))
    · exact wpAny_tryCatch (wpAny_bind ((PySem.W.Looks.of_pure (PySem.F.cmp_object.ne.bind _)).here (wpAny_pure (by exact fin))))
  unfold richCompare
  simp only [oneThing_ref]
  refine wpAny_holding (wpAny_bind (wpAny_cRoomFor hr.units0 ?_))
  refine wpAny_bind (J.type.here (wpAny_bind (J'.type.here ?_)))
  rw [show (Value.ref C != Value.ref C) = false from by simp]
  simp only [Bool.false_eq_true, if_false]
  refine wpAny_bind (wpAny_pure ?_)
  simp only [Bool.false_eq_true, if_false]
  refine wpAny_bind (wpAny_mono try1 (fun r s' z => ?_) fun _ _ e => e)
  obtain ⟨v, rfl, hq⟩ := z
  exact wpAny_pure hq
end
/-! ### o.m(k = v, ..): keywords alone -/
section
variable {X : Cx} {k : Nat} {f C : Addr} {fd : FuncData} {m : Str} {ps ks : List Str} {sp : Sp} {E : XK} {o : Expr} {kws : List Keyword} {ta : TE} {tk : TA} {apos pos : Pos} {g : List Value → List Value → List Value} {gV : List V → List V → List V}
theorem pe_methK0 {pl : Sem Bool} (he : PE X o ta) (c : Cls X.K C) (hm : Meth X.K C m f) (F : FnOk X.prog X.w X.K X.mg X.base CX0 k f fd ps sp) (hr : Room k X.A) (kb : KBinds X.K fd ps ks g gV) (hx : Passes CX0 X E) (hkw : PK X kws tk)
    (hall : (backToKw pos (keywordEach kws X.env)).all (·.1.isSome) = true := by rfl) (hks : (backToKw pos (keywordEach kws X.env)).filterMap (·.1) = ks := by rfl)
    (hpl : ((backTo pos (starEach [] X.env)).any (·.1) || (backToKw pos (keywordEach kws X.env)).any (·.1.isNone)) = false := by rfl)
    (ht : eval (.Call (.Attribute o m apos) [] kws pos) X.env = (do
      let ov ← eval o X.env
      standAt apos.atName
      let (f, first) ← holding [ov] (getMethod ov m pl)
      callWith pos f first (backTo pos (starEach [] X.env)) (backToKw pos (keywordEach kws X.env))) := by rfl) :
    PE X (.Call (.Attribute o m apos) [] kws pos) (fun σ H Q => ta σ H fun x H1 => ∃ a dx fs, x = .ref a ∧ H1 a = some (.ins C dx fs) ∧ fs.lookup m = none ∧ tk σ H1 fun zs H2 => sp (gV [.ref a] zs) H2 Q E) := by
  refine ⟨fun pins s σ H Q I h => ?_⟩
  refine PySem.W.methodCall_KW (pl := pl) (thn (he.run pins s σ H _ I h) fun u s1 ⟨x, H1, I1, rx, a, dx, fs, ex, ea, l, q⟩ => ?_) ht
  subst ex
  obtain rfl : u = Value.ref a := rx
  refine getmeth_ok I1 ea c hm l ?_
  refine PySem.W.callWith_KW0 (first := [.ref a]) (h₀ := X.base) I1.ok.mod.kin hm.kp hall (thn (hkw.run pos pins s1 σ H1 _ I1 q) fun ws s2 hh => ?_) hpl
  obtain ⟨zs, H2, I2, rz, q2⟩ := hh
  refine ⟨I2.kIn, ?_⟩
  rw [hks]
  exact run_fnk (us := [.ref a]) (vs := [.ref a]) F hr kb hx I2 (.cons rfl .nil) rz q2
end
def kwM2r {α : Type} : List α → List α → List α
  | [s], [z, y] => [s, y, z]
  | _, _ => []
theorem kwM2r_rel {vs : List V} {us : List Value} {zs : List V} {ws : List Value} (h1 : Vals vs us) (h2 : Vals zs ws) : Vals (kwM2r vs zs) (kwM2r us ws) := by
  cases h1 with
  | nil => exact .nil
  | cons r0 rr0 =>
    cases rr0 with
    | cons _ _ => exact .nil
    | nil =>
    cases h2 with
    | nil => exact .nil
    | cons r rr =>
      cases rr with
      | nil => exact .nil
      | cons r2 rr2 =>
        cases rr2 with
        | nil => exact .cons r0 (.cons r2 (.cons r .nil))
        | cons _ _ => exact .nil
theorem Fun.kwM2r {K : PySem.W.Frag} {x qual : Str} {st : Stmt} {f : Addr} {fd : FuncData} {r p q : Str} (F : Fun K x qual st f fd)
    (h : ∀ (kV doc pm : Value) (an : Option Addr) (cdv ct : Value) (t u v : Value), bindArgs (PySem.W.fnOf x qual (defArgs st) (defBody st) (defScope st) .none kV doc pm an cdv ct) ⟨[t], [(q, u), (p, v)]⟩ = pure [(r, t), (p, v), (q, u)]) : KBinds K fd [r, p, q] [q, p] EL.kwM2r EL.kwM2r := by
  obtain ⟨oc, od, kV, doc, pm, an, cdv, ct, osl, rfl, lk, hcd⟩ := F.ex
  refine ⟨fun s us ws _ hl => ?_, kwM2r_rel⟩
  match us, ws, hl with
  | [t], [u, v], _ => exact .of_eq (h kV doc pm an cdv ct t u v)
  | [], _, hl => exact absurd hl (by simp [EL.kwM2r])
  | [_], [], hl => exact absurd hl (by simp [EL.kwM2r])
  | [_], [_], hl => exact absurd hl (by simp [EL.kwM2r])
  | [_], _ :: _ :: _ :: _, hl => exact absurd hl (by simp [EL.kwM2r])
  | _ :: _ :: _, _, hl => exact absurd hl (by simp [EL.kwM2r])
/-! ### a text, so often -/
def rRepS : R2 := fun x y H Q => ∃ z k, x = .str z ∧ y = .int k ∧ 2 ≤ k ∧ k ≤ 1000 ∧ z.length ≠ 0 ∧ z.length ≤ 1000 ∧ Q (.str ⟨(List.replicate k.toNat z.cps).foldl (· ++ ·) #[]⟩) H
theorem fold_size (c : Array Nat) : ∀ (n : Nat) (acc : Array Nat), (List.foldl (fun x1 x2 => x1 ++ x2) acc (List.replicate n c)).size = acc.size + n * c.size
  | 0, acc => by simp
  | n + 1, acc => by
    rw [List.replicate_succ, List.foldl_cons, fold_size c n, Array.size_append, Nat.add_mul]; omega
theorem op_repS {X : Cx} : OpR X (binaryOp .Mult) rRepS := by
  intro pins s σ H x y v u Q I rx ry h
  obtain ⟨z, k, rfl, rfl, h1, h2, hz, hz2, q⟩ := h
  obtain ⟨t, rfl⟩ := rx
  obtain ⟨t', rfl⟩ := ry
  have c0 : (decide (k < -(2 ^ 63 : Int)) || decide (k ≥ 2 ^ 63)) = false := by
    rw [decide_eq_false (by omega), decide_eq_false (by omega)]; rfl
  have c1 : (k == 1 || z.length == 0) = false := by
    rw [Bool.or_eq_false_iff]
    exact ⟨by simpa using (by omega : k ≠ 1), by simpa using hz⟩
  have hm : z.length * k.toNat ≤ 1000 * 1000 := Nat.mul_le_mul hz2 (by omega)
  refine P.mul_str c0 (fun _ _ => ?_) (fun _ _ => ?_) ?_
  · have : (2 : Int) ^ 63 - 1 = 9223372036854775807 := by decide
    rw [this]
    have : (1000 : Int) * k ≤ 9223372036854775807 := by omega
    have := Int.le_ediv_of_mul_le (by omega : 0 < k) this
    omega
  · have : sizeLine = 16777216 := by decide
    exact decide_eq_false (by omega)
  · rw [if_neg (by omega), if_neg (by rw [c1]; exact Bool.false_ne_true)]
    refine ⟨?_, ⟨.str _, H, I.tok _, ⟨_, rfl⟩, q⟩⟩
    show (List.foldl (fun x1 x2 => x1 ++ x2) #[] (List.replicate k.toNat z.cps)).size ≤ sizeLine
    rw [fold_size]
    have h0 : (#[] : Array Nat).size = 0 := rfl
    have h3 : k.toNat * z.cps.size = z.length * k.toNat := Nat.mul_comm _ _
    rw [h0, h3]
    have : sizeLine = 16777216 := by decide
    omega
end EL
/-! Plain data (signs below 128, ints of at most 50 digits, dicts that are empty): what repr and == ask of it. -/
namespace EL
open PySem PySem.Spec PyProof.Rows L2
mutual
def pln : PyData → Bool
  | .none | .bool _ => true
  | .int i => decide (i.natAbs < 10 ^ 50)
  | .str x => x.cps.toList.all fun c => decide (c < 128)
  | .list xs | .tuple xs => plns xs
  | .dict kvs => kvs.isEmpty
def plns : List PyData → Bool
  | [] => true
  | x :: xs => pln x && plns xs
end
theorem plns_all : ∀ ds : List PyData, plns ds = ds.all pln
  | [] => by simp [plns]
  | d :: r => by simp [plns, plns_all r]
theorem log2_lt {n : Nat} (h : n < 10 ^ 50) : n.log2 < 1920 := by
  by_cases h0 : n = 0
  · subst h0; decide
  · rw [Nat.log2_lt h0]
    exact Nat.lt_of_lt_of_le h (by decide +kernel)
theorem shown_int60 {i : Int} (h : i.natAbs < 10 ^ 50) : (PyData.shown (.int i)).length ≤ 60 := by
  have e := int_text_length_le10 (k := 50) (by decide) h
  show (Str.ofString (toString i)).length ≤ 60
  rw [PySem.ofString_length]; exact Nat.le_trans e (by decide)
mutual
theorem pln_showable : ∀ d : PyData, pln d = true → d.showable = true
  | .none, _ => by simp [PyData.showable]
  | .bool _, _ => by simp [PyData.showable]
  | .int i, h => by
    have : i.natAbs < 10 ^ 50 := by simpa only [pln, decide_eq_true_eq] using h
    simpa only [PyData.showable, decide_eq_true_eq] using log2_lt this
  | .str _, _ => by simp [PyData.showable]
  | .list xs, h => by
    have := plns_showable xs (by simpa [pln] using h)
    simpa [PyData.showable] using this
  | .tuple xs, h => by
    have := plns_showable xs (by simpa [pln] using h)
    simpa [PyData.showable] using this
  | .dict kvs, h => by
    have : kvs = [] := by simpa [pln] using h
    subst this; simp [PyData.showable, PyData.showableKv]
theorem plns_showable : ∀ ds : List PyData, plns ds = true → PyData.showableAll ds = true
  | [], _ => by simp [PyData.showableAll]
  | d :: r, h => by
    obtain ⟨h1, h2⟩ : pln d = true ∧ plns r = true := by simpa [plns] using h
    simp [PyData.showableAll, pln_showable d h1, plns_showable r h2]
end
mutual
theorem pln_short : ∀ d : PyData, pln d = true → d.leavesShort 60 = true
  | .none, _ => by simp [PyData.leavesShort]
  | .bool _, _ => by simp [PyData.leavesShort]
  | .int i, h => by
    have : i.natAbs < 10 ^ 50 := by simpa only [pln, decide_eq_true_eq] using h
    simpa only [PyData.leavesShort, decide_eq_true_eq] using shown_int60 this
  | .str x, h => by
    simp only [PyData.leavesShort, List.all_eq_true, decide_eq_true_eq]
    simp only [pln, List.all_eq_true, decide_eq_true_eq] at h
    intro c hc
    have := h c hc
    omega
  | .list xs, h => by
    have := plns_short xs (by simpa [pln] using h)
    simpa [PyData.leavesShort] using this
  | .tuple xs, h => by
    have := plns_short xs (by simpa [pln] using h)
    simpa [PyData.leavesShort] using this
  | .dict kvs, h => by
    have : kvs = [] := by simpa [pln] using h
    subst this; simp [PyData.leavesShort, PyData.leavesShortKv]
theorem plns_short : ∀ ds : List PyData, plns ds = true → PyData.leavesShortAll 60 ds = true
  | [], _ => by simp [PyData.leavesShortAll]
  | d :: r, h => by
    obtain ⟨h1, h2⟩ : pln d = true ∧ plns r = true := by simpa [plns] using h
    simp [PyData.leavesShortAll, pln_short d h1, plns_short r h2]
end
theorem strOk_pln {x : Str} (h : (x.cps.toList.all fun c => decide (c < 128)) = true) : PyData.strOk x = true := by
  simp only [List.all_eq_true, decide_eq_true_eq] at h
  unfold PyData.strOk
  rw [Array.all_eq_true_iff_forall_mem]
  intro c hc
  have := h c (Array.mem_def.mp hc)
  exact decide_eq_true (by omega)
mutual
theorem pln_lay : ∀ d : PyData, pln d = true → d.hasDict = false → d.canLay0 = true
  | .none, _, _ => by simp [PyData.canLay0]
  | .bool _, _, _ => by simp [PyData.canLay0]
  | .int i, _, _ => by simp [PyData.canLay0]
  | .str x, h, _ => by
    simp only [PyData.canLay0]
    exact strOk_pln (by simpa only [pln] using h)
  | .list xs, h, n => by
    have := plns_lay xs (by simpa [pln] using h) (by simpa [PyData.hasDict] using n)
    simpa [PyData.canLay0] using this
  | .tuple xs, h, n => by
    have := plns_lay xs (by simpa [pln] using h) (by simpa [PyData.hasDict] using n)
    simpa [PyData.canLay0] using this
  | .dict kvs, _, n => by simp [PyData.hasDict] at n
theorem plns_lay : ∀ ds : List PyData, plns ds = true → PyData.hasDictAll ds = false → PyData.canLayAll0 ds = true
  | [], _, _ => by simp [PyData.canLayAll0]
  | d :: r, h, n => by
    obtain ⟨h1, h2⟩ : pln d = true ∧ plns r = true := by simpa [plns] using h
    obtain ⟨n1, n2⟩ : d.hasDict = false ∧ PyData.hasDictAll r = false := by simpa [PyData.hasDictAll] using n
    simp [PyData.canLayAll0, pln_lay d h1 n1, plns_lay r h2 n2]
end
theorem shaped_pln {d : PyData} (h : pln d = true) (n : d.hasDict = false) (hd : d.depth ≤ 64) : SeqAt.shaped d = true := by
  have := pln_lay d h n
  simp only [SeqAt.shaped, this, Bool.true_and]
  exact decide_eq_true hd
/-- what may be shown -/
structure Shw (d : PyData) : Prop where
  p : pln d = true
  n : d.hasDict = false ∨ noL d = true
  dp : d.depth ≤ 60
  bk : d.bulk ≤ 200000
theorem Shw.shown {d : PyData} (h : Shw d) : d.shown.length ≤ sizeLine := by
  have h1 := PyData.shown_le_bulk 60 (by decide) d (pln_short d h.p)
  have h2 : (60 + 2) * d.bulk ≤ 62 * 200000 := Nat.mul_le_mul (by omega) h.bk
  have e : sizeLine = 16777216 := by decide
  rw [e]
  omega
theorem Shw.r {d : PyData} (h : Shw d) : d.showable = true ∧ (d.hasDict = false ∨ noL d = true) ∧ d.depth ≤ 100 ∧ d.shown.length ≤ sizeLine := ⟨pln_showable d h.p, h.n, Nat.le_trans h.dp (by decide), h.shown⟩
/-- repr(x) of plain data -/
theorem repr_shw {K : PySem.W.Frag} {H : Hp} {x : V} {d : PyData} {Q : VK} (hd : Dq K H x d) (h : Shw d) (q : Q (.str d.shown) H) : rRepr K [x] H Q := ⟨x, d, rfl, hd, pln_showable d h.p, h.n, Nat.le_trans h.dp (by decide), h.shown, q⟩
/-- == of plain data without dicts -/
theorem shw_shaped {d : PyData} (h : Shw d) (n : d.hasDict = false) : SeqAt.shaped d = true := shaped_pln h.p n (Nat.le_trans h.dp (by decide))
theorem shw_bools (bs : List Bool) (h : bs.length ≤ 100) : Shw (.list (bs.map PyData.bool)) := by
  have h1 : ∀ cs : List Bool, plns (cs.map PyData.bool) = true ∧ PyData.hasDictAll (cs.map PyData.bool) = false ∧ PyData.depthAll (cs.map PyData.bool) ≤ 0 ∧ PyData.bulkAll (cs.map PyData.bool) ≤ 10 * cs.length := by
    intro cs
    induction cs with
    | nil => simp [plns, PyData.hasDictAll, PyData.depthAll, PyData.bulkAll]
    | cons b r ih =>
      obtain ⟨i1, i2, i3, i4⟩ := ih
      simp only [List.map_cons, plns, pln, PyData.hasDictAll, PyData.hasDict, PyData.depthAll, PyData.depth, PyData.bulkAll, PyData.bulk, List.length_cons, i1, i2, Bool.and_self, Bool.or_self]
      refine ⟨trivial, trivial, by omega, by omega⟩
  obtain ⟨a1, a2, a3, a4⟩ := h1 bs
  refine ⟨by simpa only [pln] using a1, .inl (by simpa only [PyData.hasDict] using a2), by simp only [PyData.depth]; omega, ?_⟩
  show PyData.bulkAll _ ≤ 200000
  omega
end EL
/-! Written data: an expression of constants, tuples, lists gives its data at new places. -/
namespace EL
open PySem PySem.Spec PyProof.Rows L2
/-- a reading, weakened -/
def clE (t : TE) : TE := fun σ H Q => ∃ P : VK, t σ H P ∧ ∀ v H1, P v H1 → Q v H1
def clA (t : TA) : TA := fun σ H Q => ∃ P : List V → Hp → Prop, t σ H P ∧ ∀ vs H1, P vs H1 → Q vs H1
theorem PE.cl {X : Cx} {e : Expr} {t : TE} (h : PE X e t) : PE X e (clE t) := ⟨fun pins s σ H Q I q => by
  obtain ⟨P, p, w⟩ := q
  refine wpAny_mono (h.run pins s σ H P I p) (fun u s1 z => ?_) fun _ _ z => z
  obtain ⟨v, H1, I1, r, q⟩ := z
  exact ⟨v, H1, I1, r, w v H1 q⟩⟩
theorem PA.cl {X : Cx} {es : List Expr} {t : TA} (h : PA X es t) : PA X es (clA t) := ⟨fun pos pins s σ H Q I q => by
  obtain ⟨P, p, w⟩ := q
  refine wpAny_mono (h.run pos pins s σ H P I p) (fun u s1 z => ?_) fun _ _ z => z
  obtain ⟨v, H1, I1, r, q⟩ := z
  exact ⟨v, H1, I1, r, w v H1 q⟩⟩
def tK (K : PySem.W.Frag) (d : PyData) : TE := fun _ H Q => ∀ v H', Same H H' → Dq K H' v d → Q v H'
def tKs (K : PySem.W.Frag) (ds : List PyData) : TA := fun _ H Q => ∀ vs H', Same H H' → DqAll K H' vs ds → Q vs H'
section
variable {X : Cx}
theorem kd_int {i j pos} : PE X (.Constant (.int i) j pos) (tK X.K (.int i)) := ⟨fun pins s σ H Q I h => pe_int.run pins s σ H Q I (h _ H (Same.refl H) (.int i))⟩
theorem kd_bl {b j pos} : PE X (.Constant (.bool b) j pos) (tK X.K (.bool b)) := ⟨fun pins s σ H Q I h => pe_bl.run pins s σ H Q I (h _ H (Same.refl H) (.bl b))⟩
theorem kd_non {j pos} : PE X (.Constant .none j pos) (tK X.K .none) := ⟨fun pins s σ H Q I h => pe_non.run pins s σ H Q I (h _ H (Same.refl H) .non)⟩
theorem kd_str {x j pos} : PE X (.Constant (.str x) j pos) (tK X.K (.str x)) := ⟨fun pins s σ H Q I h => pe_str.run pins s σ H Q I (h _ H (Same.refl H) (.str x))⟩
theorem kd_nil : PA X [] (tKs X.K []) := ⟨fun pos pins s σ H Q I h => pa_nil.run pos pins s σ H Q I (h _ H (Same.refl H) .nil)⟩
theorem kd_cons {e : Expr} {es : List Expr} {d : PyData} {ds : List PyData} (ha : PE X e (tK X.K d)) (hr : PA X es (tKs X.K ds)) (hs : starEach (e :: es) X.env = (false, eval e X.env) :: starEach es X.env := by rfl) : PA X (e :: es) (tKs X.K (d :: ds)) :=
  ⟨fun pos pins s σ H Q I h => (pa_cons ha hr hs).run pos pins s σ H Q I fun v H1 s1 d1 vs H2 s2 d2 => h _ H2 (s1.trans s2) (.cons (d1.up s2) d2)⟩
theorem kd_tup {es : List Expr} {ds : List PyData} {x1 pos} (h : PA X es (tKs X.K ds)) (hz : ds.length ≤ 1000000 := by decide) : PE X (.Tuple es x1 pos) (tK X.K (.tuple ds)) :=
  ⟨fun pins s σ H Q I q => (pe_tup h).run pins s σ H Q I fun vs H1 s1 d1 => ⟨len_sz (by rw [d1.len]; exact hz), fun p np => q _ _ (s1.trans (same_upd np)) (.tup (stOf upd_same) (d1.up (same_upd np)))⟩⟩
theorem kd_lst {es : List Expr} {ds : List PyData} {pos} (h : PA X es (tKs X.K ds)) (hz : ds.length ≤ 1000000 := by decide) : PE X (.List es pos) (tK X.K (.list ds)) :=
  ⟨fun pins s σ H Q I q => (pe_lst h).run pins s σ H Q I fun vs H1 s1 d1 => ⟨len_sz (by rw [d1.len]; exact hz), fun p np => q _ _ (s1.trans (same_upd np)) (.lst (sqOf upd_same) (d1.up (same_upd np)))⟩⟩
theorem kd_dic {pos} : PE X (.Dict [] [] pos) (tK X.K (.dict [])) :=
  ⟨fun pins s σ H Q I q => pe_dnewK.run pins s σ H Q I fun p np => q _ _ (same_upd np) (.dic upd_same)⟩
end
/-! ### data of tuples alone stands beside the deck -/
mutual
/-- no list and no dict within -/
def noLD : PyData → Bool
  | .none | .bool _ | .int _ | .str _ => true
  | .list _ | .dict _ => false
  | .tuple xs => noLDs xs
def noLDs : List PyData → Bool
  | [] => true
  | x :: xs => noLD x && noLDs xs
end
theorem sqT_hid {K : PySem.W.Frag} {H : Hp} {a q b : Addr} {m : Nat} {xs : List V} (D : Dw a q m H) (h : SqT K H b xs) : SqT K (hid a q H) b xs := by
  obtain ⟨c, _, k⟩ := D
  obtain ⟨_, _, _, ha⟩ := k.top
  obtain ⟨_, _, hq⟩ := k.que
  rcases h with (h | ⟨o, h⟩) | h
  · exact .inl (.inl (by rw [hid_ne (fun e => by rw [e, ha] at h; cases h) (fun e => by rw [e, hq] at h; cases h)]; exact h))
  · exact .inl (.inr ⟨o, by rw [hid_ne (fun e => by rw [e, ha] at h; cases h) (fun e => by rw [e, hq] at h; cases h)]; exact h⟩)
  · exact .inr h
mutual
theorem dq_hidT {K : PySem.W.Frag} {H : Hp} {a q : Addr} {m : Nat} (D : Dw a q m H) : ∀ (d : PyData) (v : V), Dq K H v d → noLD d = true → Dq K (hid a q H) v d
  | .none, _, h, _ => by cases h; exact .non
  | .bool b, _, h, _ => by cases h; exact .bl b
  | .int i, _, h, _ => by cases h; exact .int i
  | .str x, _, h, _ => by cases h; exact .str x
  | .list ds, _, h, n => by simp [noLD] at n
  | .tuple ds, _, h, n => by
    cases h with
    | tup hs ha => exact .tup (sqT_hid D hs) (dqAll_hidT D ds _ ha (by simpa [noLD] using n))
  | .dict _, _, h, n => by simp [noLD] at n
theorem dqAll_hidT {K : PySem.W.Frag} {H : Hp} {a q : Addr} {m : Nat} (D : Dw a q m H) : ∀ (ds : List PyData) (vs : List V), DqAll K H vs ds → noLDs ds = true → DqAll K (hid a q H) vs ds
  | [], _, h, _ => by cases h; exact .nil
  | d :: ds, _, h, n => by
    cases h with
    | cons h1 h2 =>
      obtain ⟨n1, n2⟩ : noLD d = true ∧ noLDs ds = true := by simpa [noLDs] using n
      exact .cons (dq_hidT D d _ h1 n1) (dqAll_hidT D ds _ h2 n2)
end
end EL
namespace KP
open PySem PySem.Spec PyProof.Rows L2 EL
abbrev planV (n : Int) (x y z : V) : List (L2.Key × V) := [(.inr "wide", .int n), (.inr "in", x), (.inr "ways", y), (.inr "out", z)]
theorem plan_wide {H : Hp} {p : Addr} {n : Int} {x y z : V} (h : H p = some (.dK (planV n x y z))) : DGet H p (kV (.inr "wide")) (some (.int n)) := by
  have := DGet.k (k := .inr "wide") h
  simpa [valV] using this
theorem plan_in {H : Hp} {p : Addr} {n : Int} {x y z : V} (h : H p = some (.dK (planV n x y z))) : DGet H p (kV (.inr "in")) (some x) := by
  have n1 : ¬ ("wide" : Str) = "in" := by decide +kernel
  have := DGet.k (k := .inr "in") h
  simpa [valV, n1] using this
theorem plan_ways {H : Hp} {p : Addr} {n : Int} {x y z : V} (h : H p = some (.dK (planV n x y z))) : DGet H p (kV (.inr "ways")) (some y) := by
  have n2 : ¬ ("wide" : Str) = "ways" := by decide +kernel
  have n3 : ¬ ("in" : Str) = "ways" := by decide +kernel
  have := DGet.k (k := .inr "ways") h
  simpa [valV, n2, n3] using this
theorem plan_out {H : Hp} {p : Addr} {n : Int} {x y z : V} (h : H p = some (.dK (planV n x y z))) : DGet H p (kV (.inr "out")) (some z) := by
  have n4 : ¬ ("wide" : Str) = "out" := by decide +kernel
  have n5 : ¬ ("in" : Str) = "out" := by decide +kernel
  have n6 : ¬ ("ways" : Str) = "out" := by decide +kernel
  have := DGet.k (k := .inr "out") h
  simpa [valV, n4, n5, n6] using this
/-- a method that may be called -/
structure CalM (P : Program) (w : World) (K : PySem.W.Frag) (mg : Str → Option Value) (base : Heap) (k : Nat) (C : Addr) (m : Str) (ps : List Str) (sp : Sp) where
  f : Addr
  fd : FuncData
  ok : FnOk P w K mg base CX0 k f fd ps sp
  mt : Meth K C m f
  b : Binds K fd ps []
theorem pe_calM {X : Cx} {k : Nat} {C : Addr} {m : Str} {ps : List Str} {sp : Sp} {E : XK} {o e : Expr} {es : List Expr} {ta : TE} {t : TA} {apos pos : Pos} {pl : Sem Bool} (c : Cls X.K C) (M : CalM X.prog X.w X.K X.mg X.base k C m ps sp) (hr : Room k X.A) (hx : Passes CX0 X E) (he : PE X o ta) (ha : PA X (e :: es) t)
    (hst : starEach (e :: es) X.env = (false, eval e X.env) :: starEach es X.env := by rfl) (hpl : (backTo pos (starEach es X.env)).any (·.1) = false := by rfl)
    (ht : eval (.Call (.Attribute o m apos) (e :: es) [] pos) X.env = (do
      let ov ← eval o X.env
      standAt apos.atName
      let (f, first) ← holding [ov] (getMethod ov m pl)
      callWith pos f first (backTo pos (starEach (e :: es) X.env)) (backToKw pos (keywordEach [] X.env))) := by rfl) :
    PE X (.Call (.Attribute o m apos) (e :: es) [] pos) (tMeth C m sp [] E ta t) := pe_meth he c M.mt M.ok hr M.b .nil hx ha hst hpl ht
theorem pe_calM0 {X : Cx} {k : Nat} {C : Addr} {m : Str} {ps : List Str} {sp : Sp} {E : XK} {o : Expr} {ta : TE} {apos pos : Pos} {pl : Sem Bool} (c : Cls X.K C) (M : CalM X.prog X.w X.K X.mg X.base k C m ps sp) (hr : Room k X.A) (hx : Passes CX0 X E) (he : PE X o ta)
    (ht : eval (.Call (.Attribute o m apos) [] [] pos) X.env = (do
      let ov ← eval o X.env
      standAt apos.atName
      let (f, first) ← holding [ov] (getMethod ov m pl)
      callWith pos f first (backTo pos (starEach [] X.env)) (backToKw pos (keywordEach [] X.env))) := by rfl) :
    PE X (.Call (.Attribute o m apos) [] [] pos) (tMeth C m sp [] E ta tNil) := pe_meth0 he c M.mt M.ok hr M.b .nil hx ht
theorem pf_miss {f : Str} (n : Int) (b m e : V) (h1 : (f == ("size" : Str)) = false := by decide +kernel) (h2 : (f == ("begins" : Str)) = false := by decide +kernel) (h3 : (f == ("moves" : Str)) = false := by decide +kernel) (h4 : (f == ("ends" : Str)) = false := by decide +kernel) : (pf n b m e).lookup f = none := by
  simp only [pf, List.lookup, h1, h2, h3, h4]
theorem pf_no (n : Int) (b m e : V) : (pf n b m e).lookup ("tells" : Str) = none := by
  have h1 : (("tells" : Str) == "size") = false := by decide +kernel
  have h2 : (("tells" : Str) == "begins") = false := by decide +kernel
  have h3 : (("tells" : Str) == "moves") = false := by decide +kernel
  have h4 : (("tells" : Str) == "ends") = false := by decide +kernel
  simp only [pf, List.lookup, h1, h2, h3, h4]
/-! ### pacers beside the deck -/
theorem nats_noLD (ns : List Nat) : noLD (.tuple (nats ns)) = true := by
  simp only [noLD]
  induction ns with
  | nil => rfl
  | cons n r ih => simpa [noLDs, noLD] using ih
theorem mvs_noLD (ms : List Mv) : noLD (.tuple (ms.map mvD)) = true := by
  simp only [noLD]
  induction ms with
  | nil => rfl
  | cons m r ih =>
    simp only [List.map_cons, noLDs, ih, Bool.and_true]
    simp [mvD, noLD, noLDs]
theorem PacAt.hidden {K : PySem.W.Frag} {C : Addr} {H : Hp} {x a q : Addr} {m : Nat} {pl : Plan} (h : PacAt K C H x pl) (D : Dw a q m H) : PacAt K C (hid a q H) x pl := by
  obtain ⟨dx, vb, vm, ve, h1, h2, h3, h4⟩ := h.at'
  obtain ⟨c, _, k⟩ := id D
  obtain ⟨_, _, _, ha⟩ := k.top
  obtain ⟨_, _, hq⟩ := k.que
  refine ⟨dx, vb, vm, ve, ?_, dq_hidT D _ _ h2 (nats_noLD _), dq_hidT D _ _ h3 (mvs_noLD _), dq_hidT D _ _ h4 (nats_noLD _)⟩
  rw [hid_ne (fun e => by rw [e, ha] at h1; cases h1) (fun e => by rw [e, hq] at h1; cases h1)]
  exact h1
theorem PacAt.ins {K : PySem.W.Frag} {C : Addr} {H : Hp} {x : Addr} {pl : Plan} (h : PacAt K C H x pl) (f : Str) (h1 : (f == ("size" : Str)) = false := by decide +kernel) (h2 : (f == ("begins" : Str)) = false := by decide +kernel) (h3 : (f == ("moves" : Str)) = false := by decide +kernel) (h4 : (f == ("ends" : Str)) = false := by decide +kernel) :
    ∃ dx fs, H x = some (.ins C dx fs) ∧ fs.lookup f = none := by
  obtain ⟨dx, vb, vm, ve, e1, _⟩ := h.at'
  exact ⟨dx, _, e1, pf_miss _ _ _ _ h1 h2 h3 h4⟩
/-- Pacer(..) of what is right -/
def tPac (K : PySem.W.Frag) (C : Addr) (t : TA) : TE := fun σ H Q => t σ H fun vs H1 => ∃ (pl : Plan) (top many long : Nat) (v1 v2 v3 : V), vs = [.int (pl.wide : Int), v1, v2, v3] ∧ Dq K H1 v1 (.tuple (nats pl.ins)) ∧ Dq K H1 v2 (.tuple (pl.ways.map mvD)) ∧ Dq K H1 v3 (.tuple (nats pl.outs)) ∧
  pl.Ok top many long ∧ top ≤ 50 ∧ many ≤ 50 ∧ long ≤ 50 ∧ ∀ x H', Same H1 H' → H1 x = none → PacAt K C H' x pl → Q (.ref x) H'
theorem pe_pac {X : Cx} {k : Nat} {C : Addr} {E : XK} {e : Expr} {es : List Expr} {t : TA} {p pos : Pos} (CC : CalC X.prog X.w X.K X.mg X.base k C) (hr : Room (k + 1) X.A) (hg : Gl X "Pacer") (hx : Passes CX0 X E) (ha : PA X (e :: es) t)
    (he : starEach (e :: es) X.env = (false, eval e X.env) :: starEach es X.env := by rfl) (hpl : (backTo pos (starEach es X.env)).any (·.1) = false := by rfl) :
    PE X (.Call (.Name "Pacer" p) (e :: es) [] pos) (tPac X.K C t) := by
  refine ⟨fun pins s σ H Q I h => (pe_make CC.mke CC.ok hr hg CC.g CC.b .nil hx (EL.PA.cl ha) (by decide) he hpl).run pins s σ H Q I ?_⟩
  refine ⟨_, h, ?_⟩
  rintro vs H1 ⟨pl, top, many, long, v1, v2, v3, rfl, d1, d2, d3, hO, t1, t2, t3, kQ⟩
  intro x dx nx ndx nex
  have s2 : Same H1 (upd (upd H1 dx (.own x)) x (.ins C dx [])) := fun b o e => by
    rw [upd_ne (ne_of_none e nx), upd_ne (ne_of_none e ndx)]; exact e
  have gx : upd (upd H1 dx (.own x)) x (.ins C dx []) x = some (.ins C dx []) := upd_same
  generalize upd (upd H1 dx (.own x)) x (.ins C dx []) = H2 at s2 gx ⊢
  have b1 := asc_len hO.i
  have b2 := asc_len hO.o
  have w2 := hO.w2
  have nn := hO.n
  refine ⟨x, dx, (pl.wide : Int), v1, v2, v3, _, _, _, rfl, gx, d1.up s2, d2.up s2, d3.up s2, ?_, ?_, ?_, by have := hO.w1; omega, states_ok hO.i, moves_ok hO.m, states_ok hO.o, fun H3 keep g => ⟨rfl, ?_⟩⟩
  · show PyData.bulkAll _ ≤ 500000
    have := nats_bulk pl.ins; omega
  · show PyData.bulkAll _ ≤ 500000
    have := moves_bulk t3 hO.m; omega
  · show PyData.bulkAll _ ≤ 500000
    have := nats_bulk pl.outs; omega
  · have s13 : Same H1 H3 := fun b o e => keep b o (ne_of_none e nx) (s2 b o e)
    have ref_of : ∀ {v : V} {ds : List PyData}, Dq X.K H1 v (.tuple ds) → ∃ a, v = .ref a := fun h => by cases h with | tup _ _ => exact ⟨_, rfl⟩
    obtain ⟨a1, rfl⟩ := ref_of d1
    obtain ⟨a2, rfl⟩ := ref_of d2
    obtain ⟨a3, rfl⟩ := ref_of d3
    exact kQ x H3 s13 nx ⟨dx, a1, a2, a3, g, d1.up s13, d2.up s13, d3.up s13⟩
/-- .. of written parts -/
theorem pe_pacK {X : Cx} {k : Nat} {C : Addr} {E : XK} {e : Expr} {es : List Expr} {ds : List PyData} {p pos : Pos} (pl : Plan) (CC : CalC X.prog X.w X.K X.mg X.base k C) (hr : Room (k + 1) X.A) (hg : Gl X "Pacer") (hx : Passes CX0 X E) (ha : PA X (e :: es) (tKs X.K ds))
    (hds : ds = [.int (pl.wide : Int), .tuple (nats pl.ins), .tuple (pl.ways.map mvD), .tuple (nats pl.outs)]) (hO : pl.Ok 50 50 50)
    (he : starEach (e :: es) X.env = (false, eval e X.env) :: starEach es X.env := by rfl) (hpl : (backTo pos (starEach es X.env)).any (·.1) = false := by rfl) :
    PE X (.Call (.Name "Pacer" p) (e :: es) [] pos) (fun _ H Q => ∀ x H', Same H H' → H x = none → PacAt X.K C H' x pl → Q (.ref x) H') := by
  refine ⟨fun pins s σ H Q I h => (pe_pac CC hr hg hx ha he hpl).run pins s σ H Q I ?_⟩
  subst hds
  intro vs H1 s1 dq
  cases dq with
  | cons d0 dq => cases dq with
  | cons d1 dq => cases dq with
  | cons d2 dq => cases dq with
  | cons d3 dq =>
    cases dq
    cases d0
    exact ⟨pl, 50, 50, 50, _, _, _, rfl, d1, d2, d3, hO, Nat.le_refl _, Nat.le_refl _, Nat.le_refl _, fun x H' s2 n g => h x H' (s1.trans s2) (s1.free n) g⟩
theorem Plan.Ok.upto {p : Plan} {a b c a' b' c' : Nat} (h : p.Ok a b c) (h1 : a ≤ a') (h2 : b ≤ b') (h3 : c ≤ c') : p.Ok a' b' c' := ⟨h.w1, Nat.le_trans h.w2 h1, h.i, h.o, Nat.le_trans h.n h2, fun m hm => by obtain ⟨q1, q2, q3, q4, q5⟩ := h.m m hm; exact ⟨q1, q2, Nat.le_trans q3 h3, Nat.le_trans q4 h3, q5⟩⟩
theorem dqAll_nats {K : PySem.W.Frag} {H : Hp} : ∀ {ns : List Nat} {vs : List V}, DqAll K H vs (nats ns) → vs = ns.map fun (n : Nat) => V.int (n : Int)
  | [], _, h => by cases h; rfl
  | n :: r, _, h => by
    cases h with
    | cons h1 h2 => cases h1; rw [dqAll_nats h2]; rfl
theorem cut_app (a b : Str) : (a ++ b).length = a.length + b.length := by
  show (a.cps ++ b.cps).size = _
  rw [Array.size_append]; rfl
theorem cut_two (z : Str) (c : Nat) : (cutS z none (some (c : Int)) ++ cutS z (some ((c : Int) + 1)) none).length ≤ z.length := by
  rw [cut_app]
  show (((z.cps.toList.drop (HT.sIx z.length 0 none)).take (HT.sIx z.length z.length (some (c : Int)) - HT.sIx z.length 0 none)).toArray).size + (((z.cps.toList.drop (HT.sIx z.length 0 (some ((c : Int) + 1)))).take (HT.sIx z.length z.length none - HT.sIx z.length 0 (some ((c : Int) + 1)))).toArray).size ≤ z.cps.size
  rw [show ((c : Int) + 1) = ((c + 1 : Nat) : Int) by omega, HT.sIx_nat, HT.sIx_nat, HT.sIx_none, HT.sIx_none, List.size_toArray, List.size_toArray, List.length_take, List.length_take, List.length_drop, List.length_drop, Array.length_toList]
  show _ ≤ z.length
  omega
theorem peq_self (pl : Plan) (h : AscP pl) : peq pl pl = true := by
  have sh : ∀ d : PyData, SeqAt.shaped d = true → PyData.eqv d d = true := fun d q => SeqAt.eqv_refl d (by
    simp only [SeqAt.shaped, Bool.and_eq_true] at q; exact q.1)
  unfold peq
  rw [sh _ (shaped_nats _), sh _ (shaped_nats _), sh _ (shaped_moves h), decide_eq_true rfl]; rfl
end KP
/-! xs[::2] of a list. -/
namespace EL
open PySem PySem.Spec PyProof.Rows L2
def evs (xs : List V) : List V := (sliceRange 0 (xs.length : Int) 2).filterMap (xs[·]?)
theorem evs_mem {xs : List V} {v : V} (h : v ∈ evs xs) : v ∈ xs := by
  obtain ⟨k, _, e⟩ := List.mem_filterMap.mp h
  exact List.mem_of_getElem? e
theorem vals_pick {xs : List V} {its : List Value} (r : Vals xs its) : ∀ R : List Nat, Vals (R.filterMap (xs[·]?)) (R.filterMap (its[·]?))
  | [] => .nil
  | k :: R => by
    have ih := vals_pick r R
    rw [List.filterMap_cons, List.filterMap_cons]
    by_cases h : k < xs.length
    · obtain ⟨u, hu, ru⟩ := r.get (List.getElem?_eq_getElem h)
      rw [List.getElem?_eq_getElem h, hu]
      exact .cons ru ih
    · rw [List.getElem?_eq_none (by omega), List.getElem?_eq_none (by rw [← r.length]; omega)]
      exact ih
theorem evs_len (xs : List V) : (evs xs).length ≤ xs.length := by
  refine Nat.le_trans (List.length_filterMap_le _ _) (sliceRange_length_le _ _ _ _ (fun _ => ⟨by omega, Int.le_refl _⟩) fun h => ?_)
  exact absurd (by decide : (2 : Int) > 0) h
def tEvs (K : PySem.W.Frag) (te : TE) : TE := fun σ H Q => te σ H fun x H1 => ∃ a xs, x = .ref a ∧ SqL K H1 a xs ∧ ∀ p, H1 p = none → Q (.ref p) (upd H1 p (.lst (evs xs)))
theorem pe_evs {X : Cx} {e : Expr} {te : TE} {k : Nat} {p2 p3 pos : Pos} (he : PE X e te) : PE X (.Subscript e (.Slice none none (some (.Constant (.int 2) k p2)) p3) pos) (tEvs X.K te) := by
  refine ⟨fun pins s σ H Q I h => ?_⟩
  refine Subscript_ (thn (he.run pins s σ H _ I h) fun v s1 ⟨x, H1, I1, r1, q1⟩ => ?_)
  obtain ⟨a, xs, ex, hx, q⟩ := q1
  subst ex
  cases r1
  have hst : PO X (some (.Constant (.int 2) k p2)) (tPart (tC (.int 2))) := po_some pe_int
  refine wpAny_Slice (thn (po_none.run pins s1 σ H1 (fun o H2 => o = none ∧ H2 = H1) I1 ⟨rfl, rfl⟩) fun vl s2 ⟨l, H2, I2, pl, el, e2⟩ => ?_)
  subst el e2
  refine thn (po_none.run pins s2 σ H2 (fun o H3 => o = none ∧ H3 = H2) I2 ⟨rfl, rfl⟩) fun vu s3 ⟨u, H3, I3, pu, eu, e3⟩ => ?_
  subst eu e3
  refine thn (hst.run pins s3 σ H3 (fun o H4 => o = some 2 ∧ H4 = H3) I3 ⟨2, rfl, rfl, rfl⟩) fun vs s4 ⟨o, H4, I4, ps, eo, e4⟩ => ?_
  subst eo e4
  have I5 : Inv X pins σ H4 { s4 with heap := s4.heap.push { cls := .type "slice", data := .fields #[vl, vu, vs] } } := I4.kept (t' := s4.toks) fun b ob q => Heap.get?_push_of_some _ q
  obtain ⟨its, r, ht, hz⟩ := I5.list hx
  have hlen := r.length
  show wpAny (model X.prog X.w) X.A (subscriptTail e (.Slice none none (some (.Constant (.int 2) k p2)) p3) (.ref a) (.ref s4.heap.objs.size)) (EP X pins σ Q) X.xe { s4 with heap := s4.heap.push { cls := .type "slice", data := .fields #[vl, vu, vs] } }
  refine tail_any (ops := [.ref a, .ref s4.heap.objs.size]) ht.isList.typeIs (PySem.slot_list_getitem.lookup) ?_ (by with_unfolding_all rfl)
  refine wpAny_getItem_list_slice ht.isList (Heap.IsSliceOf.new _ vl vu vs) pl pu ps (by decide) ?_ (by rw [List.size_toArray]; omega)
  have ep : slicePick its.toArray none none (some 2) = ((sliceRange 0 (xs.length : Int) 2).filterMap (its[·]?)).toArray := by
    unfold slicePick
    rw [show sliceBounds none none (some 2) its.toArray.size = (0, (its.toArray.size : Int), 2) from rfl]
    show ((sliceRange 0 (its.toArray.size : Int) 2).filterMap (its.toArray[·]?)).toArray = _
    rw [List.size_toArray, ← hlen]
    congr 2
    funext i
    simp
  rw [ep]
  refine ⟨.ref _, _, I5.laid (t' := s4.toks) (o := .lst (evs xs)) (fun b ob q => Heap.get?_push_of_some _ q) (Nat.le_refl _) ?_, rfl, q _ (I5.hok.fresh (Nat.le_refl _))⟩
  exact ⟨Nat.le_trans (evs_len xs) hz, _, 0, vals_pick r _, Heap.get?_push_size _ rfl⟩
end EL
/-! Comprehensions whose items are data made on the way: the heap without the list that grows. -/
namespace EL
open PySem PySem.Spec PyProof.Rows L2
/-- the heap without one object -/
def wo (D : Addr) (H : Hp) : Hp := fun b => if b = D then none else H b
theorem wo_ne {D b : Addr} {H : Hp} (h : b ≠ D) : wo D H b = H b := if_neg h
theorem wo_at {D : Addr} {H : Hp} : wo D H D = none := if_pos rfl
theorem wo_some {D b : Addr} {H : Hp} {o : HO} (h : wo D H b = some o) : b ≠ D ∧ H b = some o := by
  by_cases e : b = D
  · subst e; rw [wo_at] at h; cases h
  · exact ⟨e, by rw [wo_ne e] at h; exact h⟩
theorem wo_sub {D : Addr} {H : Hp} : Same (wo D H) H := fun _ _ h => (wo_some h).2
theorem wo_upd {D : Addr} {H : Hp} {o : HO} : wo D (upd H D o) = wo D H := by
  funext b
  by_cases e : b = D
  · subst e; rw [wo_at, wo_at]
  · rw [wo_ne e, wo_ne e, upd_ne e]
theorem same_wo {D : Addr} {H H' : Hp} (s : Same H H') : Same (wo D H) (wo D H') := fun b o h => by
  obtain ⟨e, h⟩ := wo_some h
  rw [wo_ne e]; exact s b o h
theorem wo_id {D : Addr} {H : Hp} (n : H D = none) : wo D H = H := by
  funext b
  by_cases e : b = D
  · subst e; rw [wo_at, n]
  · exact wo_ne e
/-- a comprehension's list at D behind i turns: the data f i, beside the list itself -/
def LcG (K : PySem.W.Frag) (D : Addr) (H : Hp) (f : Nat → List PyData) (i : Nat) (H' : Hp) : Prop := ∃ vs, H' D = some (.lst vs) ∧ DqAll K (wo D H') vs (f i) ∧ vs.length ≤ i ∧ Same H (wo D H')
section
variable {K : PySem.W.Frag} {D : Addr} {H H1 H2 : Hp} {f : Nat → List PyData} {i : Nat}
theorem LcG.start (n : H D = none) (h0 : f 0 = []) : LcG K D H f 0 (upd H D (.lst [])) :=
  ⟨[], upd_same, by rw [h0]; exact .nil, Nat.le_refl _, by rw [wo_upd, wo_id n]; exact Same.refl _⟩
theorem LcG.sm (L : LcG K D H f i H1) (n : H D = none) : Same H H1 := by
  obtain ⟨_, _, _, _, s⟩ := L
  exact s.trans wo_sub
theorem LcG.at (L : LcG K D H f i H1) : ∃ vs, H1 D = some (.lst vs) := by
  obtain ⟨vs, h, _⟩ := L
  exact ⟨vs, h⟩
theorem DqAll.snoc' {vs : List V} {ds : List PyData} {v : V} {d : PyData} (h : DqAll K H vs ds) (g : Dq K H v d) : DqAll K H (vs ++ [v]) (ds ++ [d]) := h.app (.cons g .nil)
theorem lcg_some {v : V} {d : PyData} (L : LcG K D H f i H1) (s : Same H1 H2) (hf : f (i + 1) = f i ++ [d]) (hv : Dq K (wo D H2) v d) (hi : i < 1000000) :
    ∃ acc, H2 D = some (.lst acc) ∧ acc.length < sizeLine ∧ LcG K D H f (i + 1) (upd H2 D (.lst (acc ++ [v]))) := by
  obtain ⟨vs, h1, h2, h3, h4⟩ := L
  refine ⟨vs, s _ _ h1, lt_sz (by omega), vs ++ [v], upd_same, ?_, by rw [List.length_append]; show vs.length + 1 ≤ _; omega, ?_⟩
  · rw [wo_upd, hf]
    exact (h2.up (same_wo s)).snoc' hv
  · rw [wo_upd]
    exact h4.trans (same_wo s)
theorem lcg_none (L : LcG K D H f i H1) (s : Same H1 H2) (hf : f (i + 1) = f i) : LcG K D H f (i + 1) H2 := by
  obtain ⟨vs, h1, h2, h3, h4⟩ := L
  exact ⟨vs, s _ _ h1, by rw [hf]; exact h2.up (same_wo s), by omega, h4.trans (same_wo s)⟩
/-- at the end: a list of this data -/
theorem LcG.done (L : LcG K D H f i H1) : ∃ vs, H1 D = some (.lst vs) ∧ DqAll K (wo D H1) vs (f i) ∧ DqAll K H1 vs (f i) ∧ vs.length ≤ i := by
  obtain ⟨vs, h1, h2, h3, _⟩ := L
  exact ⟨vs, h1, h2, h2.up wo_sub, h3⟩
/-- a new tuple stands beside the list -/
theorem tup_wo {p : Addr} {xs : List V} {ds : List PyData} (hD : ∃ vs, H1 D = some (.lst vs)) (np : H1 p = none) (h : DqAll K (wo D H1) xs ds) : Dq K (wo D (upd H1 p (.tup xs))) (.ref p) (.tuple ds) := by
  obtain ⟨vs, hD⟩ := hD
  have e : p ≠ D := fun e => by rw [e, hD] at np; cases np
  exact .tup (stOf (by rw [wo_ne e]; exact upd_same)) (h.up (same_wo (same_upd np)))
theorem take_snoc {α : Type} {l : List α} {i : Nat} {x : α} (h : l[i]? = some x) : l.take (i + 1) = l.take i ++ [x] := by
  rw [List.take_add_one, h]; rfl
end
/-! ### a method without arguments -/
theorem mv_get {α : Type} {l : List α} {g : α → PyData} {i : Nat} {d : PyData} (h : (l.map g)[i]? = some d) : ∃ x, l[i]? = some x ∧ d = g x := by
  rw [List.getElem?_map] at h
  cases e : l[i]? with
  | none => rw [e] at h; cases h
  | some x => rw [e] at h; exact ⟨x, rfl, (Option.some.inj h).symm⟩
end EL
/-! set(xs) of a list of ints: a set that can be sorted. -/
namespace EL
open PySem PySem.Spec PyProof.Rows L2
section
variable {P : Program} {w : World} {A : Around} {E : Value → Shared → Prop} {s : Shared}
/-- the empty set, as it is laid -/
abbrev bareSet (w : World) : Obj := { cls := .type "set", dict := none, data := .set #[] 0 (.fresh 0 0 (!w.params.followText "set-order")) }
theorem set_list_ints {l : Addr} {items : Array Value} (ns : List Int) {Q : Value → Shared → Prop} (hh : A.handled = none) (hl : s.heap.IsList l items) (hit : IntsAre items.toList ns) (hb : ns.length + 1 < scanBound)
    (h : ∀ (g : Heap) (tk c : Nat), SetR w g s.heap.objs.size (fun j => decide (j ∈ ns)) c → c ≤ ns.length → (∀ b o, s.heap.get? b = some o → g.get? b = some o) → Q (.ref s.heap.objs.size) { s with heap := g, toks := tk }) : wpAny (model P w) A (call (.type "set") [.ref l]) Q E s := by
  have len : items.size = ns.length := by
    rw [← Array.length_toList]; exact IntsAre.length hit
  obtain ⟨_, _, mr⟩ := PySem.F.called_set.mro
  have md := PySem.F.called_set.made
  have sb := PySem.F.called_set.sub
  refine wpAny_call (codeAny_of_tree ?_)
  show wpAny _ _ (callAny (.type "set") _) _ _ _
  refine wpAny_pure ⟨Code.quiet_builtin _ (by decide +kernel), codeAny_builtin (PySem.F.entry_type_call) ?_⟩
  rw [Around.under_plain (weight_type_call_type "set" [.ref l] []) rfl]
  have q1 := PySem.F.called_set.notType
  have q2 := PySem.F.called_set.canCreate
  have q3 := PySem.F.typeCall_set_1 (.ref l)
  repeat (any_goals (first | assumption | wp_step))
  generalize hN : s.heap.objs.size = N at h ⊢
  have made : ∀ B : Around, codeAny (model P w) B (.call (.builtin "set.__new__") ⟨[.type "set", .ref l], []⟩) (wants (fun obj s₁ => obj = .ref N ∧ s₁ = { s with heap := s.heap.push (bareSet w) }) E) s := fun B => code_set_led1 (.ref l) (by rw [← hN]; exact ⟨rfl, rfl⟩)
  refine codeAny_mono (made _) fun r s₁ hr => ?_
  match r, hr with
  | .error e, hr => exact hr
  | .ok (.ret obj), ⟨e1, e2⟩ =>
    subst e1 e2
    have hS : (s.heap.push (bareSet w)).get? N = some (bareSet w) := by rw [← hN]; exact Heap.get?_push_size _ rfl
    have hT : Shared.TypeIs { s with heap := s.heap.push (bareSet w) } (.ref N) "set" := ⟨_, hS, rfl⟩
    have hli := PySem.F.called_set.init.lookup
    have hbi := PySem.F.called_set.init.bind (.ref N)
    repeat (any_goals (first | assumption | wp_step))
    have init : ∀ B : Around, B.handled = none → codeAny (model P w) B (.call (.builtin "set.__init__") ⟨[.ref N, .ref l], []⟩) (wants (fun r s₂ => r = .none ∧ ∃ g tk c, s₂ = { s with heap := g, toks := tk } ∧ SetR w g N (fun j => decide (j ∈ ns)) c ∧ c ≤ ns.length ∧ (∀ b o, s.heap.get? b = some o → g.get? b = some o)) E) { s with heap := s.heap.push (bareSet w) } := by
      intro B hB
      refine codeAny_call_builtin PySem.F.called_set.init.plain PySem.F.entry_set_init (PySem.check_set_init_1 hT ?_)
      have hl1 : (s.heap.push (bareSet w)).IsList l items := hl.push _
      have hTl : Shared.TypeIs { s with heap := s.heap.push (bareSet w) } (.ref l) "list" := Heap.IsList.typeIs (s := { s with heap := s.heap.push (bareSet w) }) hl1
      have f1 := PySem.F.sub_list_set
      have f2 := PySem.F.sub_list_frozenset
      have f3 : (Value.type "list" == Value.type "dict") = false := by decide
      have lN : l < N := by
        obtain ⟨o, ho, _⟩ := hl
        rw [← hN]; exact Heap.lt_size ho
      have sz : (s.heap.push (bareSet w)).objs.size = N + 1 := by rw [Heap.size_push, hN]
      unfold Builtin.«set.__init__» noKeywords Builtin.Frozenset.updateFrom
      generalize hPI : pyIter = PI
      wp_walk
      subst hPI
      refine wpAny_pyIter_list hl1 (wpAny_bind (wpAny_runValue ?_))
      have hB3 : B.in1.in1.handled = none := by simp [hB]
      have walk := (Walks.list (prog := P) (w := w) hB3 (N + 1) l (Nat.ne_of_lt (Nat.lt_succ_of_lt lN)) items).toS
      rw [sz]
      refine set_update_ints walk N ?_ ns len hb ?_ (items.size - 0) 0 _ (by omega) (Nat.zero_le _) ⟨?_, hl1.push _⟩ ⟨0, Nat.le_refl 0, setR_new_at (Heap.get?_push_of_some _ hS)⟩ ?_
      · intro z
        rcases List.mem_cons.mp z with z | z
        · exact Nat.ne_of_lt (Nat.lt_succ_self N) z
        · exact Nat.ne_of_gt lN (List.mem_singleton.mp z)
      · intro i v hv
        have hi : i < ns.length := by rw [← len]; exact (Array.getElem?_eq_some_iff.mp hv).1
        obtain ⟨t, e⟩ := IntsAre.int_at hit i v (by rw [Array.getElem?_toList]; exact hv)
        exact ⟨ns[i], t, List.getElem?_eq_getElem hi, by rw [e, List.getD_eq_getElem?_getD, List.getElem?_eq_getElem hi]; rfl⟩
      · exact ⟨_, by rw [← sz]; exact Heap.get?_push_size _ rfl, rfl, rfl⟩
      · rintro ⟨g, gn, dr, tk, os⟩ c mv hc R
        obtain rfl : gn = s.gens := mv.gens
        obtain rfl : dr = s.drawn := mv.drawn
        obtain rfl : os = s.os := mv.os
        refine wpAny_pure ?_
        refine wpAny_pure ⟨rfl, g, tk, c, rfl, R, by omega, fun b o e => ?_⟩
        have hb0 : b < N := by rw [← hN]; exact Heap.lt_size e
        refine mv.heap b o (fun z => ?_) (Heap.get?_push_of_some _ (Heap.get?_push_of_some _ e))
        rcases List.mem_cons.mp z with z | z
        · exact Nat.ne_of_lt hb0 z
        · exact Nat.ne_of_lt (Nat.lt_succ_of_lt hb0) (List.mem_singleton.mp z)
    refine codeAny_mono (init _ (by simp [hh])) fun r₂ s₂ h2 => ?_
    match r₂, h2 with
    | .error e, h2 => exact h2
    | .ok (.ret v), ⟨e0, g, tk, c, e1, R, hc, keep⟩ =>
      subst e0 e1
      repeat (any_goals (first | assumption | wp_step))
      exact h g tk c R hc keep
    | .ok .next, h2 => exact h2.elim
    | .ok .brk, h2 => exact h2.elim
    | .ok .cont, h2 => exact h2.elim
  | .ok .next, hr => exact hr.elim
  | .ok .brk, hr => exact hr.elim
  | .ok .cont, hr => exact hr.elim
end
end EL
namespace EL
open PySem PySem.Spec PyProof.Rows L2
section
variable {X : Cx}
/-- set(xs), xs a list of ints -/
def rSetI (K : PySem.W.Frag) (w : World) : List V → Hp → VK → Prop := fun xs H Q => ∃ (l : Addr) (ns : List Int), xs = [.ref l] ∧ SqL K H l (ns.map V.int) ∧ ns.length ≤ 1000 ∧ ∀ p c, H p = none → c ≤ ns.length → Q (.ref p) (upd H p (SetO w p (fun j => decide (j ∈ ns)) c))
theorem cr_setI (hc : X.calm = true) : CallR X (.type "set") (rSetI X.K X.w) := by
  intro pins s σ H xs us Q I r h
  obtain ⟨l, ns, rfl, hl, hn, q⟩ := h
  rw [Vals.ref1 r]
  obtain ⟨its, rv, pl, hz⟩ := I.list hl
  have hN : H s.heap.objs.size = none := I.hok.fresh (Nat.le_refl _)
  have room : ns.length + 1 < scanBound := by unfold scanBound; omega
  refine set_list_ints ns (I.ok.hd hc) pl.isList (by simpa using RZ.intsAre_vals rv) room fun g tk c R hcc k => ?_
  exact ⟨.ref s.heap.objs.size, upd H s.heap.objs.size (SetO X.w s.heap.objs.size (fun j => decide (j ∈ ns)) c), I.laid (t' := tk) k (Nat.le_refl _) (setO_new R), rfl, q _ c hN hcc⟩
end
end EL
/-! d.setdefault(k, []).append(v), again and again: lists by keys. -/
namespace EL
open PySem PySem.Spec PyProof.Rows L2
/-- the keys, as they are met -/
def keysOf : List (L2.Key × PyData) → List L2.Key
  | [] => []
  | (k, _) :: r => k :: (keysOf r).filter fun j => decide (j ≠ k)
/-- what stands under a key -/
def ofK (es : List (L2.Key × PyData)) (k : L2.Key) : List PyData := (es.filter fun e => decide (e.1 = k)).map (·.2)
theorem ofK_snoc (es : List (L2.Key × PyData)) (k j : L2.Key) (d : PyData) : ofK (es ++ [(k, d)]) j = ofK es j ++ (if k = j then [d] else []) := by
  unfold ofK
  rw [List.filter_append, List.map_append]
  congr 1
  by_cases h : k = j
  · rw [if_pos h, List.filter_cons_of_pos (by simpa using h)]; rfl
  · rw [if_neg h, List.filter_cons_of_neg (by simpa using h)]; rfl
theorem mem_keysOf {es : List (L2.Key × PyData)} {k : L2.Key} : k ∈ keysOf es ↔ ∃ d, (k, d) ∈ es := by
  induction es with
  | nil => simp [keysOf]
  | cons e r ih =>
    obtain ⟨j, d⟩ := e
    simp only [keysOf, List.mem_cons, List.mem_filter, decide_eq_true_eq, ih]
    constructor
    · rintro (rfl | ⟨⟨x, hx⟩, _⟩)
      · exact ⟨d, .inl rfl⟩
      · exact ⟨x, .inr hx⟩
    · rintro ⟨x, h | h⟩
      · exact .inl (congrArg Prod.fst h)
      · by_cases e : k = j
        · exact .inl e
        · exact .inr ⟨⟨x, h⟩, e⟩
theorem keysOf_new' {es : List (L2.Key × PyData)} {k : L2.Key} (d : PyData) (h : k ∉ keysOf es) : keysOf (es ++ [(k, d)]) = keysOf es ++ [k] := by
  induction es with
  | nil => rfl
  | cons e r ih =>
    obtain ⟨j, x⟩ := e
    simp only [List.cons_append, keysOf] at h ⊢
    have h1 : k ≠ j := fun e => h (e ▸ List.mem_cons_self)
    have h2 : k ∉ keysOf r := fun q => h (List.mem_cons_of_mem _ (List.mem_filter.mpr ⟨q, by simpa using h1⟩))
    rw [ih h2, List.filter_append, List.filter_cons_of_pos (by simpa using h1)]; rfl
theorem keysOf_old {es : List (L2.Key × PyData)} {k : L2.Key} (d : PyData) (h : k ∈ keysOf es) : keysOf (es ++ [(k, d)]) = keysOf es := by
  induction es with
  | nil => simp [keysOf] at h
  | cons e r ih =>
    obtain ⟨j, x⟩ := e
    simp only [List.cons_append, keysOf] at h ⊢
    by_cases h1 : k = j
    · subst h1
      by_cases h2 : k ∈ keysOf r
      · rw [ih h2]
      · have := keysOf_new' (es := r) d h2
        rw [this, List.filter_append, List.filter_cons_of_neg (by simp)]; simp
    · rcases List.mem_cons.mp h with h | h
      · exact absurd h h1
      · rw [ih (List.mem_filter.mp h).1]
theorem keysOf_new {es : List (L2.Key × PyData)} {k : L2.Key} (d : PyData) (h : k ∉ keysOf es) : keysOf (es ++ [(k, d)]) = keysOf es ++ [k] := keysOf_new' d h
theorem keysOf_len (es : List (L2.Key × PyData)) : (keysOf es).length ≤ es.length := by
  induction es with
  | nil => exact Nat.le_refl _
  | cons e r ih =>
    simp only [keysOf, List.length_cons]
    have := List.length_filter_le (fun j => decide (j ≠ e.1)) (keysOf r)
    omega
theorem ofK_nil {es : List (L2.Key × PyData)} {k : L2.Key} (h : k ∉ keysOf es) : ofK es k = [] := by
  unfold ofK
  rw [List.map_eq_nil_iff, List.filter_eq_nil_iff]
  intro e he
  simp only [decide_eq_true_eq]
  intro z
  exact h (mem_keysOf.mpr ⟨e.2, by rw [← z]; exact he⟩)
theorem valV_keys {kvs : List (L2.Key × V)} {k : L2.Key} : valV kvs k = none ↔ k ∉ kvs.map (·.1) := by
  induction kvs with
  | nil => simp [valV_nil]
  | cons e r ih =>
    obtain ⟨j, v⟩ := e
    by_cases h : k = j
    · subst h; simp [valV]
    · have h' : ¬ j = k := fun e => h e.symm
      simp only [List.map_cons, List.mem_cons, h, false_or]
      rw [← ih]
      simp [valV, h']
/-- the heap without a dict and the lists that it holds -/
def hidO (d : Addr) (kvs : List (L2.Key × V)) (H : Hp) : Hp := fun b => if b = d ∨ V.ref b ∈ kvs.map (·.2) then none else H b
theorem hidO_ne {d b : Addr} {kvs : List (L2.Key × V)} {H : Hp} (h1 : b ≠ d) (h2 : V.ref b ∉ kvs.map (·.2)) : hidO d kvs H b = H b := if_neg fun z => z.elim h1 h2
theorem hidO_some {d b : Addr} {kvs : List (L2.Key × V)} {H : Hp} {o : HO} (h : hidO d kvs H b = some o) : b ≠ d ∧ V.ref b ∉ kvs.map (·.2) ∧ H b = some o := by
  unfold hidO at h
  split at h
  · cases h
  · rename_i z
    exact ⟨fun e => z (.inl e), fun e => z (.inr e), h⟩
theorem hidO_sub {d : Addr} {kvs : List (L2.Key × V)} {H : Hp} : Same (hidO d kvs H) H := fun _ _ h => (hidO_some h).2.2
theorem hidO_same {d : Addr} {kvs : List (L2.Key × V)} {H H' : Hp} (s : Same H H') : Same (hidO d kvs H) (hidO d kvs H') := fun b o h => by
  obtain ⟨h1, h2, h3⟩ := hidO_some h
  rw [hidO_ne h1 h2]; exact s b o h3
theorem valV_mem {kvs : List (L2.Key × V)} {k : L2.Key} {v : V} (h : valV kvs k = some v) : v ∈ kvs.map (·.2) := by
  induction kvs with
  | nil => rw [valV_nil] at h; cases h
  | cons e r ih =>
    obtain ⟨j, w⟩ := e
    by_cases hk : j = k
    · subst hk
      have : w = v := by simpa [valV] using h
      exact this ▸ List.mem_cons_self
    · exact List.mem_cons_of_mem _ (ih (by simpa [valV, hk] using h))
structure Grp (K : PySem.W.Frag) (Hb H : Hp) (d : Addr) (es : List (L2.Key × PyData)) : Prop where
  ex : ∃ kvs : List (L2.Key × V), H d = some (.dK kvs) ∧ kvs.map (·.1) = keysOf es ∧ Hb d = none ∧
    (∀ (k : L2.Key) (v : V), valV kvs k = some v → ∃ l vs, v = .ref l ∧ Hb l = none ∧ l ≠ d ∧ H l = some (.lst vs) ∧ DqAll K (hidO d kvs H) vs (ofK es k)) ∧
    (∀ (j k : L2.Key) (l : Addr), valV kvs j = some (.ref l) → valV kvs k = some (.ref l) → j = k) ∧
    (∀ v ∈ kvs.map (·.2), ∃ k, valV kvs k = some v) ∧ Same Hb (hidO d kvs H)
theorem Grp.same {K : PySem.W.Frag} {Hb H : Hp} {d : Addr} {es : List (L2.Key × PyData)} (g : Grp K Hb H d es) : Same Hb H := by
  obtain ⟨_, _, _, _, _, _, _, s⟩ := g.ex
  exact s.trans hidO_sub
theorem Grp.up {K : PySem.W.Frag} {Hb H H' : Hp} {d : Addr} {es : List (L2.Key × PyData)} (g : Grp K Hb H d es) (s : Same H H') : Grp K Hb H' d es := by
  obtain ⟨kvs, h1, h2, h3, h4, h5, h6, h7⟩ := g.ex
  refine ⟨kvs, s _ _ h1, h2, h3, fun k v hv => ?_, h5, h6, h7.trans (hidO_same s)⟩
  obtain ⟨l, vs, q1, q2, q3, q4, q5⟩ := h4 k v hv
  exact ⟨l, vs, q1, q2, q3, s _ _ q4, q5.up (hidO_same s)⟩
theorem Grp.start {K : PySem.W.Frag} {Hb : Hp} {d : Addr} (n : Hb d = none) : Grp K Hb (upd Hb d (.dK [])) d [] :=
  ⟨[], upd_same, rfl, n, fun k v h => (by rw [valV_nil] at h; cases h), fun j k l h => (by rw [valV_nil] at h; cases h), fun v h => (List.not_mem_nil h).elim, fun b o h => by
    rw [hidO_ne (ne_of_none h n) List.not_mem_nil, upd_ne (ne_of_none h n)]; exact h⟩
/-- the data under a key, as they may be read -/
theorem Grp.get {K : PySem.W.Frag} {Hb H : Hp} {d : Addr} {es : List (L2.Key × PyData)} (g : Grp K Hb H d es) : ∃ kvs : List (L2.Key × V), H d = some (.dK kvs) ∧ kvs.map (·.1) = keysOf es ∧
    ∀ k : L2.Key, (valV kvs k = none ∧ ofK es k = []) ∨ ∃ l vs, valV kvs k = some (.ref l) ∧ Hb l = none ∧ H l = some (.lst vs) ∧ DqAll K H vs (ofK es k) := by
  obtain ⟨kvs, h1, h2, h3, h4, h5, h6, h7⟩ := g.ex
  refine ⟨kvs, h1, h2, fun k => ?_⟩
  cases e : valV kvs k with
  | none => exact .inl ⟨rfl, ofK_nil (by rw [← h2]; exact valV_keys.mp e)⟩
  | some v =>
    obtain ⟨l, vs, rfl, q2, q3, q4, q5⟩ := h4 k v e
    exact .inr ⟨l, vs, rfl, q2, q4, q5.up hidO_sub⟩
/-- an item's data: beside the dict and its lists -/
def GrpItem (K : PySem.W.Frag) (H : Hp) (d : Addr) (v : V) (x : PyData) : Prop := ∀ kvs, H d = some (.dK kvs) → Dq K (hidO d kvs H) v x
theorem GrpItem.int {K : PySem.W.Frag} {H : Hp} {d : Addr} (i : Int) : GrpItem K H d (.int i) (.int i) := fun _ _ => .int i
theorem GrpItem.old {K : PySem.W.Frag} {Hb H : Hp} {d : Addr} {es : List (L2.Key × PyData)} {v : V} {x : PyData} (g : Grp K Hb H d es) (h : Dq K Hb v x) : GrpItem K H d v x := fun kvs e => by
  obtain ⟨kvs', h1, _, _, _, _, _, h7⟩ := g.ex
  rw [e] at h1; cases h1
  exact h.up h7
section
variable {K : PySem.W.Frag} {Hb H : Hp} {d : Addr} {es : List (L2.Key × PyData)} {kvs : List (L2.Key × V)}
/-- one more behind a list that is there -/
theorem grp_more {k : L2.Key} {l : Addr} {vs : List V} {v : V} {x : PyData} (g : Grp K Hb H d es) (gd : H d = some (.dK kvs)) (hk : valV kvs k = some (.ref l)) (gl : H l = some (.lst vs)) (hx : GrpItem K H d v x) :
    Grp K Hb (upd H l (.lst (vs ++ [v]))) d (es ++ [(k, x)]) := by
  obtain ⟨kvs', h1, h2, h3, h4, h5, h6, h7⟩ := g.ex
  rw [gd] at h1; cases h1
  obtain ⟨l', vs', e1, nl, ld, gl', dl⟩ := h4 k _ hk
  cases e1
  rw [gl] at gl'; cases gl'
  have hin : V.ref l ∈ kvs.map (·.2) := valV_mem hk
  have hh : hidO d kvs (upd H l (.lst (vs ++ [v]))) = hidO d kvs H := by
    funext b
    unfold hidO
    by_cases z : b = d ∨ V.ref b ∈ kvs.map (·.2)
    · rw [if_pos z, if_pos z]
    · rw [if_neg z, if_neg z, upd_ne (fun e => z (.inr (by rw [e]; exact hin)))]
  refine ⟨kvs, by rw [upd_ne ld.symm]; exact gd, ?_, h3, fun j w hw => ?_, h5, h6, by rw [hh]; exact h7⟩
  · rw [keysOf_old]; exact h2
    rw [← h2]
    exact Classical.byContradiction fun n => by rw [valV_keys.mpr n] at hk; cases hk
  · obtain ⟨m, us, rfl, nm, md, gm, dm⟩ := h4 j w hw
    by_cases e : k = j
    · subst e
      rw [hk] at hw; cases hw
      rw [gl] at gm; cases gm
      refine ⟨l, vs ++ [v], rfl, nl, ld, upd_same, ?_⟩
      rw [hh, ofK_snoc, if_pos rfl]
      exact dm.snoc' (hx kvs gd)
    · have hne : m ≠ l := fun z => e (h5 k j l hk (by rw [← z]; exact hw))
      refine ⟨m, us, rfl, nm, md, by rw [upd_ne hne]; exact gm, ?_⟩
      rw [hh, ofK_snoc, if_neg e, List.append_nil]; exact dm
/-- a new list under a new key -/
theorem grp_new {k : L2.Key} {z : Addr} (g : Grp K Hb H d es) (gd : H d = some (.dK kvs)) (hk : valV kvs k = none) (nz : H z = none) : ∀ {G : Hp}, Same H G → G z = some (.lst []) → ∀ {v : V} {x : PyData},
    ∀ {G' : Hp}, Same (upd G d (.dK (putK kvs k (.ref z)))) G' → (∀ ks, G' d = some (.dK ks) → Dq K (hidO d ks G') v x) → Grp K Hb (upd G' z (.lst [v])) d (es ++ [(k, x)]) := by
  intro G sG gz v x G' s' hx
  obtain ⟨kvs', h1, h2, h3, h4, h5, h6, h7⟩ := g.ex
  rw [gd] at h1; cases h1
  have zd : z ≠ d := fun e => by rw [e, gd] at nz; cases nz
  have gd' : G' d = some (.dK (putK kvs k (.ref z))) := s' _ _ upd_same
  have hput : putK kvs k (.ref z) = kvs ++ [(k, .ref z)] := putK_new _ hk
  have zb : Hb z = none := g.same.free nz
  have hh : hidO d (putK kvs k (.ref z)) (upd G' z (.lst [v])) = hidO d (putK kvs k (.ref z)) G' := by
    funext b
    unfold hidO
    by_cases q : b = d ∨ V.ref b ∈ (putK kvs k (.ref z)).map (·.2)
    · rw [if_pos q, if_pos q]
    · rw [if_neg q, if_neg q, upd_ne (fun e => q (.inr (by rw [e, hput, List.map_append]; exact List.mem_append_right _ (by simp))))]
  have sH : Same (hidO d kvs H) (hidO d (putK kvs k (.ref z)) G') := fun b o h => by
    obtain ⟨q1, q2, q3⟩ := hidO_some h
    have bz : b ≠ z := ne_of_none q3 nz
    rw [hidO_ne q1 (by
      rw [hput, List.map_append, List.mem_append]
      rintro (q | q)
      · exact q2 q
      · have : V.ref b = V.ref z := by simpa using q
        exact bz (by cases this; rfl))]
    exact s' _ _ (by rw [upd_ne q1]; exact sG _ _ q3)
  have old : ∀ {m : Addr} {us : List V}, H m = some (.lst us) → (upd G' z (.lst [v])) m = some (.lst us) := fun {m us} h => by
    have mz : m ≠ z := ne_of_none h nz
    have md : m ≠ d := fun e => by rw [e, gd] at h; cases h
    rw [upd_ne mz]
    exact s' _ _ (by rw [upd_ne md]; exact sG _ _ h)
  refine ⟨putK kvs k (.ref z), by rw [upd_ne zd.symm]; exact gd', ?_, h3, fun j w hw => ?_, fun i j l e1 e2 => ?_, fun w hw => ?_, by rw [hh]; exact h7.trans sH⟩
  · rw [hput, List.map_append, h2, keysOf_new _ (by rw [← h2]; exact valV_keys.mp hk)]; rfl
  · rw [valV_put] at hw
    by_cases e : j = k
    · subst e
      rw [if_pos rfl] at hw; cases hw
      refine ⟨z, [v], rfl, zb, zd, upd_same, ?_⟩
      rw [hh, ofK_snoc, if_pos rfl, ofK_nil (by rw [← h2]; exact valV_keys.mp hk)]
      exact .cons (hx _ gd') .nil
    · rw [if_neg e] at hw
      obtain ⟨m, us, rfl, nm, md, gm, dm⟩ := h4 j w hw
      refine ⟨m, us, rfl, nm, md, old gm, ?_⟩
      rw [hh, ofK_snoc, if_neg (fun q => e q.symm), List.append_nil]
      exact dm.up sH
  · have no : ∀ t : L2.Key, valV kvs t = some (.ref z) → False := fun t q => by
      obtain ⟨m, us, q1, _, _, gm, _⟩ := h4 t _ q
      cases q1; rw [nz] at gm; cases gm
    rw [valV_put] at e1 e2
    by_cases a : i = k
    · rw [if_pos a] at e1; cases e1
      by_cases b : j = k
      · exact a.trans b.symm
      · rw [if_neg b] at e2; exact (no j e2).elim
    · rw [if_neg a] at e1
      by_cases b : j = k
      · rw [if_pos b] at e2; cases e2; exact (no i e1).elim
      · rw [if_neg b] at e2; exact h5 i j l e1 e2
  · rw [hput, List.map_append, List.mem_append] at hw
    rcases hw with hw | hw
    · obtain ⟨j, hj⟩ := h6 w hw
      refine ⟨j, ?_⟩
      rw [valV_put, if_neg (fun e => by subst e; rw [hk] at hj; cases hj)]; exact hj
    · have : w = .ref z := by simpa using hw
      subst this
      exact ⟨k, by rw [valV_put, if_pos rfl]⟩
end
end EL
namespace EL
open PySem PySem.Spec PyProof.Rows L2
/-- d.setdefault(k, []).append(v) -/
def tGrp (K : PySem.W.Frag) (td tk ti : TE) : TS := fun D σ H => td σ H fun x H1 => ∃ a Hb es, x = .ref a ∧ Grp K Hb H1 a es ∧ es.length < 100000 ∧ tk σ H1 fun y H2 => ∃ key : L2.Key, y = kV key ∧ Same H1 H2 ∧
  ∀ H3, Same Hb H3 → (∃ ks, H3 a = some (.dK ks)) → ti σ H3 fun v H4 => ∃ dd, Same H3 H4 ∧ GrpItem K H4 a v dd ∧ ∀ H5, Grp K Hb H5 a (es ++ [(key, dd)]) → D.nx σ H5
section
variable {X : Cx} {o e i : Expr} {td tk ti : TE} {apos cpos lp ap2 cp2 p : Pos}
theorem grp_bound {K : PySem.W.Frag} {Hb H : Hp} {d : Addr} {es : List (L2.Key × PyData)} (g : Grp K Hb H d es) {kvs : List (L2.Key × V)} (h : H d = some (.dK kvs)) : kvs.length ≤ es.length ∧ ∀ k l vs, valV kvs k = some (.ref l) → H l = some (.lst vs) → vs.length ≤ es.length := by
  obtain ⟨kvs', h1, h2, h3, h4, h5, h6, h7⟩ := g.ex
  rw [h] at h1; cases h1
  refine ⟨by rw [← List.length_map (f := fun e : L2.Key × V => e.1), h2]; exact keysOf_len es, fun k l vs hk hl => ?_⟩
  obtain ⟨m, us, e1, _, _, gm, dm⟩ := h4 k _ hk
  cases e1
  rw [hl] at gm; cases gm
  rw [dm.len]
  unfold ofK
  rw [List.length_map]
  exact List.length_filter_le _ _
theorem ps_grp (hd : PE X o td) (hk : PE X e tk) (hi : PE X i ti) (m : M2 X o "setdefault" apos e (.List [] lp) cpos)
    (hbase : attributeBase (.Call (.Attribute o "setdefault" apos) [e, .List [] lp] [] cpos) "append" X.env (eval (.Call (.Attribute o "setdefault" apos) [e, .List [] lp] [] cpos) X.env) = eval (.Call (.Attribute o "setdefault" apos) [e, .List [] lp] [] cpos) X.env := by rfl)
    (hfew : ((backTo cp2 (starEach [i] X.env)).all (fun x => !x.1) && (backToKw cp2 (keywordEach [] X.env)).all (fun x => x.1.isSome)
      && decide (([i] : List Expr).length + ([] : List Keyword).length + (if ([] : List Keyword).isEmpty then 0 else 1) < 30)) = true := by rfl)
    (hline : (ap2.endLine == cp2.line) = true := by rfl) (hs : starEach [i] X.env = (false, eval i X.env) :: starEach [] X.env := by rfl) :
    PS X (.Expr (.Call (.Attribute (.Call (.Attribute o "setdefault" apos) [e, .List [] lp] [] cpos) "append" ap2) [i] [] cp2) p) (tGrp X.K td tk ti) := by
  refine ⟨fun pins s σ H D I h => (ps_expr (pe_bm PySem.F.plainAttrs_list PySem.F.slot_list_append PySem.F.type_list_append mt_append (pe_dsetd (EL.PE.cl hd) (EL.PE.cl hk) (pe_lst pa_nil) m) (pa_cons (EL.PE.cl hi) pa_nil hs) hbase hfew hline hs rfl)).run pins s σ H D I ?_⟩
  refine ⟨_, h, ?_⟩
  rintro x H1 ⟨d, Hb, es, rfl, g1, hlen, hky⟩
  obtain ⟨kvs, gd1, _⟩ := g1.get
  refine ⟨d, rfl, .inl ⟨kvs, .inl gd1⟩, _, hky, ?_⟩
  rintro y H2 ⟨key, rfl, s2, hit⟩
  have g2 := g1.up s2
  have gd2 := s2 _ _ gd1
  obtain ⟨bk, bl⟩ := grp_bound g2 gd2
  refine ⟨Nat.zero_le _, fun z nz => ?_⟩
  have s3 : Same H2 (upd H2 z (.lst [])) := same_upd nz
  have gz : upd H2 z (.lst []) z = some (.lst []) := upd_same
  generalize upd H2 z (.lst []) = H3 at s3 gz ⊢
  have g3 := g2.up s3
  have gd3 := s3 _ _ gd2
  refine ⟨kvs, key, gd3, rfl, lt_sz (by omega), fun v hv => ?_, fun hv => ?_⟩
  · obtain ⟨kvs', q1, q2, q3⟩ := g3.get
    rw [gd3] at q1; cases q1
    rcases q3 key with ⟨q, _⟩ | ⟨l, vs, q, nl, gl, dl⟩
    · rw [hv] at q; cases q
    · rw [hv] at q; cases q
      have lvs : vs.length ≤ es.length := (grp_bound g3 gd3).2 key l vs hv gl
      refine ⟨.inl ⟨rfl, _, sqOf gl⟩, _, hit H3 g3.same ⟨_, gd3⟩, ?_⟩
      rintro w H4 ⟨dd, s4, hx, fin⟩
      exact ⟨l, vs, _, rfl, rfl, s4 _ _ gl, lt_sz (by omega), fin _ (grp_more (g3.up s4) (s4 _ _ gd3) hv (s4 _ _ gl) hx)⟩
  · have zd : z ≠ d := fun e => by rw [e, gd2] at nz; cases nz
    have gz' : upd H3 d (.dK (putK kvs key (.ref z))) z = some (.lst []) := by rw [upd_ne zd]; exact gz
    have sB : Same Hb (upd H3 d (.dK (putK kvs key (.ref z)))) := fun b o h => by
      obtain ⟨_, _, _, nd, _⟩ := g2.ex
      rw [upd_ne (ne_of_none h nd)]; exact g3.same b o h
    refine ⟨.inl ⟨rfl, _, sqOf gz'⟩, _, hit _ sB ⟨_, upd_same⟩, ?_⟩
    rintro w H4 ⟨dd, s4, hx, fin⟩
    exact ⟨z, [], _, rfl, rfl, s4 _ _ gz', lt_sz (by show 0 ≤ _; omega), fin _ (grp_new g2 gd2 hv nz s3 gz s4 hx)⟩
end
end EL
/-! dict comprehensions: read by a walk; stored in a name. -/
namespace EL
open PySem PySem.Spec PyProof.Rows L2
section
variable {J : It} {n : Nat} {G : Hp → Prop} {Y : Nat → Hp → V → Hp → Prop}
theorem dc_it (wk : Walk J n G Y) {g : TG} {tt : TT} {tk tv : TE} {vs : List Nat} {σ : L2.St} {H1 : Hp} {D : Addr} {Qd : Hp → Prop} (P : Nat → Hp → Prop) (p0 : P 0 (upd H1 D (.dK []))) (pG : ∀ i H, i ≤ n → P i H → G H)
    (turn : ∀ i x H H', i < n → P i H → Y i H x H' → g x (wipe σ vs) H' fun σ2 H2 => wipe σ2 vs = wipe σ vs ∧ tt σ2 H2 fun b H3 =>
      if b = true then tk σ2 H3 fun y H4 => tv σ2 H4 fun z H5 => ∃ kvs k, y = kV k ∧ H5 D = some (.dK kvs) ∧ kvs.length < sizeLine ∧ P (i + 1) (upd H5 D (.dK (putK kvs k z))) else P (i + 1) H3) (fin : ∀ H, P n H → Qd H) :
    ∃ W : Nat → Nat → Hp → Prop, (∃ m, W 0 m (upd H1 D (.dK []))) ∧ ∀ i m H, W i m H →
      (J.stop i H ∧ Qd H) ∨ (J.go i H ∧ ∃ Nx : Hp → Prop, (∀ H', Nx H' → ∃ m', m' < m ∧ W (i + 1) m' H') ∧ ∀ x H', J.yld i H x H' → g x (wipe σ vs) H' fun σ2 H2 => wipe σ2 vs = wipe σ vs ∧ tt σ2 H2 fun b H3 =>
        if b = true then tk σ2 H3 fun y H4 => tv σ2 H4 fun z H5 => ∃ kvs k, y = kV k ∧ H5 D = some (.dK kvs) ∧ kvs.length < sizeLine ∧ Nx (upd H5 D (.dK (putK kvs k z))) else Nx H3) := by
  refine ⟨fun i m H => m + i = n ∧ P i H, ⟨n, rfl, p0⟩, fun i m H => ?_⟩
  rintro ⟨e, p⟩
  rcases Nat.lt_or_ge i n with lt | ge
  · exact .inr ⟨wk.goes i H lt (pG i H (Nat.le_of_lt lt) p), P (i + 1), fun _ p' => ⟨m - 1, by omega, by omega, p'⟩, fun x _ y => turn i x H _ lt p (wk.yields i H x _ lt (pG i H (Nat.le_of_lt lt) p) y)⟩
  · obtain rfl : i = n := by omega
    exact .inl ⟨wk.stops H (pG i H (Nat.le_refl _) p), fin H p⟩
end
section
variable {X : Cx}
/-- y = {k: v for ..}: stored before the block is let go -/
theorem ps_setDc {i : Nat} {y : Str} {py spos : Pos} {kx vx tg iter : Expr} {ifs : List Expr} {scope : Scope} {own : List (Str × Nat)} {pos : Pos} {wi : TI} {g : TG} {tt : TT} {tk tv : TE} (hc : X.calm = true) (hN : X.N.Nodup) (hy : X.N[i]? = some y) (hyl : X.env.scope.names.lookup y = some .local)
    (hsw : swapsWith (.DictComp kx vx [⟨tg, iter, ifs, 0⟩] scope pos) (some (.Name y py)) spos.line X.env = pure true) (hi : PI X tg iter wi) (ok : BlkOk X.N X.env.scope scope own)
    (hg : ∀ (s : Shared) (H : Hp) (C : Addr) (cl : List (Str × Addr)) (fp : List Addr), PG (X.blk s H scope (compEnvC scope cl C X.env) fp) tg g) (ht : ∀ (s : Shared) (H : Hp) (C : Addr) (cl : List (Str × Addr)) (fp : List Addr), PTs (X.blk s H scope (compEnvC scope cl C X.env) fp) ifs tt)
    (hk : ∀ (s : Shared) (H : Hp) (C : Addr) (cl : List (Str × Addr)) (fp : List Addr), PE (X.blk s H scope (compEnvC scope cl C X.env) fp) kx tk) (he : ∀ (s : Shared) (H : Hp) (C : Addr) (cl : List (Str × Addr)) (fp : List Addr), PE (X.blk s H scope (compEnvC scope cl C X.env) fp) vx tv)
    (hs : ∀ x, foldedSetIterable iter X.env x = pure x := by intro _; rfl) :
    PS X (.Assign [.Name y py] (.DictComp kx vx [⟨tg, iter, ifs, 0⟩] scope pos) spos) (tAsg (tDc wi g tt tk tv (own.map (·.2))) (gName i)) := by
  refine ⟨fun pins s σ H D I q0 => ?_⟩
  have q : tDc wi g tt tk tv (own.map (·.2)) σ H (fun v H1 => gName i v σ H1 D.nx) := q0
  rw [exec_Assign_Name_used _ _ _ _ hsw]
  refine wpAny_bind (wpAny_standAt (wpAny_bind (wpAny_bind ?_)))
  refine wpAny_mono (dc_core (use := some (assign (.Name y py) X.env)) (Qf := fun _ s' => SP X pins D .next s') hc hN I hi ok hg ht hk he hs q fun L C s' m H' J1 q1 hn f => ?_) (fun _ s' hq => wpAny_pure (wpAny_pure hq)) fun _ _ z => z
  show wpAny _ _ (assign (.Name y py) X.env (.ref L)) _ _ _
  refine wpAny_assign_Name (store_ok2 (v := V.ref L) J1 hN hy (.inl hyl) rfl (fun s2 J2 hst => ?_) (.inr hyl))
  obtain ⟨a, sb, ha⟩ := hst
  obtain ⟨f0, f1, f2, f3, f4, f5⟩ := f
  have far : C ≠ a := ha.elim (fun z => z ▸ f1) fun z e => f4 y a z e.symm
  exact ⟨m, hn.sameBut sb far, fun h3 sb3 => ⟨_, _, J2.turned (t' := s2.toks) (fun b o hb e => (sb3.2 b hb).trans e) f0 f1 f3 f4 f5, q1⟩⟩
end
end EL
namespace EL
open PySem PySem.Spec PyProof.Rows L2
/-- an expression's dict, list, ..: from here on it is walked and nothing else -/
def tLockA (te : TE) : TE := fun σ H Q => te σ H fun x H1 => ∃ d u, x = .ref d ∧ H1 d = some u ∧ Mut (some u) ∧ ∀ od, Q x (upd H1 d (.frz od u))
theorem pe_lockA {X : Cx} {e : Expr} {te : TE} (h : PE X e te) : PE X e (tLockA te) := by
  refine ⟨fun pins s σ H Q I hw => thn (h.run pins s σ H _ I hw) fun v s1 z => ?_⟩
  obtain ⟨x, H1, I1, r, d, u, ex, hd, mu, q⟩ := z
  obtain ⟨od, I2⟩ := I1.lock hd mu
  exact ⟨x, _, I2, r, q od⟩
end EL
namespace EL
open PySem PySem.Spec PyProof.Rows L2
theorem swd_true {kx vx : Expr} {gs : List Comprehension} {scope : Scope} {pos py : Pos} {y : Str} {l : Nat} {env : Env} (hk : env.scope.kind = .function) (hy : env.scope.names.lookup y = some .local) (hl : (py.line == pos.line) = true)
    (ha : (scope.names.any fun (n, k) => n == y && (k == .local || k == .cell)) = false) : swapsWith (.DictComp kx vx gs scope pos) (some (.Name y py)) l env = pure true := by
  have q1 : env.kindOf y = some .local := hy
  have q2 : env.blockKind = .function := by
    unfold Env.blockKind
    rw [hk]; rfl
  unfold swapsWith
  simp only [q2, q1, ha, Expr.pos, hl]; rfl
end EL
/-! Numbers that lead to numbers: what is reached, by mathematics; a dict of lists of numbers. -/
namespace EL
open PySem PySem.Spec PyProof.Rows L2
abbrev Edges := List (Nat × Nat)
inductive GR (es : Edges) (ss : List Nat) : Nat → Prop
  | base {s : Nat} : s ∈ ss → GR es ss s
  | step {p q : Nat} : GR es ss p → (p, q) ∈ es → GR es ss q
def outs (es : Edges) (s : Nat) : List Nat := (es.filter fun e => decide (e.1 = s)).map (·.2)
theorem mem_outs {es : Edges} {s t : Nat} : t ∈ outs es s ↔ (s, t) ∈ es := by
  unfold outs
  simp only [List.mem_map, List.mem_filter, decide_eq_true_eq]
  constructor
  · rintro ⟨⟨a, b⟩, ⟨h, rfl⟩, rfl⟩; exact h
  · intro h; exact ⟨(s, t), ⟨h, rfl⟩, rfl⟩
theorem outs_len (es : Edges) (s : Nat) : (outs es s).length ≤ es.length := by
  unfold outs
  rw [List.length_map]
  exact List.length_filter_le _ _
theorem GR.mono {es fs : Edges} {ss : List Nat} {p : Nat} (w : ∀ e ∈ es, e ∈ fs) (h : GR es ss p) : GR fs ss p := by
  induction h with
  | base m => exact .base m
  | step _ e ih => exact .step ih (w _ e)
/-- going: what was met, and what of it waits -/
structure Goes (es : Edges) (ss : List Nat) (M W : List Nat) : Prop where
  nd : M.Nodup
  re : ∀ p ∈ M, GR es ss p
  st : ∀ s ∈ ss, s ∈ M
  su : ∀ p ∈ W, p ∈ M
  cl : ∀ p ∈ M, p ∉ W → ∀ q, (p, q) ∈ es → q ∈ M
theorem Goes.done {es : Edges} {ss M : List Nat} (g : Goes es ss M []) (p : Nat) : p ∈ M ↔ GR es ss p := by
  refine ⟨g.re p, fun h => ?_⟩
  induction h with
  | base m => exact g.st _ m
  | step _ e ih => exact g.cl _ ih (List.not_mem_nil) _ e
theorem gr_lt {es : Edges} {ss : List Nat} {n p : Nat} (hs : ∀ s ∈ ss, s < n) (he : ∀ e ∈ es, e.2 < n) (h : GR es ss p) : p < n := by
  cases h with
  | base m => exact hs _ m
  | step _ e => exact he _ e
theorem nodup_len : ∀ (n : Nat) (l : List Nat), l.Nodup → (∀ x ∈ l, x < n) → l.length ≤ n
  | 0, l, _, h => by
    cases l with
    | nil => exact Nat.le_refl _
    | cons a r => exact absurd (h a List.mem_cons_self) (Nat.not_lt_zero _)
  | n + 1, l, d, h => by
    by_cases m : n ∈ l
    · have e := List.length_erase_of_mem m
      have ih := nodup_len n (l.erase n) (d.erase n) fun x hx => by
        have h1 := h x (List.mem_of_mem_erase hx)
        have h2 : x ≠ n := fun e => by subst e; exact (List.Nodup.not_mem_erase d) hx
        omega
      have : 0 < l.length := List.length_pos_of_mem m
      omega
    · have ih := nodup_len n l d fun x hx => by
        have h1 := h x hx
        have h2 : x ≠ n := fun e => m (e ▸ hx)
        omega
      omega
/-- a dict of lists: what follows each number -/
structure Fol (K : PySem.W.Frag) (H : Hp) (d : Addr) (es : Edges) : Prop where
  ex : ∃ (kvs : List (L2.Key × V)) (ks : List Nat), H d = some (.dK kvs) ∧ kvs.map (·.1) = ks.map (fun n : Nat => (Sum.inl (n : Int) : L2.Key)) ∧ (∀ s, s ∈ ks ↔ outs es s ≠ []) ∧ ks.length ≤ es.length ∧
    ∀ s : Nat, (valV kvs (.inl (s : Int)) = none ∧ outs es s = []) ∨ ∃ l, valV kvs (.inl (s : Int)) = some (.ref l) ∧ H l = some (.lst ((outs es s).map fun n : Nat => V.int (n : Int)))
theorem Fol.up {K : PySem.W.Frag} {H H' : Hp} {d : Addr} {es : Edges} (f : Fol K H d es) (s : Same H H') : Fol K H' d es := by
  obtain ⟨kvs, ks, h1, h2, h3, h4, h5⟩ := f.ex
  exact ⟨kvs, ks, s _ _ h1, h2, h3, h4, fun t => (h5 t).imp id fun ⟨l, q1, q2⟩ => ⟨l, q1, s _ _ q2⟩⟩
abbrev edgeD (e : Nat × Nat) : L2.Key × PyData := (.inl (e.1 : Int), .int (e.2 : Int))
theorem ofK_edges (es : Edges) (s : Nat) : ofK (es.map edgeD) (.inl (s : Int)) = (outs es s).map fun n : Nat => PyData.int (n : Int) := by
  induction es with
  | nil => rfl
  | cons e r ih =>
    unfold ofK outs at ih ⊢
    by_cases h : e.1 = s
    · have hk : (edgeD e).1 = (Sum.inl (s : Int) : L2.Key) := by rw [h.symm]
      rw [List.map_cons, List.filter_cons, if_pos (by simpa using hk), List.filter_cons, if_pos (by simpa using h), List.map_cons, List.map_cons, List.map_cons, ih]
    · have hk : ¬ (edgeD e).1 = (Sum.inl (s : Int) : L2.Key) := fun q => h (by
        have := Sum.inl.inj q
        omega)
      rw [List.map_cons, List.filter_cons, if_neg (by simpa using hk), List.filter_cons, if_neg (by simpa using h), ih]
theorem dqAll_nums {K : PySem.W.Frag} {H : Hp} : ∀ {ns : List Nat} {vs : List V}, DqAll K H vs (ns.map fun n : Nat => PyData.int (n : Int)) → vs = ns.map fun n : Nat => V.int (n : Int)
  | [], _, h => by cases h; rfl
  | n :: r, _, h => by
    cases h with
    | cons h1 h2 => cases h1; rw [dqAll_nums h2]; rfl
theorem keys_nums : ∀ es : Edges, ∃ ks : List Nat, keysOf (es.map edgeD) = ks.map (fun n : Nat => (Sum.inl (n : Int) : L2.Key)) ∧ (∀ s, s ∈ ks ↔ outs es s ≠ []) ∧ ks.length ≤ es.length := by
  intro es
  have key : ∀ l : List L2.Key, (∀ k ∈ l, ∃ n : Nat, k = .inl (n : Int)) → ∃ ks : List Nat, l = ks.map (fun n : Nat => (Sum.inl (n : Int) : L2.Key)) := by
    intro l
    induction l with
    | nil => exact fun _ => ⟨[], rfl⟩
    | cons k r ih =>
      intro h
      obtain ⟨n, rfl⟩ := h k List.mem_cons_self
      obtain ⟨ks, e⟩ := ih fun j hj => h j (List.mem_cons_of_mem _ hj)
      exact ⟨n :: ks, by rw [e]; rfl⟩
  obtain ⟨ks, e⟩ := key (keysOf (es.map edgeD)) fun k hk => by
    obtain ⟨d, hd⟩ := mem_keysOf.mp hk
    obtain ⟨x, _, ex⟩ := List.mem_map.mp hd
    exact ⟨x.1, (congrArg Prod.fst ex).symm⟩
  refine ⟨ks, e, fun s => ?_, ?_⟩
  · have m1 : s ∈ ks ↔ (Sum.inl (s : Int) : L2.Key) ∈ keysOf (es.map edgeD) := by
      rw [e, List.mem_map]
      constructor
      · intro h; exact ⟨s, h, rfl⟩
      · rintro ⟨n, hn, q⟩
        have := Sum.inl.inj q
        have : n = s := by omega
        exact this ▸ hn
    rw [m1]
    constructor
    · intro h
      obtain ⟨d, hd⟩ := mem_keysOf.mp h
      obtain ⟨x, hx, ex⟩ := List.mem_map.mp hd
      have : x.1 = s := by
        have := Sum.inl.inj (congrArg Prod.fst ex)
        omega
      intro z
      have : x.2 ∈ outs es s := mem_outs.mpr (by rw [← this]; exact hx)
      rw [z] at this
      exact List.not_mem_nil this
    · intro h
      obtain ⟨t, ht⟩ := List.exists_mem_of_ne_nil _ h
      exact mem_keysOf.mpr ⟨_, List.mem_map.mpr ⟨(s, t), mem_outs.mp ht, rfl⟩⟩
  · have := keysOf_len (es.map edgeD)
    rw [e, List.length_map, List.length_map] at this
    exact this
theorem Grp.fol {K : PySem.W.Frag} {Hb H : Hp} {d : Addr} {es : Edges} (g : Grp K Hb H d (es.map edgeD)) : Fol K H d es := by
  obtain ⟨kvs, h1, h2, h3⟩ := g.get
  obtain ⟨ks, k1, k2, k3⟩ := keys_nums es
  refine ⟨kvs, ks, h1, h2.trans k1, k2, k3, fun s => ?_⟩
  rcases h3 (.inl (s : Int)) with ⟨q1, q2⟩ | ⟨l, vs, q1, _, q3, q4⟩
  · rw [ofK_edges] at q2
    exact .inl ⟨q1, List.map_eq_nil_iff.mp q2⟩
  · rw [ofK_edges] at q4
    rw [dqAll_nums q4] at q3
    exact .inr ⟨l, q1, q3⟩
/-- a dict of numbers, each with True -/
abbrev oneD (M : List Nat) : List (L2.Key × V) := M.map fun n : Nat => ((.inl (n : Int) : L2.Key), V.bl true)
theorem oneD_get {M : List Nat} {s : Nat} : valV (oneD M) (.inl (s : Int)) = if s ∈ M then some (.bl true) else none := by
  induction M with
  | nil => simp [valV_nil]
  | cons n r ih =>
    by_cases h : n = s
    · subst h; simp [valV]
    · have hk : ¬ (Sum.inl (n : Int) : L2.Key) = .inl (s : Int) := fun q => h (by have := Sum.inl.inj q; omega)
      have hs : ¬ s = n := fun e => h e.symm
      have h2 : valV (oneD (n :: r)) (.inl (s : Int)) = valV (oneD r) (.inl (s : Int)) := by
        simp only [List.map_cons, valV, List.find?_cons]
        rw [decide_eq_false hk]
      rw [h2, ih]
      simp [hs]
theorem oneD_put {M : List Nat} {s : Nat} (h : s ∉ M) : putK (oneD M) (.inl (s : Int)) (.bl true) = oneD (M ++ [s]) := by
  rw [putK_new _ (by rw [oneD_get, if_neg h])]
  show _ = List.map _ (M ++ [s])
  rw [List.map_append]; rfl
theorem oneD_put' {M : List Nat} {s : Nat} (h : s ∈ M) : putK (oneD M) (.inl (s : Int)) (.bl true) = oneD M := by
  unfold putK
  have ha : ((oneD M).any fun kv => decide (kv.1 = (Sum.inl (s : Int) : L2.Key))) = true := by
    rw [List.any_eq_true]
    exact ⟨(.inl (s : Int), .bl true), List.mem_map.mpr ⟨s, h, rfl⟩, decide_eq_true rfl⟩
  rw [if_pos ha, List.map_map]
  refine List.map_congr_left fun n _ => ?_
  show (if (Sum.inl (n : Int) : L2.Key) = .inl (s : Int) then _ else _) = _
  split <;> rfl
end EL
namespace EL
open PySem PySem.Spec PyProof.Rows L2
/-- o.f where K is named (in a comprehension) -/
theorem pe_fldK {X : Cx} {K : PySem.W.Frag} {e : Expr} {ta : TE} {f : Str} {pos : Pos} (he : PE X e ta) (hb : attributeBase e f X.env (eval e X.env) = eval e X.env) (hK : X.K = K := by rfl) : PE X (.Attribute e f pos) (tFld K ta f) := by
  subst hK
  exact pe_fld he hb
theorem kdK {X : Cx} {K : PySem.W.Frag} {e : Expr} {d : PyData} (h : PE X e (tK X.K d)) (hK : X.K = K := by rfl) : PE X e (tK K d) := by
  subst hK
  exact h
end EL
namespace EL
open PySem PySem.Spec PyProof.Rows L2
def kwM1 {α : Type} : List α → List α → List α
  | [s], [z] => [s, z]
  | _, _ => []
theorem kwM1_rel {vs : List V} {us : List Value} {zs : List V} {ws : List Value} (h1 : Vals vs us) (h2 : Vals zs ws) : Vals (kwM1 vs zs) (kwM1 us ws) := by
  cases h1 with
  | nil => exact .nil
  | cons r0 rr0 =>
    cases rr0 with
    | cons _ _ => exact .nil
    | nil =>
    cases h2 with
    | nil => exact .nil
    | cons r rr =>
      cases rr with
      | nil => exact .cons r0 (.cons r .nil)
      | cons _ _ => exact .nil
theorem Fun.kwM1 {K : PySem.W.Frag} {x qual : Str} {st : Stmt} {f : Addr} {fd : FuncData} {r p : Str} (F : Fun K x qual st f fd)
    (h : ∀ (kV doc pm : Value) (an : Option Addr) (cdv ct : Value) (t u : Value), bindArgs (PySem.W.fnOf x qual (defArgs st) (defBody st) (defScope st) .none kV doc pm an cdv ct) ⟨[t], [(p, u)]⟩ = pure [(r, t), (p, u)]) : KBinds K fd [r, p] [p] EL.kwM1 EL.kwM1 := by
  obtain ⟨oc, od, kV, doc, pm, an, cdv, ct, osl, rfl, lk, hcd⟩ := F.ex
  refine ⟨fun s us ws _ hl => ?_, kwM1_rel⟩
  match us, ws, hl with
  | [t], [u], _ => exact .of_eq (h kV doc pm an cdv ct t u)
  | [], _, hl => exact absurd hl (by simp [EL.kwM1])
  | [_], [], hl => exact absurd hl (by simp [EL.kwM1])
  | [_], _ :: _ :: _, hl => exact absurd hl (by simp [EL.kwM1])
  | _ :: _ :: _, _, hl => exact absurd hl (by simp [EL.kwM1])
end EL
/-! Data of tuples alone stands as long as tuples stand; lists of such data that grow. -/
namespace EL
open PySem PySem.Spec PyProof.Rows L2
/-- tuples stand -/
def KpT (H H' : Hp) : Prop := ∀ b xs, (H b = some (.tup xs) → H' b = some (.tup xs)) ∧ ∀ o, H b = some (.frz o (.tup xs)) → H' b = some (.frz o (.tup xs))
theorem KpT.of {H H' : Hp} (s : Same H H') : KpT H H' := fun b xs => ⟨fun h => s _ _ h, fun o h => s _ _ h⟩
theorem KpT.trans {H H1 H2 : Hp} (x : KpT H H1) (y : KpT H1 H2) : KpT H H2 := fun b xs => ⟨fun h => (y b xs).1 ((x b xs).1 h), fun o h => (y b xs).2 o ((x b xs).2 o h)⟩
theorem KpT.lst {H : Hp} {p : Addr} {vs : List V} {o : HO} (h : H p = some (.lst vs)) : KpT H (upd H p o) := fun b xs => ⟨fun e => by rw [upd_ne (fun q => by rw [q, h] at e; cases e)]; exact e, fun o e => by rw [upd_ne (fun q => by rw [q, h] at e; cases e)]; exact e⟩
theorem KpT.dT {H : Hp} {p : Addr} {vs : List (List L2.Key × V)} {o : HO} (h : H p = some (.dT vs)) : KpT H (upd H p o) := fun b xs => ⟨fun e => by rw [upd_ne (fun q => by rw [q, h] at e; cases e)]; exact e, fun o e => by rw [upd_ne (fun q => by rw [q, h] at e; cases e)]; exact e⟩
theorem KpT.dK {H : Hp} {p : Addr} {vs : List (L2.Key × V)} {o : HO} (h : H p = some (.dK vs)) : KpT H (upd H p o) := fun b xs => ⟨fun e => by rw [upd_ne (fun q => by rw [q, h] at e; cases e)]; exact e, fun o e => by rw [upd_ne (fun q => by rw [q, h] at e; cases e)]; exact e⟩
theorem KpT.wo {H : Hp} {p : Addr} {vs : List V} (h : H p = some (.lst vs)) : KpT H (wo p H) := fun b xs => ⟨fun e => by rw [wo_ne (fun q => by rw [q, h] at e; cases e)]; exact e, fun o e => by rw [wo_ne (fun q => by rw [q, h] at e; cases e)]; exact e⟩
theorem sqT_kpt {K : PySem.W.Frag} {H H' : Hp} {b : Addr} {xs : List V} (k : KpT H H') (h : SqT K H b xs) : SqT K H' b xs := by
  rcases h with (h | ⟨o, h⟩) | h
  · exact .inl (.inl ((k b xs).1 h))
  · exact .inl (.inr ⟨o, (k b xs).2 o h⟩)
  · exact .inr h
mutual
theorem dq_kpt {K : PySem.W.Frag} {H H' : Hp} (k : KpT H H') : ∀ (d : PyData) (v : V), Dq K H v d → noLD d = true → Dq K H' v d
  | .none, _, h, _ => by cases h; exact .non
  | .bool b, _, h, _ => by cases h; exact .bl b
  | .int i, _, h, _ => by cases h; exact .int i
  | .str x, _, h, _ => by cases h; exact .str x
  | .list ds, _, h, n => by simp [noLD] at n
  | .tuple ds, _, h, n => by
    cases h with
    | tup hs ha => exact .tup (sqT_kpt k hs) (dqAll_kpt k ds _ ha (by simpa [noLD] using n))
  | .dict _, _, h, n => by simp [noLD] at n
theorem dqAll_kpt {K : PySem.W.Frag} {H H' : Hp} (k : KpT H H') : ∀ (ds : List PyData) (vs : List V), DqAll K H vs ds → noLDs ds = true → DqAll K H' vs ds
  | [], _, h, _ => by cases h; exact .nil
  | d :: ds, _, h, n => by
    cases h with
    | cons h1 h2 =>
      obtain ⟨n1, n2⟩ : noLD d = true ∧ noLDs ds = true := by simpa [noLDs] using n
      exact .cons (dq_kpt k d _ h1 n1) (dqAll_kpt k ds _ h2 n2)
end
theorem noLDs_map {α : Type} {f : α → PyData} (h : ∀ a, noLD (f a) = true) : ∀ l : List α, noLDs (l.map f) = true
  | [] => rfl
  | a :: r => by simp only [List.map_cons, noLDs, h a, noLDs_map h r, Bool.and_self]
theorem noLDs_nats (ns : List Nat) : noLDs (ns.map fun n : Nat => PyData.int (n : Int)) = true := noLDs_map (fun _ => rfl) ns
end EL
/-! own binary operators: x + y, x | y of two instances of one class, the answer an object. -/
namespace EL
open PySem PySem.Spec PyProof.Rows L2
section
variable {X : Cx} {k : Nat} {C f : Addr} {fd : FuncData} {ps : List Str} {sp : Sp} {E : XK}
def rOwnB (C : Addr) (sp : Sp) (E : XK) : R2 := fun x y H Q => ∃ a b dx dy fs gs, x = .ref a ∧ y = .ref b ∧ H a = some (.ins C dx fs) ∧ H b = some (.ins C dy gs) ∧ sp [.ref a, .ref b] H (fun v H' => ∃ r : Addr, v = .ref r ∧ Q (.ref r) H') E
theorem run_ownB {A : Around} {pins : List (Addr × Obj)} {s : Shared} {σ : L2.St} {H : Hp} {a b : Addr} {Q : VK} (hA : A.frames = X.A.frames) (hr : Room k A) (F : FnOk X.prog X.w X.K X.mg X.base CX0 k f fd ps sp) (hb : Binds X.K fd ps []) (hx : Passes CX0 X E) (I : Inv X pins σ H s)
    (hsp : sp [.ref a, .ref b] H (fun v H' => ∃ r : Addr, v = .ref r ∧ Q (.ref r) H') E) :
    wpAny (model X.prog X.w) A (call (.ref f) [.ref a, .ref b]) (PySem.W.CmpBack (EP X pins σ Q)) X.xe s := by
  have e0 : Env0 X.prog X.w X.K X.mg X.base A X.stack s H := by
    have e := I.env0
    exact ⟨by rw [hA]; exact e.frames, e.mod, e.bs, e.bsz, e.funs, e.frf, e.hok, e.bare⟩
  have hl := F.len _ _ _ _ hsp
  have r2 : Vals [V.ref a, V.ref b] [Value.ref a, Value.ref b] := .cons rfl (.cons rfl .nil)
  refine wpAny_call (codeAny_mono (F.run A X.stack s H ⟨[.ref a, .ref b], []⟩ [.ref a, .ref b] [.ref a, .ref b] _ E hr e0 (by
    have := hb s [.ref a, .ref b] I.kIn (by simpa using hl)
    simpa using this) r2 hsp) fun r s' hq => ?_)
  cases r with
  | error e => exact hx pins σ H s e s' I hq
  | ok fl =>
    cases fl with
    | ret w =>
      obtain ⟨z, H', I', rz, r, ez, q⟩ := I.after hq
      subst ez
      cases rz
      exact ⟨.ref r, H', I', rfl, q⟩
    | next => exact False.elim hq
    | brk => exact False.elim hq
    | cont => exact False.elim hq
/-- what an operator wants to know of the class -/
structure BinOwn (K : PySem.W.Frag) (C f : Addr) (op : Operator) : Prop where
  sf : PySem.W.selfFirst K C = true
  at_ : PySem.W.findIn K (.ref C) (PySem.dunder op.info.snd) = some (some (.ref f))
  fn : PySem.W.isFn K (.ref f) = true
theorem op_ownB {op : Operator} (F : FnOk X.prog X.w X.K X.mg X.base CX0 k f fd ps sp) (hr : Room k X.A) (N : BinOwn X.K C f op) (hb : Binds X.K fd ps []) (hx : Passes CX0 X E) :
    OpR X (binaryOp op) (rOwnB C sp E) := by
  intro pins s σ H x y v u Q I rx ry hq
  obtain ⟨a, b, dx, dy, fs, gs, rfl, rfl, ha, hb', hsp⟩ := hq
  cases rx
  cases ry
  obtain ⟨mA, J, _⟩ := ins_get I.hok ha
  obtain ⟨mB, J', _⟩ := ins_get I.hok hb'
  obtain ⟨od, J, _⟩ := J.look
  obtain ⟨od', J', _⟩ := J'.look
  obtain ⟨m, hF⟩ := I.fr
  exact PySem.W.binop_K (op := op) hF I.ok.mod.kin J J'.type N.sf N.at_ N.fn (run_ownB rfl hr F hb hx I hsp)
end
end EL
/-! [e for a in xs for b in ys]: both walks by what holds between turns. -/
namespace EL
open PySem PySem.Spec PyProof.Rows L2
#print L2.Walk
theorem it_gen {J : It} {n : Nat} {G : Hp → Prop} {Y : Nat → Hp → V → Hp → Prop} (w : Walk J n G Y) {H0 : Hp} {Qd : Hp → Prop} {B : V → Hp → (Hp → Prop) → Prop} (Pv : Nat → Hp → Prop) (h0 : Pv 0 H0) (hG : ∀ i H, i ≤ n → Pv i H → G H)
    (hs : ∀ i x H H', i < n → Pv i H → Y i H x H' → B x H' (Pv (i + 1))) (hd : ∀ H, Pv n H → Qd H) :
    ∃ W : Nat → Nat → Hp → Prop, (∃ m, W 0 m H0) ∧ ∀ i m H, W i m H → (J.stop i H ∧ Qd H) ∨ (J.go i H ∧ ∃ Nx : Hp → Prop, (∀ H', Nx H' → ∃ m', m' < m ∧ W (i + 1) m' H') ∧ ∀ x H', J.yld i H x H' → B x H' Nx) := by
  refine ⟨fun i m H => i ≤ n ∧ m = n - i ∧ Pv i H, ⟨n, Nat.zero_le _, rfl, h0⟩, fun i m H ⟨hi, hm, hp⟩ => ?_⟩
  by_cases e : i = n
  · subst e; exact .inl ⟨w.stops H (hG _ _ hi hp), hd H hp⟩
  · refine .inr ⟨w.goes i H (by omega) (hG _ _ hi hp), Pv (i + 1), fun H' h => ⟨n - (i + 1), by omega, by omega, rfl, h⟩, fun x H' y => hs i x H H' (by omega) hp (w.yields i H x H' (by omega) (hG _ _ hi hp) y)⟩
end EL
namespace KP
open PySem PySem.Spec PyProof.Rows L2 EL
open Evl (pss_cut)
abbrev sStatesBehind : Stmt := topS 29
theorem scStatesBehind : FnScope ["size", "states", "state"] ["size", "states"] (defScope sStatesBehind) := ⟨rfl, rfl, rfl, by decide +kernel, rfl, by decide +kernel, by decide +kernel⟩
abbrev sMovesBehind : Stmt := topS 30
theorem scMovesBehind : FnScope ["size", "moves", "state", "left", "right", "further"] ["size", "moves"] (defScope sMovesBehind) := ⟨rfl, rfl, rfl, by decide +kernel, rfl, by decide +kernel, by decide +kernel⟩
abbrev sPacerOr : Stmt := inClass (topS 26) 3
theorem scPacerOr : FnScope ["self", "other"] ["self", "other"] (defScope sPacerOr) := ⟨rfl, rfl, rfl, by decide +kernel, rfl, by decide +kernel, by decide +kernel⟩
abbrev sPacerAdd : Stmt := inClass (topS 26) 4
theorem scPacerAdd : FnScope ["self", "other", "begins", "bridges", "end", "begin"] ["self", "other"] (defScope sPacerAdd) := ⟨rfl, rfl, rfl, by decide +kernel, rfl, by decide +kernel, by decide +kernel⟩
def upN (n : Nat) (ns : List Nat) : List Nat := ns.map fun s => n + s
def Mv.up (n : Nat) (m : Mv) : Mv := ⟨n + m.s, m.l, m.r, n + m.t⟩
def bridge (e b : Nat) : Mv := ⟨e, [], [], b⟩
def bridges (es bs : List Nat) : List Mv := es.flatMap fun e => bs.map fun b => bridge e b
def Plan.or (a b : Plan) : Plan := ⟨a.wide + b.wide, a.ins ++ upN a.wide b.ins, a.ways ++ b.ways.map (Mv.up a.wide), a.outs ++ upN a.wide b.outs⟩
def Plan.add (a b : Plan) : Plan := ⟨a.wide + b.wide, a.ins, a.ways ++ b.ways.map (Mv.up a.wide) ++ bridges a.outs (upN a.wide b.ins), upN a.wide b.outs⟩
theorem asc_up {n k : Nat} {ns : List Nat} (h : Asc k ns) : Asc (n + k) (upN n ns) := by
  refine ⟨List.pairwise_map.mpr (h.1.imp fun q => by omega), fun x hx => ?_⟩
  obtain ⟨s, hs, rfl⟩ := List.mem_map.mp hx
  have := h.2 s hs
  omega
theorem asc_app {n k : Nat} {a b : List Nat} (h1 : Asc n a) (h2 : Asc k b) : Asc (n + k) (a ++ upN n b) := by
  refine ⟨List.pairwise_append.mpr ⟨h1.1, (asc_up h2).1, fun x hx y hy => ?_⟩, fun x hx => ?_⟩
  · obtain ⟨s, hs, rfl⟩ := List.mem_map.mp hy
    have := h1.2 x hx
    omega
  · rcases List.mem_append.mp hx with q | q
    · have := h1.2 x q; omega
    · exact (asc_up h2).2 x q
theorem asc_more {n k : Nat} {ns : List Nat} (h : Asc n ns) : Asc (n + k) ns := ⟨h.1, fun x hx => by have := h.2 x hx; omega⟩
theorem bridges_len (es bs : List Nat) : (bridges es bs).length = es.length * bs.length := by
  induction es with
  | nil => simp [bridges]
  | cons e r ih =>
    simp only [bridges, List.flatMap_cons, List.length_append, List.length_map, List.length_cons] at ih ⊢
    rw [ih, Nat.add_mul]; omega
theorem mem_bridges {es bs : List Nat} {m : Mv} : m ∈ bridges es bs ↔ ∃ e ∈ es, ∃ b ∈ bs, m = bridge e b := by
  simp only [bridges, List.mem_flatMap, List.mem_map]
  constructor
  · rintro ⟨e, he, b, hb, rfl⟩; exact ⟨e, he, b, hb, rfl⟩
  · rintro ⟨e, he, b, hb, rfl⟩; exact ⟨e, he, b, hb, rfl⟩
theorem Plan.Ok.or {p r : Plan} {a b c a' b' : Nat} (h : p.Ok a b c) (k : r.Ok a' b' c) : (p.or r).Ok (a + a') (b + b') c := by
  have w1 := h.w1
  have w2 := h.w2
  have w3 := k.w2
  have n1 := h.n
  have n2 := k.n
  refine ⟨by show 1 ≤ p.wide + r.wide; omega, by show p.wide + r.wide ≤ _; omega, asc_app h.i k.i, asc_app h.o k.o, by show (p.ways ++ r.ways.map _).length ≤ _; rw [List.length_append, List.length_map]; omega, fun m hm => ?_⟩
  show m.s < p.wide + r.wide ∧ m.t < p.wide + r.wide ∧ _
  rcases List.mem_append.mp hm with q | q
  · obtain ⟨q1, q2, q3⟩ := h.m m q
    exact ⟨by omega, by omega, q3⟩
  · obtain ⟨x, hx, rfl⟩ := List.mem_map.mp q
    obtain ⟨q1, q2, q3⟩ := k.m x hx
    exact ⟨by show p.wide + x.s < _; omega, by show p.wide + x.t < _; omega, q3⟩
theorem Plan.Ok.add {p r : Plan} {a b c a' b' : Nat} (h : p.Ok a b c) (k : r.Ok a' b' c) : (p.add r).Ok (a + a') (b + b' + a * a') c := by
  have w1 := h.w1
  have w2 := h.w2
  have w3 := k.w2
  have n1 := h.n
  have n2 := k.n
  have l1 := asc_len h.o
  have l2 := asc_len k.i
  have bl : (bridges p.outs (upN p.wide r.ins)).length ≤ a * a' := by
    rw [bridges_len]
    exact Nat.mul_le_mul (by omega) (by unfold upN; rw [List.length_map]; omega)
  refine ⟨by show 1 ≤ p.wide + r.wide; omega, by show p.wide + r.wide ≤ _; omega, asc_more h.i, asc_up k.o, by show (p.ways ++ r.ways.map _ ++ bridges _ _).length ≤ _; rw [List.length_append, List.length_append, List.length_map]; omega, fun m hm => ?_⟩
  show m.s < p.wide + r.wide ∧ m.t < p.wide + r.wide ∧ _
  rcases List.mem_append.mp hm with q | q
  · rcases List.mem_append.mp q with q | q
    · obtain ⟨q1, q2, q3⟩ := h.m m q
      exact ⟨by omega, by omega, q3⟩
    · obtain ⟨x, hx, rfl⟩ := List.mem_map.mp q
      obtain ⟨q1, q2, q3⟩ := k.m x hx
      exact ⟨by show p.wide + x.s < _; omega, by show p.wide + x.t < _; omega, q3⟩
  · obtain ⟨e, he, b, hb, rfl⟩ := mem_bridges.mp q
    have e1 := h.o.2 e he
    have e2 := (asc_up (n := p.wide) k.i).2 b hb
    exact ⟨by show e < _; omega, by show b < _; omega, Nat.zero_le _, Nat.zero_le _, fun c hc => (List.not_mem_nil hc).elim, fun c hc => (List.not_mem_nil hc).elim⟩
theorem int_add (a b : Nat) : V.int ((a : Int) + (b : Int)) = V.int ((a + b : Nat) : Int) := by rw [Int.natCast_add]
def spStatesBehind (K : PySem.W.Frag) : Sp := fun vs H Q _ => ∃ (n : Nat) (v : V) (ns : List Nat), vs = [.int (n : Int), v] ∧ Dq K H v (.tuple (nats ns)) ∧ ns.length ≤ 1000 ∧ ∀ u H', Same H H' → Dq K H' u (.tuple (nats (upN n ns))) → Q u H'
def spMovesBehind (K : PySem.W.Frag) : Sp := fun vs H Q _ => ∃ (n : Nat) (v : V) (ms : List Mv), vs = [.int (n : Int), v] ∧ Dq K H v (.tuple (ms.map mvD)) ∧ ms.length ≤ 1000 ∧ ∀ u H', Same H H' → Dq K H' u (.tuple ((ms.map (Mv.up n)).map mvD)) → Q u H'
def spJoin (K : PySem.W.Frag) (C : Addr) (g : Plan → Plan → Plan) : Sp := fun vs H Q _ => ∃ (p r : Addr) (a b : Plan) (t m t' m' long : Nat), vs = [.ref p, .ref r] ∧ PacAt K C H p a ∧ PacAt K C H r b ∧ a.Ok t m long ∧ b.Ok t' m' long ∧ t ≤ 4 ∧ t' ≤ 4 ∧ m ≤ 10 ∧ m' ≤ 10 ∧ long ≤ 50 ∧
  ∀ x H', Same H H' → H x = none → PacAt K C H' x (g a b) → Q (.ref x) H'
section
variable {P : Program} {w : World} {K : PySem.W.Frag} {mg : Str → Option Value} {base : Heap}
theorem ok_StatesBehind {f : Addr} {fd : FuncData} {k : Nat} (F : Fun K "states_behind" "states_behind" sStatesBehind f fd) (ntuple : mg "tuple" = none) : FnOk P w K mg base CX0 (k + 1) f fd ["size", "states"] (spStatesBehind K) := by
  refine F.ok scStatesBehind (fun vs H Q E h => ?_) (fun cdv A outer s H vs Q E hr h => ?_)
  · obtain ⟨n, v, ns, rfl, _⟩ := h; rfl
  · obtain ⟨n, v, ns, rfl, hv, hl, kQ⟩ := h
    refine ⟨_, (pss_one (ps_ret (pe_callTy call_tuple_of (by rfl) ntuple (by decide +kernel) (pa_cons (pe_lc (own := [("state", 2)]) (g := (gName 2)) (by rfl) scStatesBehind.nd (pi_tup (pv 1)) (blkOk_by (own := [("state", 2)]) (N := ["size", "states", "state"]) (sc := defScope sStatesBehind) (by decide +kernel)) (fun _ _ _ _ _ => (pg_name (i := 2) scStatesBehind.nd rfl (by first | exact Or.inl rfl | exact Or.inr rfl))) (fun _ _ _ _ _ => pts_nil) (fun _ _ _ _ _ => (pe_op op_add (pv 0) (pv 2)))) pa_nil)))), ?_⟩
    obtain ⟨a, xs, rfl, hxs, hxa⟩ : ∃ a xs, v = .ref a ∧ SqT K H a xs ∧ DqAll K H xs (nats ns) := by
      cases hv with | tup hs ha => exact ⟨_, _, rfl, hs, ha⟩
    obtain rfl := dqAll_nats hxa
    refine ⟨_, rfl, a, rfl, ⟨_, hxs⟩, fun D nD => ?_⟩
    refine lc_it walk_tup (LcP D (fun _ H' => Same H H') (fun j v => ∃ s : Nat, ns[j]? = some s ∧ v = some (V.int ((n + s : Nat) : Int)))) (LcP.start (same_upd nD)) (fun i H' _ z => by obtain ⟨_, _, _, _, sm⟩ := z; exact ex_t' sm hxs) ?_ ?_
    · rintro j v H9 H1 hj ⟨ys, hl2, hR, hD, sm⟩ ⟨rfl, hv⟩
      obtain ⟨s', hs', rfl⟩ : ∃ b, ns[j]? = some b ∧ v = .int (b : Int) := by
        rw [List.getElem?_map] at hv
        cases e : ns[j]? with
        | none => rw [e] at hv; cases hv
        | some b => rw [e] at hv; exact ⟨b, rfl, (Option.some.inj hv).symm⟩
      have hj2 : j < ns.length := (List.getElem?_eq_some_iff.mp hs').1
      refine ⟨rfl, ?_⟩
      dsimp only [tYes]
      refine iteT ⟨_, rfl, _, rfl, _, _, rfl, rfl, ?_⟩
      dsimp only
      rw [int_add]
      exact lcp_some hl2 hR hD (by omega) ⟨s', hs', rfl⟩ fun b o q => by rw [upd_ne (ne_of_none q nD)]; exact sm b o q
    rintro H1 ⟨ys, hl2, hR, hD, s1⟩
    have e := rows_map (f := fun s : Nat => some (V.int ((n + s : Nat) : Int))) (l := ns) (by rw [hl2, List.length_map]) hR
    rw [e] at hD
    refine ⟨D, _, rfl, .inl ⟨sqOf hD, fun l nl => ?_⟩⟩
    refine kQ _ _ (s1.trans (same_upd nl)) (.tup (stOf upd_same) ?_)
    have := nats_dqAll (K := K) (H := upd H1 l (.tup ((ns.map fun s : Nat => some (V.int ((n + s : Nat) : Int))).filterMap id))) (upN n ns)
    rw [show (ns.map fun s : Nat => some (V.int ((n + s : Nat) : Int))).filterMap id = (upN n ns).map fun n : Nat => V.int (n : Int) by unfold upN; rw [List.filterMap_map, List.map_map]; simp [Function.comp_def]] at this ⊢
    exact this
theorem ok_MovesBehind {f : Addr} {fd : FuncData} {k : Nat} (F : Fun K "moves_behind" "moves_behind" sMovesBehind f fd) (ntuple : mg "tuple" = none) : FnOk P w K mg base CX0 (k + 1) f fd ["size", "moves"] (spMovesBehind K) := by
  refine F.ok scMovesBehind (fun vs H Q E h => ?_) (fun cdv A outer s H vs Q E hr h => ?_)
  · obtain ⟨n, v, ms, rfl, _⟩ := h; rfl
  · obtain ⟨n, v, ms, rfl, hv, hl, kQ⟩ := h
    refine ⟨_, (pss_one (ps_ret (pe_callTy call_tuple_of (by rfl) ntuple (by decide +kernel) (pa_cons (pe_lc (own := [("state", 2), ("left", 3), ("right", 4), ("further", 5)]) (g := (gTup K 4 (gCons (gName 2) (gCons (gName 3) (gCons (gName 4) (gCons (gName 5) gNil)))))) (by rfl) scMovesBehind.nd (pi_tup (pv 1)) (blkOk_by (own := [("state", 2), ("left", 3), ("right", 4), ("further", 5)]) (N := ["size", "moves", "state", "left", "right", "further"]) (sc := defScope sMovesBehind) (by decide +kernel)) (fun _ _ _ _ _ => (pg_tup (by rfl) (pgs_cons (pg_name (i := 2) scMovesBehind.nd rfl (by first | exact Or.inl rfl | exact Or.inr rfl)) (pgs_cons (pg_name (i := 3) scMovesBehind.nd rfl (by first | exact Or.inl rfl | exact Or.inr rfl)) (pgs_cons (pg_name (i := 4) scMovesBehind.nd rfl (by first | exact Or.inl rfl | exact Or.inr rfl)) (pgs_cons (pg_name (i := 5) scMovesBehind.nd rfl (by first | exact Or.inl rfl | exact Or.inr rfl)) pgs_nil)))))) (fun _ _ _ _ _ => pts_nil) (fun _ _ _ _ _ => (pe_tup (pa_cons (pe_op op_add (pv 0) (pv 2)) (pa_cons (pv 3) (pa_cons (pv 4) (pa_cons (pe_op op_add (pv 0) (pv 5)) pa_nil))))))) pa_nil)))), ?_⟩
    have four : 4 ≤ sizeLine := by decide
    obtain ⟨a, xs, rfl, hxs, hxa⟩ : ∃ a xs, v = .ref a ∧ SqT K H a xs ∧ DqAll K H xs (ms.map mvD) := by
      cases hv with | tup hs ha => exact ⟨_, _, rfl, hs, ha⟩
    have hxl : xs.length = ms.length := by rw [hxa.len, List.length_map]
    refine ⟨_, rfl, a, rfl, ⟨_, hxs⟩, fun D nD => ?_⟩
    refine lc_it walk_tup (LcG K D H fun i => (ms.take i).map fun m => mvD (Mv.up n m)) (LcG.start nD rfl) (fun i H' _ L => ex_t' (L.sm nD) hxs) ?_ ?_
    · rintro j v H9 H1 hj L ⟨rfl, hv⟩
      obtain ⟨d, hd, hdq⟩ := hxa.at hv
      obtain ⟨mv, hmv, rfl⟩ := mv_get hd
      obtain ⟨e, rfl, hab⟩ := dq_mv (hdq.up (L.sm nD))
      have hj2 : j < ms.length := (List.getElem?_eq_some_iff.mp hmv).1
      refine ⟨e, _, rfl, hab, rfl, _, _, rfl, _, _, rfl, _, _, rfl, _, _, rfl, rfl, rfl, ?_⟩
      dsimp only [tYes]
      refine iteT ⟨_, rfl, _, rfl, _, _, rfl, rfl, _, rfl, _, rfl, _, rfl, _, rfl, _, _, rfl, rfl, four, fun tp ntp => ?_⟩
      dsimp only
      rw [int_add, int_add]
      refine lcg_some L (same_upd ntp) (by rw [take_snoc hmv, List.map_append]; rfl) (tup_wo L.at ntp ?_) (by omega)
      exact .cons (.int _) (.cons (.str _) (.cons (.str _) (.cons (.int _) .nil)))
    rintro H1 L
    have s1 := L.sm nD
    obtain ⟨vs, gD, _, ha, hvl⟩ := L.done
    rw [hxl, List.take_length] at ha
    refine ⟨D, _, rfl, .inl ⟨sqOf gD, fun l nl => ?_⟩⟩
    refine kQ _ _ (s1.trans (same_upd nl)) (.tup (stOf upd_same) ?_)
    rw [List.map_map]
    exact ha.up (same_upd nl)
end
end KP
namespace KP
open PySem PySem.Spec PyProof.Rows L2 EL
open Evl (pss_cut)
theorem cat_dq {K : PySem.W.Frag} {H : Hp} {x y : V} {ds es : List PyData} {Q : VK} (h1 : Dq K H x (.tuple ds)) (h2 : Dq K H y (.tuple es)) (hz : ds.length + es.length ≤ 1000000) (k : ∀ v H', Same H H' → Dq K H' v (.tuple (ds ++ es)) → Q v H') : rCatA K x y H Q := by
  cases h1 with
  | tup hs ha =>
    cases h2 with
    | tup hs2 ha2 =>
      refine cat_of hs hs2 (by rw [ha.len, ha2.len]; exact hz) fun c H' s hc => k _ _ s (.tup hc ((ha.up s).app (ha2.up s)))
theorem bridges_get : ∀ {es bs : List Nat} {i j e b : Nat}, es[i]? = some e → bs[j]? = some b → (bridges es bs)[i * bs.length + j]? = some (bridge e b)
  | [], _, _, _, _, _, h, _ => by simp at h
  | x :: r, bs, 0, j, e, b, h, k => by
    obtain rfl := Option.some.inj h
    have hj := (List.getElem?_eq_some_iff.mp k).1
    rw [Nat.zero_mul, Nat.zero_add]
    show ((bs.map fun b => bridge x b) ++ bridges r bs)[j]? = _
    rw [List.getElem?_append_left (by rw [List.length_map]; exact hj), List.getElem?_map, k]; rfl
  | x :: r, bs, i + 1, j, e, b, h, k => by
    have ih := bridges_get (es := r) (bs := bs) (i := i) (j := j) (e := e) (b := b) (by rw [List.getElem?_cons_succ] at h; exact h) k
    show ((bs.map fun b => bridge x b) ++ bridges r bs)[(i + 1) * bs.length + j]? = _
    rw [List.getElem?_append_right (by rw [List.length_map, Nat.add_mul]; omega), List.length_map, show (i + 1) * bs.length + j - bs.length = i * bs.length + j by rw [Nat.add_mul]; omega]
    exact ih
section
variable {P : Program} {w : World} {K : PySem.W.Frag} {mg : Str → Option Value} {base : Heap}
theorem ok_PacerOr {f C : Addr} {fd : FuncData} {k : Nat} (F : Fun K "__or__" "Pacer.__or__" sPacerOr f fd) (T : PTxt K C) (ntuple : mg "tuple" = none) (CC : CalC P w K mg base k C) (CStatesBehind : Cal P w K mg base k "states_behind" ["size", "states"] (spStatesBehind K)) (CMovesBehind : Cal P w K mg base k "moves_behind" ["size", "moves"] (spMovesBehind K)) : FnOk P w K mg base CX0 (k + 2) f fd ["self", "other"] (spJoin K C Plan.or) := by
  refine F.ok scPacerOr (fun vs H Q E h => ?_) (fun cdv A outer s H vs Q E hr1 h => ?_)
  · obtain ⟨p, r, a, b, t, m, t', m', long, rfl, _⟩ := h; rfl
  · obtain ⟨p, r, a, b, t, m, t', m', long, rfl, hP, hR, hO, hO2, b1, b2, b3, b4, b5, kQ⟩ := h
    have hr := hr1.mono (Nat.le_succ k)
    have hu := hr.units
    refine ⟨_, (pss_one (ps_ret (pe_pac CC hr1 (by rfl) pass0 (pa_cons (pe_op op_add (pe_fld (pv 0) rfl) (pe_fld (pv 1) rfl)) (pa_cons (pe_op op_catA (pe_fld (pv 0) rfl) (pe_cal CStatesBehind hr (by rfl) pass0 (pa_cons (pe_fld (pv 0) rfl) (pa_cons (pe_fld (pv 1) rfl) pa_nil)))) (pa_cons (pe_op op_catA (pe_fld (pv 0) rfl) (pe_cal CMovesBehind hr (by rfl) pass0 (pa_cons (pe_fld (pv 0) rfl) (pa_cons (pe_fld (pv 1) rfl) pa_nil)))) (pa_cons (pe_op op_catA (pe_fld (pv 0) rfl) (pe_cal CStatesBehind hr (by rfl) pass0 (pa_cons (pe_fld (pv 0) rfl) (pa_cons (pe_fld (pv 1) rfl) pa_nil)))) pa_nil))))))), ?_⟩
    obtain ⟨dx, vb, vm, ve, e1, e2, e3, e4⟩ := hP.at'
    obtain ⟨dy, ub, um, ue, f1, f2, f3, f4⟩ := hR.at'
    have w1 := hO.w2
    have w2 := hO2.w2
    have n1 := hO.n
    have n2 := hO2.n
    have l1 := asc_len hO.i
    have l2 := asc_len hO.o
    have l3 := asc_len hO2.i
    have l4 := asc_len hO2.o
    have two : 2 ≤ sizeLine := by decide
    have four : 4 ≤ sizeLine := by decide

    have fS : ∀ {G : Hp}, Same H G → G p = some (.ins C dx (pf (a.wide : Int) (.ref vb) (.ref vm) (.ref ve))) := fun s => s _ _ e1
    have gS : ∀ {G : Hp}, Same H G → G r = some (.ins C dy (pf (b.wide : Int) (.ref ub) (.ref um) (.ref ue))) := fun s => s _ _ f1
    have s0 := Same.refl H
    refine ⟨_, rfl, p, C, dx, _, _, rfl, fS s0, T.cl, T.nS, pf_s _ _ _ _, _, rfl, r, C, dy, _, _, rfl, gS s0, T.cl, T.nS, pf_s _ _ _ _, _, _, rfl, rfl, ?_⟩
    refine ⟨_, rfl, p, C, dx, _, _, rfl, fS s0, T.cl, T.nB, pf_b _ _ _ _, _, rfl, p, C, dx, _, _, rfl, fS s0, T.cl, T.nS, pf_s _ _ _ _, _, rfl, r, C, dy, _, _, rfl, gS s0, T.cl, T.nB, pf_b _ _ _ _, a.wide, _, b.ins, rfl, f2, by omega, fun u H1 s1 d1 => ?_⟩
    refine cat_dq (e2.up s1) d1 (by unfold upN; simp only [List.length_map]; omega) fun v1 H2 s2 c1 => ?_
    have s02 := s1.trans s2
    refine ⟨_, rfl, p, C, dx, _, _, rfl, fS s02, T.cl, T.nM, pf_m _ _ _ _, _, rfl, p, C, dx, _, _, rfl, fS s02, T.cl, T.nS, pf_s _ _ _ _, _, rfl, r, C, dy, _, _, rfl, gS s02, T.cl, T.nM, pf_m _ _ _ _, a.wide, _, b.ways, rfl, f3.up s02, by omega, fun u2 H3 s3 d2 => ?_⟩
    refine cat_dq (e3.up (s02.trans s3)) d2 (by simp only [List.length_map]; omega) fun v2 H4 s4 c2 => ?_
    have s24 := s3.trans s4
    have s04 := s02.trans s24
    refine ⟨_, rfl, p, C, dx, _, _, rfl, fS s04, T.cl, T.nE, pf_e _ _ _ _, _, rfl, p, C, dx, _, _, rfl, fS s04, T.cl, T.nS, pf_s _ _ _ _, _, rfl, r, C, dy, _, _, rfl, gS s04, T.cl, T.nE, pf_e _ _ _ _, a.wide, _, b.outs, rfl, f4.up s04, by omega, fun u3 H5 s5 d3 => ?_⟩
    refine cat_dq (e4.up (s04.trans s5)) d3 (by unfold upN; simp only [List.length_map]; omega) fun v3 H6 s6 c3 => ?_
    have s46 := s5.trans s6
    have s06 := s04.trans s46
    have c1 := c1.up (s24.trans s46)
    have c2 := c2.up s46
    rw [← List.map_append] at c1 c2 c3
    refine ⟨a.or b, t + t', m + m', long, v1, v2, v3, ?_, c1, c2, c3, hO.or hO2, by omega, by omega, b5, fun x H7 s7 n7 k7 => kQ x H7 (s06.trans s7) (s06.free n7) k7⟩
    dsimp only
    rw [int_add]
    rfl

theorem ok_PacerAdd {f C : Addr} {fd : FuncData} {k : Nat} (F : Fun K "__add__" "Pacer.__add__" sPacerAdd f fd) (T : PTxt K C) (ntuple : mg "tuple" = none) (CC : CalC P w K mg base k C) (CStatesBehind : Cal P w K mg base k "states_behind" ["size", "states"] (spStatesBehind K)) (CMovesBehind : Cal P w K mg base k "moves_behind" ["size", "moves"] (spMovesBehind K)) : FnOk P w K mg base CX0 (k + 2) f fd ["self", "other"] (spJoin K C Plan.add) := by
  refine F.ok scPacerAdd (fun vs H Q E h => ?_) (fun cdv A outer s H vs Q E hr1 h => ?_)
  · obtain ⟨p, r, a, b, t, m, t', m', long, rfl, _⟩ := h; rfl
  · obtain ⟨p, r, a, b, t, m, t', m', long, rfl, hP, hR, hO, hO2, b1, b2, b3, b4, b5, kQ⟩ := h
    have hr := hr1.mono (Nat.le_succ k)
    have hu := hr.units
    refine ⟨_, (pss_cons (ps_set (i := 2) scPacerAdd.nd rfl (by first | exact Or.inl rfl | exact Or.inr rfl) (pe_cal CStatesBehind hr (by rfl) pass0 (pa_cons (pe_fld (pv 0) rfl) (pa_cons (pe_fld (pv 1) rfl) pa_nil))))
      (pss_cons (ps_set (i := 3) scPacerAdd.nd rfl (by first | exact Or.inl rfl | exact Or.inr rfl) (pe_callTy call_tuple_of (by rfl) ntuple (by decide +kernel) (pa_cons (pe_lc2 (own := [("end", 4), ("begin", 5)]) (vs1 := [5]) (g := (gName 4)) (g1 := (gName 5)) (by rfl) scPacerAdd.nd (pi_tup (pe_fld (pv 0) rfl)) (blkOk_by (own := [("end", 4), ("begin", 5)]) (N := ["self", "other", "begins", "bridges", "end", "begin"]) (sc := defScope sPacerAdd) (by decide +kernel)) (by decide) (fun _ _ _ _ _ => (pg_name (i := 4) scPacerAdd.nd rfl (by first | exact Or.inl rfl | exact Or.inr rfl))) (fun _ _ _ _ _ => pts_nil) (fun _ _ _ _ _ => (show PI _ _ _ (iTup K (tVar 2)) from pi_tup (pv 2))) (fun _ _ _ _ _ => (pg_name (i := 5) scPacerAdd.nd rfl (by first | exact Or.inl rfl | exact Or.inr rfl))) (fun _ _ _ _ _ => pts_nil) (fun _ _ _ _ _ => (pe_tup (pa_cons (pv 4) (pa_cons pe_str (pa_cons pe_str (pa_cons (pv 5) pa_nil))))))) pa_nil)))
      (pss_one (ps_ret (pe_pac CC hr1 (by rfl) pass0 (pa_cons (pe_op op_add (pe_fld (pv 0) rfl) (pe_fld (pv 1) rfl)) (pa_cons (pe_fld (pv 0) rfl) (pa_cons (pe_op op_catA (pe_op op_catA (pe_fld (pv 0) rfl) (pe_cal CMovesBehind hr (by rfl) pass0 (pa_cons (pe_fld (pv 0) rfl) (pa_cons (pe_fld (pv 1) rfl) pa_nil)))) (pv 3)) (pa_cons (pe_cal CStatesBehind hr (by rfl) pass0 (pa_cons (pe_fld (pv 0) rfl) (pa_cons (pe_fld (pv 1) rfl) pa_nil))) pa_nil))))))))), ?_⟩
    obtain ⟨dx, vb, vm, ve, e1, e2, e3, e4⟩ := hP.at'
    obtain ⟨dy, ub, um, ue, f1, f2, f3, f4⟩ := hR.at'
    have w1 := hO.w2
    have w2 := hO2.w2
    have n1 := hO.n
    have n2 := hO2.n
    have l1 := asc_len hO.i
    have l2 := asc_len hO.o
    have l3 := asc_len hO2.i
    have l4 := asc_len hO2.o
    have two : 2 ≤ sizeLine := by decide
    have four : 4 ≤ sizeLine := by decide

    have fS : ∀ {G : Hp}, Same H G → G p = some (.ins C dx (pf (a.wide : Int) (.ref vb) (.ref vm) (.ref ve))) := fun s => s _ _ e1
    have gS : ∀ {G : Hp}, Same H G → G r = some (.ins C dy (pf (b.wide : Int) (.ref ub) (.ref um) (.ref ue))) := fun s => s _ _ f1
    have s0 := Same.refl H
    refine ⟨_, rfl, p, C, dx, _, _, rfl, fS s0, T.cl, T.nS, pf_s _ _ _ _, _, rfl, r, C, dy, _, _, rfl, gS s0, T.cl, T.nB, pf_b _ _ _ _, a.wide, _, b.ins, rfl, f2, by omega, fun u H1 s1 d1 => ?_⟩
    obtain ⟨os, hos, hoa⟩ : ∃ xs, SqT K H1 ve xs ∧ DqAll K H1 xs (nats a.outs) := by
      cases e4.up s1 with
      | tup hs ha => exact ⟨_, hs, ha⟩
    obtain rfl := dqAll_nats hoa
    obtain ⟨ua, us, rfl, hus, hua⟩ : ∃ ua xs, u = .ref ua ∧ SqT K H1 ua xs ∧ DqAll K H1 xs (nats (upN a.wide b.ins)) := by
      cases d1 with
      | tup hs ha => exact ⟨_, _, rfl, hs, ha⟩
    obtain rfl := dqAll_nats hua
    have lu : (upN a.wide b.ins).length = b.ins.length := by unfold upN; rw [List.length_map]
    refine ⟨_, rfl, p, C, dx, _, _, rfl, fS s1, T.cl, T.nE, pf_e _ _ _ _, ve, rfl, ⟨_, hos⟩, fun D nD => ?_⟩
    generalize hB : upN a.wide b.ins = B at d1 hus hua lu
    have blen : (bridges a.outs B).length ≤ 16 := by
      rw [bridges_len]
      have := Nat.mul_le_mul (show a.outs.length ≤ 4 by omega) (show B.length ≤ 4 by omega)
      omega
    have getn : ∀ {ns : List Nat} {j : Nat} {v : V}, (ns.map fun n : Nat => V.int (n : Int))[j]? = some v → ∃ b, ns[j]? = some b ∧ v = .int (b : Int) := fun {ns j v} hv => by
      rw [List.getElem?_map] at hv
      cases e : ns[j]? with
      | none => rw [e] at hv; cases hv
      | some b => rw [e] at hv; exact ⟨b, rfl, (Option.some.inj hv).symm⟩
    refine it_gen (walk_tup (K := K) (a := ve) (xs := a.outs.map fun n : Nat => V.int (n : Int))) (fun i => LcG K D H1 (fun n => ((bridges a.outs B).take n).map mvD) (i * B.length)) (by rw [Nat.zero_mul]; exact LcG.start nD rfl) (fun i H' _ L => ex_t' (L.sm nD) hos) ?_ ?_
    · rintro i v H9 H2 hi L ⟨rfl, hv⟩
      obtain ⟨e, he, rfl⟩ := getn hv
      refine ⟨rfl, ?_⟩
      dsimp only [tYes]
      refine iteT ⟨_, rfl, ua, rfl, ⟨_, ex_t' (L.sm nD) hus⟩, ?_⟩
      refine it_gen (walk_tup (K := K) (a := ua) (xs := B.map fun n : Nat => V.int (n : Int))) (fun j => LcG K D H1 (fun n => ((bridges a.outs B).take n).map mvD) (i * B.length + j)) L (fun j H' _ L => ex_t' (L.sm nD) hus) ?_ ?_
      · rintro j v H9 H3 hj L3 ⟨rfl, hv⟩
        obtain ⟨b', hb', rfl⟩ := getn hv
        refine ⟨rfl, ?_⟩
        have hbr := bridges_get he hb'
        have hlt := (List.getElem?_eq_some_iff.mp hbr).1
        refine iteT ⟨_, rfl, _, rfl, four, fun tp ntp => ?_⟩
        refine lcg_some (i := i * B.length + j) L3 (same_upd ntp) (by rw [take_snoc hbr, List.map_append]; rfl) (tup_wo L3.at ntp ?_) (by omega)
        exact .cons (.int _) (.cons (.str _) (.cons (.str _) (.cons (.int _) .nil)))
      · rintro H3 L3
        rw [List.length_map] at L3
        rw [Nat.add_mul, Nat.one_mul]
        exact L3
    rintro H2 L
    rw [List.length_map] at L
    have s2 := L.sm nD
    obtain ⟨ds, gD, _, hda, hdl⟩ := L.done
    rw [← bridges_len, List.take_length] at hda
    refine ⟨D, _, rfl, .inl ⟨sqOf gD, fun l nl => ?_⟩⟩
    have s3 := same_upd (o := .tup ds) nl
    have dbr : Dq K (upd H2 l (.tup ds)) (.ref l) (.tuple ((bridges a.outs B).map mvD)) := .tup (stOf upd_same) (hda.up s3)
    generalize upd H2 l (.tup ds) = H3 at s3 dbr ⊢
    have s03 := s1.trans (s2.trans s3)
    clear L gD hda hos hus hua hoa d1 getn s2 s3 nl nD
    refine ⟨_, rfl, p, C, dx, _, _, rfl, fS s03, T.cl, T.nS, pf_s _ _ _ _, _, rfl, r, C, dy, _, _, rfl, gS s03, T.cl, T.nS, pf_s _ _ _ _, _, _, rfl, rfl, ?_⟩
    refine ⟨_, rfl, p, C, dx, _, _, rfl, fS s03, T.cl, T.nB, pf_b _ _ _ _, ?_⟩
    refine ⟨_, rfl, p, C, dx, _, _, rfl, fS s03, T.cl, T.nM, pf_m _ _ _ _, _, rfl, p, C, dx, _, _, rfl, fS s03, T.cl, T.nS, pf_s _ _ _ _, _, rfl, r, C, dy, _, _, rfl, gS s03, T.cl, T.nM, pf_m _ _ _ _, a.wide, _, b.ways, rfl, f3.up s03, by omega, fun u2 H4 s4 d2 => ?_⟩
    refine cat_dq (e3.up (s03.trans s4)) d2 (by simp only [List.length_map]; omega) fun v2 H5 s5 c2 => ?_
    refine ⟨_, rfl, cat_dq c2 (dbr.up (s4.trans s5)) (by simp only [List.length_append, List.length_map]; omega) fun v3 H6 s6 c3 => ?_⟩
    have s36 := s4.trans (s5.trans s6)
    have s06 := s03.trans s36
    refine ⟨_, rfl, p, C, dx, _, _, rfl, fS s06, T.cl, T.nS, pf_s _ _ _ _, _, rfl, r, C, dy, _, _, rfl, gS s06, T.cl, T.nE, pf_e _ _ _ _, a.wide, _, b.outs, rfl, f4.up s06, by omega, fun u4 H7 s7 d4 => ?_⟩
    have s07 := s06.trans s7
    have c3 := c3.up s7
    rw [← List.map_append, ← List.map_append] at c3
    rw [← hB] at c3
    refine ⟨a.add b, t + t', m + m' + t * t', long, _, _, _, ?_, e2.up s07, c3, d4, hO.add hO2, by omega, ?_, b5, fun x H8 s8 n8 k8 => kQ x H8 (s07.trans s8) (s07.free n8) k8⟩
    · dsimp only
      rw [int_add]
      rfl
    · have := Nat.mul_le_mul b1 b2
      omega

end
end KP
namespace KP
open PySem PySem.Spec PyProof.Rows L2 EL
/-! ### told, worked out -/
def addAll (S : List Pl) : List Pl → List Pl
  | [] => S
  | p :: r => addAll (if p ∈ S then S else S ++ [p]) r
theorem addAll_mem {p : Pl} : ∀ {l S : List Pl}, p ∈ addAll S l → p ∈ S ∨ p ∈ l
  | [], S, h => .inl h
  | x :: r, S, h => by
    rcases addAll_mem (l := r) h with h | h
    · split at h
      · exact .inl h
      · rcases List.mem_append.mp h with h | h
        · exact .inl h
        · exact .inr (by rw [List.mem_singleton.mp h]; exact List.mem_cons_self)
    · exact .inr (List.mem_cons_of_mem _ h)
theorem addAll_sub {p : Pl} : ∀ {l S : List Pl}, p ∈ S → p ∈ addAll S l
  | [], S, h => h
  | x :: r, S, h => addAll_sub (l := r) (by
      split
      · exact h
      · exact List.mem_append_left _ h)
def grow (ms : List Mv) (x y : List Nat) : Nat → List Pl → List Pl
  | 0, S => S
  | n + 1, S => grow ms x y n (addAll S (S.flatMap (nexts ms x y)))
theorem grow_re {bs : List Nat} {ms : List Mv} {x y : List Nat} : ∀ (n : Nat) (S : List Pl), (∀ p ∈ S, Reach bs ms x y p) → ∀ p ∈ grow ms x y n S, Reach bs ms x y p
  | 0, S, h, p, m => h p m
  | n + 1, S, h, p, m => grow_re n _ (fun q hq => by
      rcases addAll_mem hq with hq | hq
      · exact h q hq
      · obtain ⟨z, hz, hq⟩ := List.mem_flatMap.mp hq
        exact .step (h z hz) hq) p m
theorem grow_sub {ms : List Mv} {x y : List Nat} : ∀ (n : Nat) (S : List Pl), ∀ p ∈ S, p ∈ grow ms x y n S
  | 0, S, p, m => m
  | n + 1, S, p, m => grow_sub n _ p (addAll_sub m)
def closedB (ms : List Mv) (x y : List Nat) (S : List Pl) : Bool := S.all fun p => (nexts ms x y p).all fun q => decide (q ∈ S)
def srch (bs : List Nat) (ms : List Mv) (x y : List Nat) (n : Nat) : List Pl := grow ms x y n (bs.map fun b => (b, 0, 0))
theorem srch_reach {bs : List Nat} {ms : List Mv} {x y : List Nat} {n : Nat} (h : closedB ms x y (srch bs ms x y n) = true) (p : Pl) : Reach bs ms x y p ↔ p ∈ srch bs ms x y n := by
  refine ⟨fun r => ?_, grow_re n _ (fun q hq => by obtain ⟨b, hb, rfl⟩ := List.mem_map.mp hq; exact .base hb) p⟩
  induction r with
  | base hb => exact grow_sub n _ _ (List.mem_map.mpr ⟨_, hb, rfl⟩)
  | step _ hq ih =>
    simp only [closedB, List.all_eq_true, decide_eq_true_eq] at h
    exact h _ ih _ hq
theorem toldB_exec {pl : Plan} {x y : List Nat} (n : Nat) (b : Bool) (h : (closedB pl.ways x y (srch pl.ins pl.ways x y n) && (pl.outs.any (fun e => decide ((e, x.length, y.length) ∈ srch pl.ins pl.ways x y n)) == b)) = true) : toldB pl x y = b := by
  rw [Bool.and_eq_true, beq_iff_eq] at h
  obtain ⟨h1, rfl⟩ := h
  unfold toldB
  rw [Bool.eq_iff_iff, @decide_eq_true_iff _ (Classical.propDecidable _)]
  simp only [List.any_eq_true, decide_eq_true_eq]
  constructor
  · rintro ⟨e, he, r⟩; exact ⟨e, he, (srch_reach h1 _).mp r⟩
  · rintro ⟨e, he, r⟩; exact ⟨e, he, (srch_reach h1 _).mpr r⟩
end KP
namespace KP
open PySem PySem.Spec PyProof.Rows L2 EL
open Evl (pss_cut)
abbrev sLShown : Stmt := topS 44
theorem scLShown : FnScope ["_law_it"] ["_law_it"] (defScope sLShown) := ⟨rfl, rfl, rfl, by decide +kernel, rfl, by decide +kernel, by decide +kernel⟩
abbrev sLPlain : Stmt := topS 45
theorem scLPlain : FnScope ["_law_w"] ["_law_w"] (defScope sLPlain) := ⟨rfl, rfl, rfl, by decide +kernel, rfl, by decide +kernel, by decide +kernel⟩
abbrev sLMoved : Stmt := topS 46
theorem scLMoved : FnScope ["_law_w", "_law_by", "_law_ways", "_law_entries", "_law_goals", "_law_near", "_law_word_here", "_law_mate", "_law_far", "_law_k"] ["_law_w", "_law_by"] (defScope sLMoved) := ⟨rfl, rfl, rfl, by decide +kernel, rfl, by decide +kernel, by decide +kernel⟩
abbrev sLEither : Stmt := topS 47
theorem scLEither : FnScope ["_law_w", "_law_v", "_law_far", "_law_entries", "_law_goals"] ["_law_w", "_law_v"] (defScope sLEither) := ⟨rfl, rfl, rfl, by decide +kernel, rfl, by decide +kernel, by decide +kernel⟩
abbrev sLBehind : Stmt := topS 48
theorem scLBehind : FnScope ["_law_w", "_law_v", "_law_far", "_law_between", "_law_goal", "_law_entry"] ["_law_w", "_law_v"] (defScope sLBehind) := ⟨rfl, rfl, rfl, by decide +kernel, rfl, by decide +kernel, by decide +kernel⟩
abbrev sLCuts : Stmt := topS 49
theorem scLCuts : FnScope ["_law_w", "_law_v", "_law_x", "_law_y", "_law_i", "_law_j"] ["_law_w", "_law_v", "_law_x", "_law_y"] (defScope sLCuts) := ⟨rfl, rfl, rfl, by decide +kernel, rfl, by decide +kernel, by decide +kernel⟩
/-- a pacer's parts, as data -/
abbrev shownD (pl : Plan) : PyData := .tuple [.int (pl.wide : Int), .tuple (nats pl.ins), .tuple (pl.ways.map mvD), .tuple (nats pl.outs)]
def spShown (K : PySem.W.Frag) (C : Addr) : Sp := fun vs H Q _ => ∃ (p : Addr) (pl : Plan), vs = [.ref p] ∧ PacAt K C H p pl ∧ ∀ v H', Same H H' → Dq K H' v (shownD pl) → Q v H'
def spPlain (K : PySem.W.Frag) : Sp := fun vs H Q _ => ∃ (p : Addr) (pl : Plan), vs = [.ref p] ∧ PlanAt K H p pl ∧ ∀ v H', Same H H' → Dq K H' v (shownD pl) → Q v H'
theorem merge4'' (x y z u : V) : mergeK [] [(.inr "wide", x), (.inr "in", y), (.inr "ways", z), (.inr "out", u)] = ([(.inr "wide", x), (.inr "in", y), (.inr "ways", z), (.inr "out", u)] : List (L2.Key × V)) := merge4 x y z u
def Plan.moved (p : Plan) (n : Nat) : Plan := ⟨n + p.wide, upN n p.ins, p.ways.map (Mv.up n), upN n p.outs⟩
def spMoved (K : PySem.W.Frag) : Sp := fun vs H Q _ => ∃ (p : Addr) (pl : Plan) (n : Nat) (t m long : Nat), vs = [.ref p, .int (n : Int)] ∧ PlanAt K H p pl ∧ pl.Ok t m long ∧ t ≤ 50 ∧ m ≤ 50 ∧ ∀ x H', Same H H' → H x = none → PlanAt K H' x (pl.moved n) → Q (.ref x) H'
def spEither (K : PySem.W.Frag) (g : Plan → Plan → Plan) : Sp := fun vs H Q _ => ∃ (p r : Addr) (a b : Plan) (t m t' m' long : Nat), vs = [.ref p, .ref r] ∧ PlanAt K H p a ∧ PlanAt K H r b ∧ a.Ok t m long ∧ b.Ok t' m' long ∧ t ≤ 4 ∧ t' ≤ 4 ∧ m ≤ 10 ∧ m' ≤ 10 ∧
  ∀ x H', Same H H' → H x = none → PlanAt K H' x (g a b) → Q (.ref x) H'
theorem int_add' (a b : Nat) : V.int ((a : Int) + (b : Int)) = V.int ((b + a : Nat) : Int) := by rw [int_add, Nat.add_comm]
theorem same_upd2 {H : Hp} {x : Addr} {a b : HO} (n : H x = none) : Same H (upd (upd H x a) x b) := fun c o e => by rw [upd_ne (ne_of_none e n), upd_ne (ne_of_none e n)]; exact e
theorem plan_new {K : PySem.W.Frag} {H : Hp} {x vi vw vo : Addr} {ws : List V} {pl : Plan} {a : HO} (n : H x = none) (d1 : Dq K H (.ref vi) (.tuple (nats pl.ins))) (gw : H vw = some (.lst ws)) (dw : DqAll K H ws (pl.ways.map mvD)) (d2 : Dq K H (.ref vo) (.tuple (nats pl.outs))) : PlanAt K (upd (upd H x a) x (.dK [(.inr "wide", .int (pl.wide : Int)), (.inr "in", .ref vi), (.inr "ways", .ref vw), (.inr "out", .ref vo)])) x pl :=
  ⟨vi, vw, vo, upd_same, d1.up (same_upd2 n), .lst (same_upd2 n _ _ gw) (dw.up (same_upd2 n)), d2.up (same_upd2 n)⟩
theorem plan_set {K : PySem.W.Frag} {G : Hp} {x vi vw vo : Addr} {kvs : List (L2.Key × V)} {ws : List V} {pl : Plan} (g : G x = some (.dK kvs)) (d1 : Dq K G (.ref vi) (.tuple (nats pl.ins))) (gw : G vw = some (.lst ws)) (dw : DqAll K G ws (pl.ways.map mvD)) (d2 : Dq K G (.ref vo) (.tuple (nats pl.outs))) : PlanAt K (upd G x (.dK [(.inr "wide", .int (pl.wide : Int)), (.inr "in", .ref vi), (.inr "ways", .ref vw), (.inr "out", .ref vo)])) x pl :=
  ⟨vi, vw, vo, upd_same, dq_kpt (KpT.dK g) _ _ d1 (nats_noLD _), .lst (by rw [upd_ne (fun e => by rw [e, g] at gw; cases gw)]; exact gw) (dqAll_kpt (KpT.dK g) _ _ dw (noLDs_map (fun _ => rfl) _)), dq_kpt (KpT.dK g) _ _ d2 (nats_noLD _)⟩
theorem getN {ns : List Nat} {j : Nat} {v : V} (hv : (ns.map fun n : Nat => V.int (n : Int))[j]? = some v) : ∃ b, ns[j]? = some b ∧ v = .int (b : Int) := by
  rw [List.getElem?_map] at hv
  cases e : ns[j]? with
  | none => rw [e] at hv; cases hv
  | some b => rw [e] at hv; exact ⟨b, rfl, (Option.some.inj hv).symm⟩
section
variable {P : Program} {w : World} {K : PySem.W.Frag} {mg : Str → Option Value} {base : Heap}
theorem ok_LShown {f C : Addr} {fd : FuncData} {k : Nat} (F : Fun K "_law_shown" "_law_shown" sLShown f fd) (T : PTxt K C) : FnOk P w K mg base CX0 (k + 1) f fd ["_law_it"] (spShown K C) := by
  refine F.ok scLShown (fun vs H Q E h => ?_) (fun cdv A outer s H vs Q E hr h => ?_)
  · obtain ⟨p, pl, rfl, _⟩ := h; rfl
  · obtain ⟨p, pl, rfl, hP, kQ⟩ := h
    refine ⟨_, (pss_one (ps_ret (pe_tup (pa_cons (pe_fld (pv 0) rfl) (pa_cons (pe_fld (pv 0) rfl) (pa_cons (pe_fld (pv 0) rfl) (pa_cons (pe_fld (pv 0) rfl) pa_nil))))))), ?_⟩
    obtain ⟨dx, vb, vm, ve, e1, e2, e3, e4⟩ := hP.at'
    refine ⟨_, rfl, p, C, dx, _, _, rfl, e1, T.cl, T.nS, pf_s _ _ _ _, _, rfl, p, C, dx, _, _, rfl, e1, T.cl, T.nB, pf_b _ _ _ _, _, rfl, p, C, dx, _, _, rfl, e1, T.cl, T.nM, pf_m _ _ _ _, _, rfl, p, C, dx, _, _, rfl, e1, T.cl, T.nE, pf_e _ _ _ _, (by show 4 ≤ sizeLine; decide), fun tp ntp => ?_⟩
    have s1 := same_upd (o := .tup [.int (pl.wide : Int), .ref vb, .ref vm, .ref ve]) ntp
    exact kQ _ _ s1 (.tup (stOf upd_same) (.cons (.int _) (.cons (e2.up s1) (.cons (e3.up s1) (.cons (e4.up s1) .nil)))))
theorem ok_LPlain {f : Addr} {fd : FuncData} {k : Nat} (F : Fun K "_law_plain" "_law_plain" sLPlain f fd) (ntuple : mg "tuple" = none) : FnOk P w K mg base CX0 (k + 1) f fd ["_law_w"] (spPlain K) := by
  refine F.ok scLPlain (fun vs H Q E h => ?_) (fun cdv A outer s H vs Q E hr h => ?_)
  · obtain ⟨p, pl, rfl, _⟩ := h; rfl
  · obtain ⟨p, pl, rfl, hP, kQ⟩ := h
    have hu := hr.units
    have hu1 : (A.deeper (envOfC "_law_plain" (defScope sLPlain) s.heap.objs.size f cdv)).units + 1 < cLine := by omega
    refine ⟨_, (pss_one (ps_ret (pe_tup (pa_cons (pe_dget hu1 (pv 0) pe_str (fun _ _ => rfl)) (pa_cons (pe_dget hu1 (pv 0) pe_str (fun _ _ => rfl)) (pa_cons (pe_callTy call_tuple_of (by rfl) ntuple (by decide +kernel) (pa_cons (pe_dget hu1 (pv 0) pe_str (fun _ _ => rfl)) pa_nil)) (pa_cons (pe_dget hu1 (pv 0) pe_str (fun _ _ => rfl)) pa_nil))))))), ?_⟩
    obtain ⟨vi, vw, vo, e1, e2, e3, e4⟩ := hP.at'
    refine ⟨_, rfl, p, _, rfl, plan_wide e1, _, rfl, p, _, rfl, plan_in e1, _, rfl, p, _, rfl, plan_ways e1, ?_⟩
    obtain ⟨xs, hxs, hxa⟩ : ∃ xs, SqL K H vw xs ∧ DqAll K H xs (pl.ways.map mvD) := by
      cases e3 with
      | lst hs ha => exact ⟨_, sqOf hs, ha⟩
    refine ⟨vw, xs, rfl, .inl ⟨hxs, fun l nl => ?_⟩⟩
    have s1 := same_upd (o := .tup xs) nl
    have gl : upd H l (.tup xs) l = some (.tup xs) := upd_same
    generalize upd H l (.tup xs) = H1 at s1 gl ⊢
    refine ⟨_, rfl, p, _, rfl, plan_out (s1 _ _ e1), (by show 4 ≤ sizeLine; decide), fun tp ntp => ?_⟩
    have s2 := s1.trans (same_upd (o := .tup [.int (pl.wide : Int), .ref vi, .ref l, .ref vo]) ntp)
    exact kQ _ _ s2 (.tup (stOf upd_same) (.cons (.int _) (.cons (e2.up s2) (.cons (.tup (stOf (same_upd ntp _ _ gl)) (hxa.up s2)) (.cons (e4.up s2) .nil)))))
theorem ok_LMoved {f : Addr} {fd : FuncData} {k : Nat} (F : Fun K "_law_moved" "_law_moved" sLMoved f fd) (ntuple : mg "tuple" = none) : FnOk P w K mg base CX0 (k + 1) f fd ["_law_w", "_law_by"] (spMoved K) := by
  refine F.ok scLMoved (fun vs H Q E h => ?_) (fun cdv A outer s H vs Q E hr h => ?_)
  · obtain ⟨p, pl, n, t, m, long, rfl, _⟩ := h; rfl
  · obtain ⟨p, pl, n, t, m, long, rfl, hP, hO, b1, b2, kQ⟩ := h
    have hu := hr.units
    have hu1 : (A.deeper (envOfC "_law_moved" (defScope sLMoved) s.heap.objs.size f cdv)).units + 1 < cLine := by omega
    refine ⟨_, (pss_cons (ps_setLc (i := 2) (own := [("_law_near", 5), ("_law_word_here", 6), ("_law_mate", 7), ("_law_far", 8)]) (g := (gTup K 4 (gCons (gName 5) (gCons (gName 6) (gCons (gName 7) (gCons (gName 8) gNil)))))) (by rfl) scLMoved.nd rfl rfl (sw_true rfl rfl rfl (by decide +kernel)) (pi_list (pe_dget hu1 (pv 0) pe_str (fun _ _ => rfl))) (blkOk_by (own := [("_law_near", 5), ("_law_word_here", 6), ("_law_mate", 7), ("_law_far", 8)]) (N := ["_law_w", "_law_by", "_law_ways", "_law_entries", "_law_goals", "_law_near", "_law_word_here", "_law_mate", "_law_far", "_law_k"]) (sc := defScope sLMoved) (by decide +kernel)) (fun _ _ _ _ _ => (pg_tup (by rfl) (pgs_cons (pg_name (i := 5) scLMoved.nd rfl (by first | exact Or.inl rfl | exact Or.inr rfl)) (pgs_cons (pg_name (i := 6) scLMoved.nd rfl (by first | exact Or.inl rfl | exact Or.inr rfl)) (pgs_cons (pg_name (i := 7) scLMoved.nd rfl (by first | exact Or.inl rfl | exact Or.inr rfl)) (pgs_cons (pg_name (i := 8) scLMoved.nd rfl (by first | exact Or.inl rfl | exact Or.inr rfl)) pgs_nil)))))) (fun _ _ _ _ _ => pts_nil) (fun _ _ _ _ _ => (pe_tup (pa_cons (pe_op op_add (pv 5) (pv 1)) (pa_cons (pv 6) (pa_cons (pv 7) (pa_cons (pe_op op_add (pv 8) (pv 1)) pa_nil)))))))
      (pss_cons (ps_par (i := 3) (j := 4) (by rfl) scLMoved.nd rfl rfl (by decide) rfl rfl (pa_cons (pe_callTy call_tuple_of (by rfl) ntuple (by decide +kernel) (pa_cons (pe_lc (own := [("_law_k", 9)]) (g := (gName 9)) (by rfl) scLMoved.nd (pi_tup (pe_dget hu1 (pv 0) pe_str (fun _ _ => rfl))) (blkOk_by (own := [("_law_k", 9)]) (N := ["_law_w", "_law_by", "_law_ways", "_law_entries", "_law_goals", "_law_near", "_law_word_here", "_law_mate", "_law_far", "_law_k"]) (sc := defScope sLMoved) (by decide +kernel)) (fun _ _ _ _ _ => (pg_name (i := 9) scLMoved.nd rfl (by first | exact Or.inl rfl | exact Or.inr rfl))) (fun _ _ _ _ _ => pts_nil) (fun _ _ _ _ _ => (pe_op op_add (pv 9) (pv 1)))) pa_nil)) (pa_cons (pe_callTy call_tuple_of (by rfl) ntuple (by decide +kernel) (pa_cons (pe_lc (own := [("_law_k", 9)]) (g := (gName 9)) (by rfl) scLMoved.nd (pi_tup (pe_dget hu1 (pv 0) pe_str (fun _ _ => rfl))) (blkOk_by (own := [("_law_k", 9)]) (N := ["_law_w", "_law_by", "_law_ways", "_law_entries", "_law_goals", "_law_near", "_law_word_here", "_law_mate", "_law_far", "_law_k"]) (sc := defScope sLMoved) (by decide +kernel)) (fun _ _ _ _ _ => (pg_name (i := 9) scLMoved.nd rfl (by first | exact Or.inl rfl | exact Or.inr rfl))) (fun _ _ _ _ _ => pts_nil) (fun _ _ _ _ _ => (pe_op op_add (pv 9) (pv 1)))) pa_nil)) pa_nil)) (by rfl))
      (pss_one (ps_ret (pe_disp (pps_cons pe_str (pe_op op_add (pe_dget hu1 (pv 0) pe_str (fun _ _ => rfl)) (pv 1)) (pps_cons pe_str (pv 3) (pps_cons pe_str (pv 2) (pps_cons pe_str (pv 4) pps_nil)))) rfl rfl (by simp) (by decide)))))), ?_⟩
    obtain ⟨vi, vw, vo, e1, e2, e3, e4⟩ := hP.at'
    have e1 : H p = some (.dK (planV (pl.wide : Int) (.ref vi) (.ref vw) (.ref vo))) := e1
    have four : 4 ≤ sizeLine := by decide
    have w2 := hO.w2
    have n1 := hO.n
    have l1 := asc_len hO.i
    have l2 := asc_len hO.o
    obtain ⟨ws, hws, hwa⟩ : ∃ xs, H vw = some (.lst xs) ∧ DqAll K H xs (pl.ways.map mvD) := by
      cases e3 with
      | lst hs ha => exact ⟨_, hs, ha⟩
    have hwl : ws.length = pl.ways.length := by rw [hwa.len, List.length_map]
    obtain ⟨is, his, hia⟩ : ∃ xs, SqT K H vi xs ∧ DqAll K H xs (nats pl.ins) := by
      cases e2 with
      | tup hs ha => exact ⟨_, hs, ha⟩
    obtain rfl := dqAll_nats hia
    obtain ⟨os, hos, hoa⟩ : ∃ xs, SqT K H vo xs ∧ DqAll K H xs (nats pl.outs) := by
      cases e4 with
      | tup hs ha => exact ⟨_, hs, ha⟩
    obtain rfl := dqAll_nats hoa
    refine ⟨_, rfl, p, _, rfl, plan_ways e1, vw, rfl, ⟨ws, sqOf hws⟩, fun D nD => ?_⟩
    refine lc_it walk_list (LcG K D H fun i => (pl.ways.take i).map fun m => mvD (Mv.up n m)) (LcG.start nD rfl) (fun i H' _ L => sqOf (L.sm nD _ _ hws)) ?_ ?_
    · rintro j v H9 H1 hj L ⟨rfl, hv⟩
      obtain ⟨d, hd, hdq⟩ := hwa.at hv
      obtain ⟨mv, hmv, rfl⟩ := mv_get hd
      obtain ⟨e, rfl, hab⟩ := dq_mv (hdq.up (L.sm nD))
      have hj2 : j < pl.ways.length := (List.getElem?_eq_some_iff.mp hmv).1
      refine ⟨e, _, rfl, hab, rfl, _, _, rfl, _, _, rfl, _, _, rfl, _, _, rfl, rfl, rfl, ?_⟩
      dsimp only [tYes]
      refine iteT ⟨_, rfl, _, rfl, _, _, rfl, rfl, _, rfl, _, rfl, _, rfl, _, rfl, _, _, rfl, rfl, four, fun tp ntp => ?_⟩
      dsimp only
      rw [int_add', int_add']
      refine lcg_some L (same_upd ntp) (by rw [take_snoc hmv, List.map_append]; rfl) (tup_wo L.at ntp ?_) (by omega)
      exact .cons (.int _) (.cons (.str _) (.cons (.str _) (.cons (.int _) .nil)))
    rintro H1 L
    have s1 := L.sm nD
    obtain ⟨ds, gD, _, hda, hdl⟩ := L.done
    rw [hwl, List.take_length] at hda
    refine ⟨_, rfl, p, _, rfl, plan_in (s1 _ _ e1), vi, rfl, ⟨_, ex_t' s1 his⟩, fun D2 nD2 => ?_⟩
    refine lc_it walk_tup (LcP D2 (fun _ H' => Same H1 H') (fun j v => ∃ s : Nat, pl.ins[j]? = some s ∧ v = some (V.int ((n + s : Nat) : Int)))) (LcP.start (same_upd nD2)) (fun i H' _ z => by obtain ⟨_, _, _, _, sm⟩ := z; exact ex_t' (s1.trans sm) his) ?_ ?_
    · rintro j v H9 H2 hj ⟨ys, hl2, hR, hD, sm⟩ ⟨rfl, hv⟩
      obtain ⟨s', hs', rfl⟩ := getN hv
      have hj2 : j < pl.ins.length := (List.getElem?_eq_some_iff.mp hs').1
      refine ⟨rfl, ?_⟩
      dsimp only [tYes]
      refine iteT ⟨_, rfl, _, rfl, _, _, rfl, rfl, ?_⟩
      dsimp only
      rw [int_add']
      exact lcp_some hl2 hR hD (by omega) ⟨s', hs', rfl⟩ fun b o q => by rw [upd_ne (ne_of_none q nD2)]; exact sm b o q
    rintro H2 ⟨ys, hl2, hR, hD2, s2⟩
    have e := rows_map (f := fun s : Nat => some (V.int ((n + s : Nat) : Int))) (l := pl.ins) (by rw [hl2, List.length_map]) hR
    have ups : ∀ ns : List Nat, (ns.map fun s : Nat => some (V.int ((n + s : Nat) : Int))).filterMap id = (upN n ns).map fun n : Nat => V.int (n : Int) := fun ns => by unfold upN; rw [List.filterMap_map, List.map_map]; simp [Function.comp_def]
    rw [e, ups] at hD2
    refine ⟨D2, _, rfl, .inl ⟨sqOf hD2, fun l3 nl3 => ?_⟩⟩
    have s3 := same_upd (o := .tup ((upN n pl.ins).map fun n : Nat => V.int (n : Int))) nl3
    have d3 : Dq K (upd H2 l3 (.tup ((upN n pl.ins).map fun n : Nat => V.int (n : Int)))) (.ref l3) (.tuple (nats (upN n pl.ins))) := .tup (stOf upd_same) (nats_dqAll _)
    generalize upd H2 l3 (.tup ((upN n pl.ins).map fun n : Nat => V.int (n : Int))) = H3 at s3 d3 ⊢
    have s03 := s1.trans (s2.trans s3)
    refine ⟨_, rfl, p, _, rfl, plan_out (s03 _ _ e1), vo, rfl, ⟨_, ex_t' s03 hos⟩, fun D4 nD4 => ?_⟩
    refine lc_it walk_tup (LcP D4 (fun _ H' => Same H3 H') (fun j v => ∃ s : Nat, pl.outs[j]? = some s ∧ v = some (V.int ((n + s : Nat) : Int)))) (LcP.start (same_upd nD4)) (fun i H' _ z => by obtain ⟨_, _, _, _, sm⟩ := z; exact ex_t' (s03.trans sm) hos) ?_ ?_
    · rintro j v H9 H4 hj ⟨ys, hl2, hR, hD, sm⟩ ⟨rfl, hv⟩
      obtain ⟨s', hs', rfl⟩ := getN hv
      have hj2 : j < pl.outs.length := (List.getElem?_eq_some_iff.mp hs').1
      refine ⟨rfl, ?_⟩
      dsimp only [tYes]
      refine iteT ⟨_, rfl, _, rfl, _, _, rfl, rfl, ?_⟩
      dsimp only
      rw [int_add']
      exact lcp_some hl2 hR hD (by omega) ⟨s', hs', rfl⟩ fun b o q => by rw [upd_ne (ne_of_none q nD4)]; exact sm b o q
    rintro H4 ⟨ys4, hl4, hR4, hD4, s4⟩
    have e4 := rows_map (f := fun s : Nat => some (V.int ((n + s : Nat) : Int))) (l := pl.outs) (by rw [hl4, List.length_map]) hR4
    rw [e4, ups] at hD4
    refine ⟨D4, _, rfl, .inl ⟨sqOf hD4, fun l5 nl5 => ?_⟩⟩
    have s5 := same_upd (o := .tup ((upN n pl.outs).map fun n : Nat => V.int (n : Int))) nl5
    have d5 : Dq K (upd H4 l5 (.tup ((upN n pl.outs).map fun n : Nat => V.int (n : Int)))) (.ref l5) (.tuple (nats (upN n pl.outs))) := .tup (stOf upd_same) (nats_dqAll _)
    generalize upd H4 l5 (.tup ((upN n pl.outs).map fun n : Nat => V.int (n : Int))) = H5 at s5 d5 ⊢
    have s15 := s2.trans (s3.trans (s4.trans s5))
    have d3 := d3.up (s4.trans s5)
    have gD := s15 _ _ gD
    have hda := hda.up s15
    have s05 := s1.trans s15
    refine ⟨_, _, rfl, fun x nx => ?_⟩
    have s6 := same_upd (o := .dK []) nx
    have g6 : upd H5 x (.dK []) x = some (.dK []) := upd_same
    refine ⟨_, rfl, p, _, rfl, plan_wide (s6 _ _ (s05 _ _ e1)), _, rfl, _, _, rfl, rfl, _, rfl, _, rfl, _, rfl, g6, [(.inr "wide", .int ((n + pl.wide : Nat) : Int)), (.inr "in", .ref l3), (.inr "ways", .ref D), (.inr "out", .ref l5)], ?_, by simp, ?_⟩
    · dsimp only
      rw [int_add']
      rfl
    rw [merge4]
    exact kQ x _ (s05.trans (same_upd2 nx)) (s05.free nx) (plan_new (pl := pl.moved n) nx d3 gD (by rw [show (pl.moved n).ways = pl.ways.map (Mv.up n) from rfl, List.map_map]; exact hda) d5)
theorem ok_LEither {f : Addr} {fd : FuncData} {k : Nat} (F : Fun K "_law_either" "_law_either" sLEither f fd) (CLMoved : Cal P w K mg base k "_law_moved" ["_law_w", "_law_by"] (spMoved K)) : FnOk P w K mg base CX0 (k + 1) f fd ["_law_w", "_law_v"] (spEither K Plan.or) := by
  refine F.ok scLEither (fun vs H Q E h => ?_) (fun cdv A outer s H vs Q E hr h => ?_)
  · obtain ⟨p, r, a, b, t, m, t', m', long, rfl, _⟩ := h; rfl
  · obtain ⟨p, r, a, b, t, m, t', m', long, rfl, hP, hR, hO, hO2, b1, b2, b3, b4, kQ⟩ := h
    have hu := hr.units
    have hu1 : (A.deeper (envOfC "_law_either" (defScope sLEither) s.heap.objs.size f cdv)).units + 1 < cLine := by omega
    refine ⟨_, (pss_cons (ps_set (i := 2) scLEither.nd rfl (by first | exact Or.inl rfl | exact Or.inr rfl) (pe_cal CLMoved hr (by rfl) pass0 (pa_cons (pv 1) (pa_cons (pe_dget hu1 (pv 0) pe_str (fun _ _ => rfl)) pa_nil))))
      (pss_cons (ps_par (i := 3) (j := 4) (by rfl) scLEither.nd rfl rfl (by decide) rfl rfl (pa_cons (pe_op op_catA (pe_dget hu1 (pv 0) pe_str (fun _ _ => rfl)) (pe_dget hu1 (pv 2) pe_str (fun _ _ => rfl))) (pa_cons (pe_op op_catA (pe_dget hu1 (pv 0) pe_str (fun _ _ => rfl)) (pe_dget hu1 (pv 2) pe_str (fun _ _ => rfl))) pa_nil)) (by rfl))
      (pss_one (ps_ret (pe_disp (pps_cons pe_str (pe_dget hu1 (pv 2) pe_str (fun _ _ => rfl)) (pps_cons pe_str (pv 3) (pps_cons pe_str (pe_op op_cat (pe_dget hu1 (pv 0) pe_str (fun _ _ => rfl)) (pe_dget hu1 (pv 2) pe_str (fun _ _ => rfl))) (pps_cons pe_str (pv 4) pps_nil)))) rfl rfl (by simp) (by decide)))))), ?_⟩
    obtain ⟨vi, vw, vo, e1, e2, e3, e4⟩ := hP.at'
    have e1 : H p = some (.dK (planV (a.wide : Int) (.ref vi) (.ref vw) (.ref vo))) := e1
    have w1 := hO.w2
    have w2 := hO2.w2
    have n1 := hO.n
    have n2 := hO2.n
    have l1 := asc_len hO.i
    have l2 := asc_len hO.o
    have l3 := asc_len hO2.i
    have l4 := asc_len hO2.o
    obtain ⟨ws, hws, hwa⟩ : ∃ xs, H vw = some (.lst xs) ∧ DqAll K H xs (a.ways.map mvD) := by
      cases e3 with
      | lst hs ha => exact ⟨_, hs, ha⟩
    have hwl : ws.length = a.ways.length := by rw [hwa.len, List.length_map]
    refine ⟨_, rfl, _, rfl, p, _, rfl, plan_wide e1, r, b, a.wide, t', m', long, rfl, hR, hO2, by omega, by omega, fun x H1 s1 nx hx => ?_⟩
    obtain ⟨ui, uw, uo, f1, f2, f3, f4⟩ := hx.at'
    have f1 : H1 x = some (.dK (planV ((a.wide + b.wide : Nat) : Int) (.ref ui) (.ref uw) (.ref uo))) := f1
    obtain ⟨us, hus, hua⟩ : ∃ xs, H1 uw = some (.lst xs) ∧ DqAll K H1 xs ((b.moved a.wide).ways.map mvD) := by
      cases f3 with
      | lst hs ha => exact ⟨_, hs, ha⟩
    have hul : us.length = b.ways.length := by rw [hua.len, List.length_map]; show (b.ways.map _).length = _; rw [List.length_map]
    refine ⟨_, rfl, p, _, rfl, plan_in (s1 _ _ e1), _, rfl, x, _, rfl, plan_in f1, ?_⟩
    refine cat_dq (e2.up s1) f2 (by show _ + ((upN a.wide b.ins).map _).length ≤ _; unfold upN; simp only [List.length_map]; omega) fun v1 H2 s2 c1 => ?_
    refine ⟨_, rfl, p, _, rfl, plan_out (s2 _ _ (s1 _ _ e1)), _, rfl, x, _, rfl, plan_out (s2 _ _ f1), ?_⟩
    refine cat_dq ((e4.up s1).up s2) (f4.up s2) (by show _ + ((upN a.wide b.outs).map _).length ≤ _; unfold upN; simp only [List.length_map]; omega) fun v2 H3 s3 c2 => ?_
    have s13 := s2.trans s3
    have s03 := s1.trans s13
    have c1 := c1.up s3
    refine ⟨_, _, rfl, fun y ny => ?_⟩
    have s4 := same_upd (o := .dK []) ny
    have g4 : upd H3 y (.dK []) y = some (.dK []) := upd_same
    refine ⟨_, rfl, x, _, rfl, plan_wide (s4 _ _ (s13 _ _ f1)), _, rfl, _, rfl, p, _, rfl, plan_ways (s4 _ _ (s03 _ _ e1)), _, rfl, x, _, rfl, plan_ways (s4 _ _ (s13 _ _ f1)), vw, uw, ws, us, rfl, rfl, s4 _ _ (s03 _ _ hws), s4 _ _ (s13 _ _ hus), len_sz (by omega), fun M nM => ?_⟩
    have s5 := same_upd (o := .lst (ws ++ us)) nM
    have g5 : upd (upd H3 y (.dK [])) M (.lst (ws ++ us)) M = some (.lst (ws ++ us)) := upd_same
    have gy := s5 _ _ g4
    have s35 := s4.trans s5
    generalize upd (upd H3 y (.dK [])) M (.lst (ws ++ us)) = G at s5 g5 gy s35 ⊢
    have ref_of : ∀ {v : V} {ds : List PyData} {H : Hp}, Dq K H v (.tuple ds) → ∃ a, v = .ref a := fun h => by cases h with | tup _ _ => exact ⟨_, rfl⟩
    obtain ⟨a1, rfl⟩ := ref_of c1
    obtain ⟨a2, rfl⟩ := ref_of c2
    refine ⟨_, rfl, gy, [(.inr "wide", .int ((a.wide + b.wide : Nat) : Int)), (.inr "in", .ref a1), (.inr "ways", .ref M), (.inr "out", .ref a2)], rfl, by simp, ?_⟩
    rw [merge4]
    have nyH : H y = none := s03.free ny
    refine kQ y _ (fun c o e => by rw [upd_ne (ne_of_none e nyH)]; exact s35 _ _ (s03 _ _ e)) nyH (plan_set (pl := a.or b) gy ?_ g5 ?_ ?_)
    · have := c1.up s35
      rw [← List.map_append] at this
      exact this
    · rw [show (a.or b).ways = a.ways ++ b.ways.map (Mv.up a.wide) from rfl, List.map_append]
      exact ((hwa.up s03).up s35).app ((hua.up s13).up s35)
    · have := c2.up s35
      rw [← List.map_append] at this
      exact this
theorem ok_LBehind {f : Addr} {fd : FuncData} {k : Nat} (F : Fun K "_law_behind" "_law_behind" sLBehind f fd) (CLMoved : Cal P w K mg base k "_law_moved" ["_law_w", "_law_by"] (spMoved K)) : FnOk P w K mg base CX0 (k + 1) f fd ["_law_w", "_law_v"] (spEither K Plan.add) := by
  refine F.ok scLBehind (fun vs H Q E h => ?_) (fun cdv A outer s H vs Q E hr h => ?_)
  · obtain ⟨p, r, a, b, t, m, t', m', long, rfl, _⟩ := h; rfl
  · obtain ⟨p, r, a, b, t, m, t', m', long, rfl, hP, hR, hO, hO2, b1, b2, b3, b4, kQ⟩ := h
    have hu := hr.units
    have hu1 : (A.deeper (envOfC "_law_behind" (defScope sLBehind) s.heap.objs.size f cdv)).units + 1 < cLine := by omega
    refine ⟨_, (pss_cons (ps_set (i := 2) scLBehind.nd rfl (by first | exact Or.inl rfl | exact Or.inr rfl) (pe_cal CLMoved hr (by rfl) pass0 (pa_cons (pv 1) (pa_cons (pe_dget hu1 (pv 0) pe_str (fun _ _ => rfl)) pa_nil))))
      (pss_cons (ps_set (i := 3) scLBehind.nd rfl (by first | exact Or.inl rfl | exact Or.inr rfl) (pe_lst pa_nil))
      (pss_cons (ps_for PassesOwn.never rfl (pi_tup (pe_dget hu1 (pv 0) pe_str (fun _ _ => rfl))) (pg_name (i := 4) scLBehind.nd rfl (by first | exact Or.inl rfl | exact Or.inr rfl)) (pss_one (ps_expr (pe_bm PySem.F.plainAttrs_list PySem.F.slot_list_extend PySem.F.type_list_extend mt_extend (pv 3) (pa_cons (pe_lc (own := [("_law_entry", 5)]) (g := (gName 5)) (by rfl) scLBehind.nd (pi_tup (pe_dget hu1 (pv 2) pe_str (fun _ _ => rfl))) (blkOk_by (own := [("_law_entry", 5)]) (N := ["_law_w", "_law_v", "_law_far", "_law_between", "_law_goal", "_law_entry"]) (sc := defScope sLBehind) (by decide +kernel)) (fun _ _ _ _ _ => (pg_name (i := 5) scLBehind.nd rfl (by first | exact Or.inl rfl | exact Or.inr rfl))) (fun _ _ _ _ _ => pts_nil) (fun _ _ _ _ _ => (pe_tup (pa_cons (pv 4) (pa_cons pe_str (pa_cons pe_str (pa_cons (pv 5) pa_nil))))))) pa_nil)))))
      (pss_one (ps_ret (pe_disp (pps_cons pe_str (pe_dget hu1 (pv 2) pe_str (fun _ _ => rfl)) (pps_cons pe_str (pe_dget hu1 (pv 0) pe_str (fun _ _ => rfl)) (pps_cons pe_str (pe_op op_cat (pe_op op_cat (pe_dget hu1 (pv 0) pe_str (fun _ _ => rfl)) (pe_dget hu1 (pv 2) pe_str (fun _ _ => rfl))) (pv 3)) (pps_cons pe_str (pe_dget hu1 (pv 2) pe_str (fun _ _ => rfl)) pps_nil)))) rfl rfl (by simp) (by decide))))))), ?_⟩
    obtain ⟨vi, vw, vo, e1, e2, e3, e4⟩ := hP.at'
    have e1 : H p = some (.dK (planV (a.wide : Int) (.ref vi) (.ref vw) (.ref vo))) := e1
    have w1 := hO.w2
    have w2 := hO2.w2
    have n1 := hO.n
    have n2 := hO2.n
    have l1 := asc_len hO.i
    have l2 := asc_len hO.o
    have l3 := asc_len hO2.i
    have l4 := asc_len hO2.o
    have four : 4 ≤ sizeLine := by decide
    have zero : 0 ≤ sizeLine := by decide
    obtain ⟨ws, hws, hwa⟩ : ∃ xs, H vw = some (.lst xs) ∧ DqAll K H xs (a.ways.map mvD) := by
      cases e3 with
      | lst hs ha => exact ⟨_, hs, ha⟩
    have hwl : ws.length = a.ways.length := by rw [hwa.len, List.length_map]
    obtain ⟨os, hos, hoa⟩ : ∃ xs, SqT K H vo xs ∧ DqAll K H xs (nats a.outs) := by
      cases e4 with
      | tup hs ha => exact ⟨_, hs, ha⟩
    obtain rfl := dqAll_nats hoa
    refine ⟨_, rfl, _, rfl, p, _, rfl, plan_wide e1, r, b, a.wide, t', m', long, rfl, hR, hO2, by omega, by omega, fun x H1 s1 nx hx => ?_⟩
    obtain ⟨ui, uw, uo, f1, f2, f3, f4⟩ := hx.at'
    have f1 : H1 x = some (.dK (planV ((a.wide + b.wide : Nat) : Int) (.ref ui) (.ref uw) (.ref uo))) := f1
    obtain ⟨us, hus, hua⟩ : ∃ xs, H1 uw = some (.lst xs) ∧ DqAll K H1 xs ((b.moved a.wide).ways.map mvD) := by
      cases f3 with
      | lst hs ha => exact ⟨_, hs, ha⟩
    have hul : us.length = b.ways.length := by rw [hua.len, List.length_map]; show (b.ways.map _).length = _; rw [List.length_map]
    obtain ⟨is, his, hia⟩ : ∃ xs, SqT K H1 ui xs ∧ DqAll K H1 xs (nats (upN a.wide b.ins)) := by
      cases f2 with
      | tup hs ha => exact ⟨_, hs, ha⟩
    obtain rfl := dqAll_nats hia
    have lB : (upN a.wide b.ins).length = b.ins.length := by unfold upN; rw [List.length_map]
    generalize hB : upN a.wide b.ins = B at his hia lB
    refine ⟨zero, fun L nL => ?_⟩
    have s2 := same_upd (o := .lst []) nL
    have g2 : upd H1 L (.lst []) L = some (.lst []) := upd_same
    generalize upd H1 L (.lst []) = H2 at s2 g2 ⊢
    have s02 := s1.trans s2
    refine ⟨_, rfl, p, _, rfl, plan_out (s02 _ _ e1), vo, rfl, ⟨_, ex_t' s02 hos⟩, ?_⟩
    refine for_it walk_tup (fun i σ H' => ∃ (y4 : Option V) (xs : List V), σ = [some (.ref p), some (.ref r), some (.ref x), some (.ref L), y4, none] ∧ H' L = some (.lst xs) ∧ DqAll K H' xs ((bridges (a.outs.take i) B).map mvD) ∧ Same H1 H')
      ⟨_, [], rfl, g2, .nil, s2⟩ (fun i σ H' _ z => by obtain ⟨_, _, _, _, _, sm⟩ := z; exact ex_t' (s1.trans sm) hos) ?_ ?_
    · rintro i v σ H9 H3 hi ⟨y4, xs, rfl, gL, hx, sm⟩ ⟨rfl, hv⟩
      obtain ⟨e, he, rfl⟩ := getN hv
      refine ⟨.ref L, rfl, .inl ⟨rfl, _, sqOf gL⟩, _, rfl, x, _, rfl, plan_in (sm _ _ f1), ui, rfl, ⟨_, ex_t' sm his⟩, fun D nD => ?_⟩
      refine lc_it walk_tup (LcG K D H3 fun j => ((B.take j).map fun b => mvD (bridge e b))) (LcG.start nD rfl) (fun j H' _ L => ex_t' (sm.trans (L.sm nD)) his) ?_ ?_
      · rintro j v H9 H4 hj L4 ⟨rfl, hv⟩
        obtain ⟨b', hb', rfl⟩ := getN hv
        have hj2 : j < B.length := (List.getElem?_eq_some_iff.mp hb').1
        refine ⟨rfl, ?_⟩
        dsimp only [tYes]
        refine iteT ⟨_, rfl, _, rfl, four, fun tp ntp => ?_⟩
        refine lcg_some L4 (same_upd ntp) (by rw [take_snoc hb', List.map_append]; rfl) (tup_wo L4.at ntp ?_) (by omega)
        exact .cons (.int _) (.cons (.str _) (.cons (.str _) (.cons (.int _) .nil)))
      rintro H4 L4
      have s4 := L4.sm nD
      obtain ⟨ds, gD, _, hda, hdl⟩ := L4.done
      rw [List.length_map, List.take_length] at hda
      have gL4 := s4 _ _ gL
      have hxl := hx.len
      have hdl2 := hda.len
      rw [List.length_map, bridges_len, List.length_take] at hxl
      rw [List.length_map] at hdl2
      have hmul : min i a.outs.length * B.length ≤ 4 * 4 := Nat.mul_le_mul (by omega) (by omega)
      have k4 := KpT.lst (o := .lst (xs ++ ds)) gL4
      refine ⟨L, D, xs, ds, rfl, rfl, gL4, gD, len_sz (by omega), _, _, rfl, upd_same, ?_, fun c o e => by rw [upd_ne (ne_of_none e nL)]; exact s4 _ _ (sm _ _ e)⟩
      rw [take_snoc he, show bridges (a.outs.take i ++ [e]) B = bridges (a.outs.take i) B ++ B.map (bridge e) by simp [bridges], List.map_append, List.map_map]
      exact (dqAll_kpt k4 _ _ (hx.up s4) (noLDs_map (fun _ => rfl) _)).app (dqAll_kpt k4 _ _ hda (noLDs_map (fun _ => rfl) _))
    rintro σ H3 ⟨y4, xs, rfl, gL, hx, sm⟩
    rw [List.length_map, List.take_length] at hx
    have hxl := hx.len
    rw [List.length_map, bridges_len] at hxl
    have hmul : a.outs.length * B.length ≤ 4 * 4 := Nat.mul_le_mul (by omega) (by omega)
    have s03 := s1.trans sm
    refine fun y ny => ?_
    have s4 := same_upd (o := .dK []) ny
    have g4 : upd H3 y (.dK []) y = some (.dK []) := upd_same
    refine ⟨_, rfl, x, _, rfl, plan_wide (s4 _ _ (sm _ _ f1)), _, rfl, p, _, rfl, plan_in (s4 _ _ (s03 _ _ e1)), _, rfl, p, _, rfl, plan_ways (s4 _ _ (s03 _ _ e1)), _, rfl, x, _, rfl, plan_ways (s4 _ _ (sm _ _ f1)), vw, uw, ws, us, rfl, rfl, s4 _ _ (s03 _ _ hws), s4 _ _ (sm _ _ hus), len_sz (by omega), fun M nM => ?_⟩
    have s5 := same_upd (o := .lst (ws ++ us)) nM
    have g5 : upd (upd H3 y (.dK [])) M (.lst (ws ++ us)) M = some (.lst (ws ++ us)) := upd_same
    have gy5 := s5 _ _ g4
    have s35 := s4.trans s5
    generalize upd (upd H3 y (.dK [])) M (.lst (ws ++ us)) = G5 at s5 g5 gy5 s35 ⊢
    refine ⟨_, rfl, M, L, _, xs, rfl, rfl, g5, s35 _ _ gL, len_sz (by rw [List.length_append]; omega), fun M2 nM2 => ?_⟩
    have s6 := same_upd (o := .lst ((ws ++ us) ++ xs)) nM2
    have g6 : upd G5 M2 (.lst ((ws ++ us) ++ xs)) M2 = some (.lst ((ws ++ us) ++ xs)) := upd_same
    have gy := s6 _ _ gy5
    have s36 := s35.trans s6
    generalize upd G5 M2 (.lst ((ws ++ us) ++ xs)) = G at s6 g6 gy s36 ⊢
    refine ⟨_, rfl, x, _, rfl, plan_out (s36 _ _ (sm _ _ f1)), gy, [(.inr "wide", .int ((a.wide + b.wide : Nat) : Int)), (.inr "in", .ref vi), (.inr "ways", .ref M2), (.inr "out", .ref uo)], rfl, by simp, ?_⟩
    rw [merge4]
    have nyH : H y = none := s03.free ny
    refine kQ y _ (fun c o e => by rw [upd_ne (ne_of_none e nyH)]; exact s36 _ _ (s03 _ _ e)) nyH (plan_set (pl := a.add b) gy ((e2.up s03).up s36) g6 ?_ ((f4.up sm).up s36))
    rw [show (a.add b).ways = a.ways ++ b.ways.map (Mv.up a.wide) ++ bridges a.outs B by rw [← hB]; rfl, List.map_append, List.map_append]
    exact (((hwa.up s03).up s36).app ((hua.up sm).up s36)).app (hx.up s36)
end
end KP
namespace KP
open PySem PySem.Spec PyProof.Rows L2 EL
/-! what is told of both, and one behind the other, by mathematics -/
theorem told_iff (pl : Plan) (x y : List Nat) : toldB pl x y = true ↔ ∃ e ∈ pl.outs, Reach pl.ins pl.ways x y (e, x.length, y.length) := by
  unfold toldB
  exact @decide_eq_true_iff _ (Classical.propDecidable _)
theorem reach_mono {bs bs' : List Nat} {ms ms' : List Mv} {x y : List Nat} {p : Pl} (hb : ∀ b ∈ bs, b ∈ bs') (hm : ∀ m ∈ ms, m ∈ ms') (h : Reach bs ms x y p) : Reach bs' ms' x y p := by
  induction h with
  | base h => exact .base (hb _ h)
  | step _ hq ih =>
    obtain ⟨m, h1, h2, h3, h4, e⟩ := mem_nexts.mp hq
    exact .step ih (mem_nexts.mpr ⟨m, hm m h1, h2, h3, h4, e⟩)
theorem fits_drop {x w : List Nat} {i k : Nat} (hi : i ≤ x.length) : fitsAt (x.drop i) w k = fitsAt x w (i + k) := by
  unfold fitsAt
  rw [List.drop_drop, List.length_drop, Bool.eq_iff_iff]
  simp only [Bool.and_eq_true, decide_eq_true_eq]
  constructor
  · rintro ⟨h1, h2⟩; exact ⟨by omega, h2⟩
  · rintro ⟨h1, h2⟩; exact ⟨by omega, h2⟩
theorem fits_take {x w : List Nat} {i k : Nat} (h : fitsAt x w k = true) (hk : k + w.length ≤ i) : fitsAt (x.take i) w k = true := by
  simp only [fitsAt, Bool.and_eq_true, decide_eq_true_eq] at h ⊢
  obtain ⟨h1, h2⟩ := h
  refine ⟨by rw [List.length_take]; omega, ?_⟩
  rw [List.drop_take, List.take_take, Nat.min_eq_left (by omega)]
  exact h2
theorem fits_le2 {x w : List Nat} {i : Nat} (h : fitsAt x w i = true) : i + w.length ≤ x.length := by
  simp only [fitsAt, Bool.and_eq_true, decide_eq_true_eq] at h
  exact h.1
theorem reach_take {bs : List Nat} {ms : List Mv} {x y : List Nat} {p : Pl} (h : Reach bs ms x y p) : ∀ {i j : Nat}, p.2.1 ≤ i → p.2.2 ≤ j → Reach bs ms (x.take i) (y.take j) p := by
  induction h with
  | base h => exact fun _ _ => .base h
  | step _ hq ih =>
    intro i j hi hj
    obtain ⟨m, h1, h2, h3, h4, rfl⟩ := mem_nexts.mp hq
    dsimp only at hi hj
    exact .step (ih (by omega) (by omega)) (mem_nexts.mpr ⟨m, h1, h2, fits_take h3 hi, fits_take h4 hj, rfl⟩)
theorem reach_app' {bs : List Nat} {ms : List Mv} {x y u v : List Nat} {p : Pl} (h : Reach bs ms x y p) : Reach bs ms (x ++ u) (y ++ v) p := by
  induction h with
  | base hb => exact .base hb
  | step _ hq ih =>
    refine .step ih ?_
    obtain ⟨m, hm, h1, h2, h3, e⟩ := mem_nexts.mp hq
    have fa : ∀ {x w u : List Nat} {i : Nat}, fitsAt x w i = true → fitsAt (x ++ u) w i = true := fun {x w u i} h => by
      simp only [fitsAt, Bool.and_eq_true, decide_eq_true_eq] at h ⊢
      obtain ⟨h1, h2⟩ := h
      refine ⟨by rw [List.length_append]; omega, ?_⟩
      rw [List.drop_append_of_le_length (by omega), List.take_append_of_le_length (by rw [List.length_drop]; omega)]
      exact h2
    exact mem_nexts.mpr ⟨m, hm, h1, fa h2, fa h3, e⟩
theorem reach_box2 {bs : List Nat} {ms : List Mv} {x y : List Nat} {p : Pl} (h : Reach bs ms x y p) : p.2.1 ≤ x.length ∧ p.2.2 ≤ y.length := by
  induction h with
  | base h => exact ⟨Nat.zero_le _, Nat.zero_le _⟩
  | step _ hq ih =>
    obtain ⟨m, h1, h2, h3, h4, rfl⟩ := mem_nexts.mp hq
    exact ⟨fits_le2 h3, fits_le2 h4⟩
theorem mem_up {n k : Nat} {ns : List Nat} : k ∈ upN n ns ↔ ∃ s ∈ ns, k = n + s := by
  unfold upN
  rw [List.mem_map]
  exact ⟨fun ⟨s, h, e⟩ => ⟨s, h, e.symm⟩, fun ⟨s, h, e⟩ => ⟨s, h, e.symm⟩⟩
/-- places of the second one, moved -/
theorem reach_up {bs : List Nat} {ms : List Mv} {n : Nat} {bs' : List Nat} {ms' : List Mv} {x y : List Nat} {i j : Nat} (hi : i ≤ x.length) (hj : j ≤ y.length) (hm : ∀ m ∈ ms, Mv.up n m ∈ ms') (h0 : ∀ b ∈ bs, Reach bs' ms' x y (n + b, i, j)) {q : Pl} (h : Reach bs ms (x.drop i) (y.drop j) q) : Reach bs' ms' x y (n + q.1, i + q.2.1, j + q.2.2) := by
  induction h with
  | base hb => exact h0 _ hb
  | step _ hq ih =>
    obtain ⟨m, h1, h2, h3, h4, rfl⟩ := mem_nexts.mp hq
    rw [fits_drop hi] at h3
    rw [fits_drop hj] at h4
    refine .step ih (mem_nexts.mpr ⟨Mv.up n m, hm m h1, by show n + m.s = _; rw [h2], h3, h4, ?_⟩)
    show (n + m.t, i + (_ + m.l.length), j + (_ + m.r.length)) = (n + m.t, i + _ + m.l.length, j + _ + m.r.length)
    rw [Nat.add_assoc, Nat.add_assoc]
theorem or_case {a b : Plan} {t m l t' m' l' : Nat} (hA : a.Ok t m l) (hB : b.Ok t' m' l') {x y : List Nat} {p : Pl} (h : Reach (a.or b).ins (a.or b).ways x y p) : (p.1 < a.wide ∧ Reach a.ins a.ways x y p) ∨ ∃ q : Pl, p = (a.wide + q.1, q.2) ∧ Reach b.ins b.ways x y q := by
  induction h with
  | base hb =>
    rcases List.mem_append.mp hb with z | z
    · exact .inl ⟨hA.i.2 _ z, .base z⟩
    · obtain ⟨s, hs, rfl⟩ := mem_up.mp z
      exact .inr ⟨(s, 0, 0), rfl, .base hs⟩
  | step _ hq ih =>
    obtain ⟨m, h1, h2, h3, h4, rfl⟩ := mem_nexts.mp hq
    rcases ih with ⟨hl, hr⟩ | ⟨q, rfl, hr⟩
    · rcases List.mem_append.mp h1 with z | z
      · exact .inl ⟨(hA.m m z).2.1, .step hr (mem_nexts.mpr ⟨m, z, h2, h3, h4, rfl⟩)⟩
      · obtain ⟨k, _, rfl⟩ := List.mem_map.mp z
        have : a.wide + k.s = _ := h2
        omega
    · rcases List.mem_append.mp h1 with z | z
      · have h5 := (hA.m m z).1
        have : m.s = a.wide + q.1 := h2
        omega
      · obtain ⟨k, hk, rfl⟩ := List.mem_map.mp z
        have h6 : a.wide + k.s = a.wide + q.1 := h2
        exact .inr ⟨(k.t, q.2.1 + k.l.length, q.2.2 + k.r.length), rfl, .step hr (mem_nexts.mpr ⟨k, hk, by omega, h3, h4, rfl⟩)⟩
theorem told_or {a b : Plan} {t m l t' m' l' : Nat} (hA : a.Ok t m l) (hB : b.Ok t' m' l') (x y : List Nat) : toldB (a.or b) x y = (toldB a x y || toldB b x y) := by
  rw [Bool.eq_iff_iff, Bool.or_eq_true, told_iff, told_iff, told_iff]
  constructor
  · rintro ⟨e, he, h⟩
    rcases or_case hA hB h with ⟨hl, hr⟩ | ⟨q, eq, hr⟩
    · refine .inl ⟨e, ?_, hr⟩
      rcases List.mem_append.mp he with z | z
      · exact z
      · obtain ⟨s, _, rfl⟩ := mem_up.mp z
        have : a.wide + s < a.wide := hl
        omega
    · obtain ⟨q1, q2, q3⟩ := q
      simp only [Prod.mk.injEq] at eq
      obtain ⟨e1, e2, e3⟩ := eq
      subst e2 e3
      refine .inr ⟨q1, ?_, hr⟩
      rcases List.mem_append.mp he with z | z
      · have := hA.o.2 _ z
        omega
      · obtain ⟨s, hs, e4⟩ := mem_up.mp z
        have : s = q1 := by omega
        exact this ▸ hs
  · rintro (⟨e, he, h⟩ | ⟨e, he, h⟩)
    · exact ⟨e, List.mem_append_left _ he, reach_mono (fun b h => List.mem_append_left _ h) (fun m h => List.mem_append_left _ h) h⟩
    · refine ⟨a.wide + e, List.mem_append_right _ (mem_up.mpr ⟨e, he, rfl⟩), ?_⟩
      have := reach_up (n := a.wide) (bs' := (a.or b).ins) (ms' := (a.or b).ways) (x := x) (y := y) (i := 0) (j := 0) (Nat.zero_le _) (Nat.zero_le _) (ms := b.ways) (bs := b.ins) (fun m hm => List.mem_append_right _ (List.mem_map.mpr ⟨m, hm, rfl⟩)) (fun s hs => .base (List.mem_append_right _ (mem_up.mpr ⟨s, hs, rfl⟩))) (q := (e, x.length, y.length)) (by rw [List.drop_zero, List.drop_zero]; exact h)
      simpa using this
theorem add_case {a b : Plan} {t m l t' m' l' : Nat} (hA : a.Ok t m l) (hB : b.Ok t' m' l') {x y : List Nat} {p : Pl} (h : Reach (a.add b).ins (a.add b).ways x y p) : (p.1 < a.wide ∧ Reach a.ins a.ways x y p) ∨ ∃ (i j : Nat) (q : Pl), p = (a.wide + q.1, i + q.2.1, j + q.2.2) ∧ (∃ e ∈ a.outs, Reach a.ins a.ways x y (e, i, j)) ∧ Reach b.ins b.ways (x.drop i) (y.drop j) q := by
  induction h with
  | base hb => exact .inl ⟨hA.i.2 _ hb, .base hb⟩
  | step _ hq ih =>
    obtain ⟨m, h1, h2, h3, h4, rfl⟩ := mem_nexts.mp hq
    have h1' : m ∈ a.ways ++ b.ways.map (Mv.up a.wide) ++ bridges a.outs (upN a.wide b.ins) := h1
    rcases ih with ⟨hl, hr⟩ | ⟨i, j, q, rfl, he, hr⟩
    · rcases List.mem_append.mp h1' with z | z
      · rcases List.mem_append.mp z with z | z
        · exact .inl ⟨(hA.m m z).2.1, .step hr (mem_nexts.mpr ⟨m, z, h2, h3, h4, rfl⟩)⟩
        · obtain ⟨k, _, rfl⟩ := List.mem_map.mp z
          have : a.wide + k.s = _ := h2
          omega
      · obtain ⟨e, he, b', hb', rfl⟩ := mem_bridges.mp z
        obtain ⟨s, hs, rfl⟩ := mem_up.mp hb'
        have h5 : e = _ := h2
        refine .inr ⟨_, _, (s, 0, 0), rfl, ⟨e, he, ?_⟩, .base hs⟩
        rw [h5]; exact hr
    · obtain ⟨e, heo, hre⟩ := he
      obtain ⟨bi, bj⟩ := reach_box2 hre
      rcases List.mem_append.mp h1' with z | z
      · rcases List.mem_append.mp z with z | z
        · have h5 := (hA.m m z).1
          have : m.s = a.wide + q.1 := h2
          omega
        · obtain ⟨k, hk, rfl⟩ := List.mem_map.mp z
          have h6 : a.wide + k.s = a.wide + q.1 := h2
          refine .inr ⟨i, j, (k.t, q.2.1 + k.l.length, q.2.2 + k.r.length), ?_, ⟨e, heo, hre⟩, .step hr (mem_nexts.mpr ⟨k, hk, by omega, by rw [fits_drop bi]; exact h3, by rw [fits_drop bj]; exact h4, rfl⟩)⟩
          show (a.wide + k.t, i + q.2.1 + k.l.length, j + q.2.2 + k.r.length) = (a.wide + k.t, i + (q.2.1 + k.l.length), j + (q.2.2 + k.r.length))
          rw [Nat.add_assoc, Nat.add_assoc]
      · obtain ⟨e', he', b', hb', rfl⟩ := mem_bridges.mp z
        have h7 := hA.o.2 e' he'
        have : e' = a.wide + q.1 := h2
        omega
theorem told_add {a b : Plan} {t m l t' m' l' : Nat} (hA : a.Ok t m l) (hB : b.Ok t' m' l') (x y : List Nat) : toldB (a.add b) x y = true ↔ ∃ i j, i ≤ x.length ∧ j ≤ y.length ∧ toldB a (x.take i) (y.take j) = true ∧ toldB b (x.drop i) (y.drop j) = true := by
  rw [told_iff]
  constructor
  · rintro ⟨e, he, h⟩
    obtain ⟨s, hs, rfl⟩ := mem_up.mp he
    rcases add_case hA hB h with ⟨hl, hr⟩ | ⟨i, j, q, eq, ⟨e, heo, hre⟩, hr⟩
    · have : a.wide + s < a.wide := hl
      omega
    · obtain ⟨bi, bj⟩ := reach_box2 hre
      obtain ⟨q1, q2, q3⟩ := q
      simp only [Prod.mk.injEq] at eq
      obtain ⟨e1, e2, e3⟩ := eq
      refine ⟨i, j, bi, bj, (told_iff _ _ _).mpr ⟨e, heo, ?_⟩, (told_iff _ _ _).mpr ⟨s, hs, ?_⟩⟩
      · rw [List.length_take, List.length_take, Nat.min_eq_left bi, Nat.min_eq_left bj]
        exact reach_take hre (Nat.le_refl _) (Nat.le_refl _)
      · rw [List.length_drop, List.length_drop]
        have h1 : q1 = s := by omega
        have h2 : q2 = x.length - i := by omega
        have h3 : q3 = y.length - j := by omega
        rw [← h1, ← h2, ← h3]; exact hr
  · rintro ⟨i, j, bi, bj, h1, h2⟩
    obtain ⟨e, he, r1⟩ := (told_iff _ _ _).mp h1
    obtain ⟨s, hs, r2⟩ := (told_iff _ _ _).mp h2
    rw [List.length_take, List.length_take, Nat.min_eq_left bi, Nat.min_eq_left bj] at r1
    have r1 := reach_app' (u := x.drop i) (v := y.drop j) r1
    rw [List.take_append_drop, List.take_append_drop] at r1
    have r1 : Reach (a.add b).ins (a.add b).ways x y (e, i, j) := reach_mono (fun b h => h) (fun m h => List.mem_append_left _ (List.mem_append_left _ h)) r1
    refine ⟨a.wide + s, mem_up.mpr ⟨s, hs, rfl⟩, ?_⟩
    have := reach_up (n := a.wide) (bs' := (a.add b).ins) (ms' := (a.add b).ways) (x := x) (y := y) bi bj (ms := b.ways) (bs := b.ins) (fun m hm => List.mem_append_left _ (List.mem_append_right _ (List.mem_map.mpr ⟨m, hm, rfl⟩))) (fun s' hs' => by
      refine .step r1 (mem_nexts.mpr ⟨bridge e (a.wide + s'), List.mem_append_right _ (mem_bridges.mpr ⟨e, he, _, mem_up.mpr ⟨s', hs', rfl⟩, rfl⟩), rfl, ?_, ?_, rfl⟩)
      · simp [fitsAt, bridge, bi]
      · simp [fitsAt, bridge, bj]) r2
    rw [List.length_drop, List.length_drop] at this
    have e1 : i + (x.length - i) = x.length := by omega
    have e2 : j + (y.length - j) = y.length := by omega
    simp only [e1, e2] at this
    exact this
end KP
namespace KP
open PySem PySem.Spec PyProof.Rows L2 EL
open Evl (pss_cut)
theorem cut_pre (z : Str) (i : Nat) : (cutS z none (some (i : Int))).cps.toList = z.cps.toList.take i := by
  show (((z.cps.toList.drop (HT.sIx z.length 0 none)).take (HT.sIx z.length z.length (some (i : Int)) - HT.sIx z.length 0 none)).toArray).toList = _
  rw [HT.sIx_nat, HT.sIx_none, List.drop_zero, Nat.sub_zero, List.toList_toArray, List.take_eq_take_iff]
  have : z.cps.toList.length = z.length := (str_len z).symm
  omega
theorem cut_suf (z : Str) (i : Nat) (h : i ≤ z.length) : (cutS z (some (i : Int)) none).cps.toList = z.cps.toList.drop i := by
  show (((z.cps.toList.drop (HT.sIx z.length 0 (some (i : Int)))).take (HT.sIx z.length z.length none - HT.sIx z.length 0 (some (i : Int)))).toArray).toList = _
  have : z.cps.toList.length = z.length := (str_len z).symm
  rw [HT.sIx_nat, HT.sIx_none, Nat.min_eq_left h, List.toList_toArray, List.take_of_length_le (by rw [List.length_drop]; omega)]
theorem len_cps (z : Str) : z.length = z.cps.toList.length := str_len z
def spCuts (K : PySem.W.Frag) : Sp := fun vs H Q _ => ∃ (p r : Addr) (a b : Plan) (t m t' m' long : Nat) (x y : Str), vs = [.ref p, .ref r, .str x, .str y] ∧ PlanAt K H p a ∧ PlanAt K H r b ∧ a.Ok t m long ∧ b.Ok t' m' long ∧ t ≤ 10 ∧ t' ≤ 10 ∧ m ≤ 10 ∧ m' ≤ 10 ∧ long ≤ 50 ∧ x.length ≤ 20 ∧ y.length ≤ 20 ∧
  ∀ H', Same H H' → Q (.bl (toldB (a.add b) x.cps.toList y.cps.toList)) H'
section
variable {P : Program} {w : World} {K : PySem.W.Frag} {mg : Str → Option Value} {base : Heap}
theorem ok_LCuts {f : Addr} {fd : FuncData} {k : Nat} (F : Fun K "_law_cuts" "_law_cuts" sLCuts f fd) (nrange : mg "range" = none) (nlen : mg "len" = none) (CLTold : Cal P w K mg base k "_law_told" ["_law_w", "_law_x", "_law_y"] (spTold K)) : FnOk P w K mg base CX0 (k + 1) f fd ["_law_w", "_law_v", "_law_x", "_law_y"] (spCuts K) := by
  refine F.ok scLCuts (fun vs H Q E h => ?_) (fun cdv A outer s H vs Q E hr h => ?_)
  · obtain ⟨p, r, a, b, t, m, t', m', long, x, y, rfl, _⟩ := h; rfl
  · obtain ⟨p, r, a, b, t, m, t', m', long, x, y, rfl, hP, hR, hO, hO2, b1, b2, b3, b4, b5, hx, hy, kQ⟩ := h
    have hu := hr.units
    refine ⟨_, (pss_cons (ps_for PassesOwn.never rfl (pi_range1 rfl nrange (pa_cons (pe_op op_add (pe_callB (show CallR _ _ (rLenK K) from call_len) (by rfl) nlen (by decide +kernel) (pa_cons (pv 2) pa_nil)) pe_int) pa_nil)) (pg_name (i := 4) scLCuts.nd rfl (by first | exact Or.inl rfl | exact Or.inr rfl)) (pss_one (ps_if (pt_cmpR (op_neN hr.units0) (pe_lc (own := [("_law_j", 5)]) (g := (gName 5)) (by rfl) scLCuts.nd (pi_range1 rfl nrange (pa_cons (pe_op op_add (pe_callB (show CallR _ _ (rLenK K) from call_len) (by rfl) nlen (by decide +kernel) (pa_cons (pv 3) pa_nil)) pe_int) pa_nil)) (blkOk_by (own := [("_law_j", 5)]) (N := ["_law_w", "_law_v", "_law_x", "_law_y", "_law_i", "_law_j"]) (sc := defScope sLCuts) (by decide +kernel)) (fun _ _ _ _ _ => (pg_name (i := 5) scLCuts.nd rfl (by first | exact Or.inl rfl | exact Or.inr rfl))) (fun _ _ _ _ _ => (pts_one (PW.pt (pw_and (pt_val (pe_cal CLTold hr (by rfl) pass0 (pa_cons (pv 0) (pa_cons (pe_slice sl_str (pv 2) po_none (po_some (pv 4))) (pa_cons (pe_slice sl_str (pv 3) po_none (po_some (pv 5))) pa_nil))))) (pw_and1 (pt_val (pe_cal CLTold hr (by rfl) pass0 (pa_cons (pv 1) (pa_cons (pe_slice sl_str (pv 2) (po_some (pv 4)) po_none) (pa_cons (pe_slice sl_str (pv 3) (po_some (pv 5)) po_none) pa_nil)))))))))) (fun _ _ _ _ _ => (pv 5))) (pe_lst pa_nil) (nomark _)) (pss_one (ps_ret pe_bl)) pss_nil)))
      (pss_one (ps_ret pe_bl))), ?_⟩

    have lX : x.cps.toList.length = x.length := by show _ = x.cps.size; simp
    have lY : y.cps.toList.length = y.length := by show _ = y.cps.size; simp
    have hA := told_add hO hO2 x.cps.toList y.cps.toList
    generalize hc : toldB (a.add b) x.cps.toList y.cps.toList = c at hA kQ
    refine ⟨_, rfl, .str x, _, rfl, ⟨len_sz (by omega), rfl⟩, _, _, rfl, rfl, (x.length : Int) + 1, rfl, by omega, by omega, ?_⟩
    rw [show ((x.length : Int) + 1).toNat = x.length + 1 by omega]
    refine for_it walk_range (fun i σ H' => ∃ y4 : Option V, σ = [some (.ref p), some (.ref r), some (.str x), some (.str y), y4, none] ∧ Same H H' ∧ ∀ i' < i, ∀ j ≤ y.length, ¬ (toldB a (x.cps.toList.take i') (y.cps.toList.take j) = true ∧ toldB b (x.cps.toList.drop i') (y.cps.toList.drop j) = true))
      ⟨none, rfl, Same.refl _, fun _ h => absurd h (Nat.not_lt_zero _)⟩ (fun _ _ _ _ _ => trivial) ?_ ?_
    · rintro i v σ H9 H1 hi ⟨y4, rfl, s1, hno⟩ ⟨rfl, rfl⟩
      refine ⟨_, rfl, .str y, _, rfl, ⟨len_sz (by omega), rfl⟩, _, _, rfl, rfl, (y.length : Int) + 1, rfl, by omega, by omega, fun D nD => ?_⟩
      rw [show ((y.length : Int) + 1).toNat = y.length + 1 by omega]
      refine lc_it walk_range (LcP D (fun _ H' => Same H1 H') (fun j v => v = if toldB a (x.cps.toList.take i) (y.cps.toList.take j) = true ∧ toldB b (x.cps.toList.drop i) (y.cps.toList.drop j) = true then some (.int (j : Int)) else none)) (LcP.start (same_upd nD)) (fun _ _ _ _ => trivial) ?_ ?_
      · rintro j v H9 H2 hj ⟨ys, hl, hR2, hD, sm⟩ ⟨rfl, rfl⟩
        have q1 := cut_pre x i
        have q2 := cut_pre y j
        have q3 := cut_suf x i (by omega)
        have q4 := cut_suf y j (by omega)
        have z1 : (cutS x none (some (i : Int))).length ≤ 20 := by rw [len_cps, q1, List.length_take]; omega
        have z2 : (cutS y none (some (j : Int))).length ≤ 20 := by rw [len_cps, q2, List.length_take]; omega
        have z3 : (cutS x (some (i : Int)) none).length ≤ 20 := by rw [len_cps, q3, List.length_drop]; omega
        have z4 : (cutS y (some (j : Int)) none).length ≤ 20 := by rw [len_cps, q4, List.length_drop]; omega
        have zi : (0 : Int) + (i : Int) = (i : Int) := by omega
        have zj : (0 : Int) + (j : Int) = (j : Int) := by omega
        refine ⟨rfl, _, rfl, _, rfl, _, rfl, _, rfl, x, rfl, len_sz (by omega), _, rfl, _, rfl, _, rfl, y, rfl, len_sz (by omega), p, a, t, m, long, _, _, rfl, hP.up (s1.trans sm), hO, b1, b3, b5, ?_, ?_, fun H3 s3 => ⟨_, rfl, ?_⟩⟩
        · rw [zi]; exact z1
        · rw [zj]; exact z2
        rw [zi, zj, q1, q2]
        cases c1 : toldB a (x.cps.toList.take i) (y.cps.toList.take j) with
        | false => exact iteF (iteF (lcp_none hl hR2 (s3 _ _ hD) (by rw [if_neg (fun z => by rw [c1] at z; cases z.1)]) (sm.trans s3)))
        | true =>
          refine iteT ⟨_, rfl, _, rfl, _, rfl, _, rfl, x, rfl, len_sz (by omega), _, rfl, _, rfl, _, rfl, y, rfl, len_sz (by omega), r, b, t', m', long, _, _, rfl, hR.up (s1.trans (sm.trans s3)), hO2, b2, b4, b5, ?_, ?_, fun H4 s4 => ⟨_, rfl, ?_⟩⟩
          · rw [zi]; exact z3
          · rw [zj]; exact z4
          rw [zi, zj, q3, q4]
          cases c2 : toldB b (x.cps.toList.drop i) (y.cps.toList.drop j) with
          | false => exact iteF (lcp_none hl hR2 (s4 _ _ (s3 _ _ hD)) (by rw [if_neg (fun z => by rw [c2] at z; cases z.2)]) (sm.trans (s3.trans s4)))
          | true =>
            refine iteT ⟨_, rfl, ?_⟩
            dsimp only
            rw [zj]
            exact lcp_some hl hR2 (s4 _ _ (s3 _ _ hD)) (by omega) (by rw [if_pos ⟨c1, c2⟩]) fun b o q => by rw [upd_ne (ne_of_none q nD)]; exact s4 _ _ (s3 _ _ (sm b o q))
      rintro H2 ⟨ys, hl, hR2, hD, sm⟩
      refine ⟨Nat.zero_le _, fun l nl => ⟨D, l, _, rfl, rfl, sqOf (by rw [upd_ne (ne_of_none hD nl)]; exact hD), sqOf upd_same, _, rfl, ?_⟩⟩
      have s2 := sm.trans (same_upd (o := .lst []) nl)
      generalize upd H2 l (.lst []) = H3 at s2 ⊢
      have ey := rows_fn (f := fun j : Nat => if toldB a (x.cps.toList.take i) (y.cps.toList.take j) = true ∧ toldB b (x.cps.toList.drop i) (y.cps.toList.drop j) = true then some (V.int (j : Int)) else none) hl hR2
      by_cases hz : ys.filterMap id = []
      · rw [decide_eq_true hz]
        refine iteF ⟨_, rfl, s1.trans s2, fun i' hi' j hj hb => ?_⟩
        by_cases e : i' = i
        · subst e
          rw [ey, List.filterMap_eq_nil_iff] at hz
          have := hz (some (V.int (j : Int))) (List.mem_map.mpr ⟨j, List.mem_range.mpr (by omega), by rw [if_pos hb]⟩)
          cases this
        · exact hno i' (by omega) j hj hb
      · rw [decide_eq_false hz]
        refine iteT ?_
        have hct : c = true := by
          rw [hA]
          obtain ⟨v, hv⟩ := List.exists_mem_of_ne_nil _ hz
          rw [ey] at hv
          obtain ⟨w', hw', hv2⟩ := List.mem_filterMap.mp hv
          obtain ⟨j, hj, rfl⟩ := List.mem_map.mp hw'
          by_cases hb : toldB a (x.cps.toList.take i) (y.cps.toList.take j) = true ∧ toldB b (x.cps.toList.drop i) (y.cps.toList.drop j) = true
          · have := List.mem_range.mp hj
            exact ⟨i, j, by omega, by omega, hb.1, hb.2⟩
          · rw [if_neg hb] at hv2; cases hv2
        subst hct
        exact kQ _ (s1.trans s2)
    · rintro σ H1 ⟨y4, rfl, s1, hno⟩
      have hcf : c = false := by
        cases c with
        | false => rfl
        | true =>
          obtain ⟨i, j, h1, h2, h3, h4⟩ := hA.mp rfl
          exact absurd ⟨h3, h4⟩ (hno i (by omega) j (by omega))
      subst hcf
      exact kQ _ s1
end
end KP
namespace KP
open PySem PySem.Spec PyProof.Rows L2 EL
open Evl (pss_cut)
abbrev sLTexts : Stmt := topS 43
theorem scLTexts : FnScope ["_law_signs", "_law_top", "_law_found", "_law_last", "_law_turn", "_law_some", "_law_sign"] ["_law_signs", "_law_top"] (defScope sLTexts) := ⟨rfl, rfl, rfl, by decide +kernel, rfl, by decide +kernel, by decide +kernel⟩
theorem lookup_relab {f : Str → Bool} : ∀ {names : List (Str × NameKind)} {x : Str}, (names.lookup x = some .cell ∨ names.lookup x = some .free) →
    ((names.map fun (n, k) => if (k == NameKind.free && f n) then (n, NameKind.cell) else (n, k)).lookup x = some .cell ∨ (names.map fun (n, k) => if (k == NameKind.free && f n) then (n, NameKind.cell) else (n, k)).lookup x = some .free)
  | [], _, h => by simp at h
  | (n, k) :: r, x, h => by
    have ih := @lookup_relab f r x
    simp only [List.map_cons]
    cases hx : x == n with
    | true =>
      simp only [List.lookup_cons, hx, Option.some.injEq] at h
      split
      · left; simp only [List.lookup_cons, hx]
      · simp only [List.lookup_cons, hx, Option.some.injEq]; exact h
    | false =>
      simp only [List.lookup_cons, hx] at h
      split
      · simp only [List.lookup_cons, hx]; exact ih h
      · simp only [List.lookup_cons, hx]; exact ih h
/-- a comprehension within a comprehension: names that are free there stay free or cells -/
theorem blk_in {N : List Str} {sc scope : Scope} {own : List (Str × Nat)} {cl : List (Str × Addr)} {C : Addr} {env : Env} (h : BlkOk N sc scope own) : BlkOk N (compEnvC sc cl C env).scope scope own := by
  refine ⟨h.kind, h.uniq, h.ix, fun y hy e => ?_, h.own⟩
  have q := lookup_relab (f := fun n => env.scope.kind == .function && env.kindOf n == some .cell) (h.free y hy e)
  simp only [← Bool.and_assoc] at q
  exact q
/-- all texts of just n of these letters, in order -/
def txs (cs : List Nat) : Nat → List (List Nat)
  | 0 => [[]]
  | n + 1 => (txs cs n).flatMap fun s => cs.map fun c => s ++ [c]
/-- all texts of at most n of these letters -/
def fnd (cs : List Nat) : Nat → List (List Nat)
  | 0 => [[]]
  | n + 1 => fnd cs n ++ txs cs (n + 1)
abbrev strV (l : List Nat) : V := .str ⟨l.toArray⟩
theorem txs_len (cs : List Nat) : ∀ (n : Nat), ∀ l ∈ txs cs n, l.length = n
  | 0, l, h => by rw [List.mem_singleton.mp h]; rfl
  | n + 1, l, h => by
    obtain ⟨s, hs, h2⟩ := List.mem_flatMap.mp h
    obtain ⟨c, _, rfl⟩ := List.mem_map.mp h2
    rw [List.length_append, txs_len cs n s hs]; rfl
def spTexts (K : PySem.W.Frag) : Sp := fun vs H Q _ => ∃ (z : Str) (top : Nat), vs = [.str z, .int (top : Int)] ∧ top ≤ 1000 ∧ (∀ n ≤ top, 0 < (txs z.cps.toList n).length ∧ (txs z.cps.toList n).length ≤ 1000 ∧ (fnd z.cps.toList n).length ≤ 1000) ∧ z.cps.toList.length ≤ 100 ∧
  ∀ H' r, Same H H' → H' r = some (.lst ((fnd z.cps.toList top).map strV)) → H r = none → Q (.ref r) H'
section
variable {P : Program} {w : World} {K : PySem.W.Frag} {mg : Str → Option Value} {base : Heap}
theorem ok_LTexts {f : Addr} {fd : FuncData} {k : Nat} (F : Fun K "_law_texts" "_law_texts" sLTexts f fd) (nrange : mg "range" = none) (nsum : mg "sum" = none) (names : mg "ames" = none)   : FnOk P w K mg base CX0 (k + 1) f fd ["_law_signs", "_law_top"] (spTexts K) := by
  refine F.ok scLTexts (fun vs H Q E h => ?_) (fun cdv A outer s H vs Q E hr h => ?_)
  · obtain ⟨z, top, rfl, _⟩ := h; rfl
  · obtain ⟨z, top, rfl, ht, hb, hz, kQ⟩ := h
    have hu := hr.units
    refine ⟨_, (pss_cons (ps_par (i := 2) (j := 3) (by rfl) scLTexts.nd rfl rfl (by decide) rfl rfl (pa_cons (pe_lst (pa_cons pe_str pa_nil)) (pa_cons (pe_lst (pa_cons pe_str pa_nil)) pa_nil)) (by rfl))
      (pss_cons (ps_for PassesOwn.never rfl (pi_range1 rfl nrange (pa_cons (pv 1) pa_nil)) (pg_name (i := 4) scLTexts.nd rfl (by first | exact Or.inl rfl | exact Or.inr rfl)) (pss_cons (ps_set (i := 3) scLTexts.nd rfl (by first | exact Or.inl rfl | exact Or.inr rfl) (pe_callB (show CallR _ _ (rSumL K) from cr_sumL rfl) (by rfl) nsum (by decide +kernel) (pa_cons (pe_lc (own := [("_law_some", 5)]) (g := (gName 5)) (by rfl) scLTexts.nd (pi_list (pv 3)) (blkOk_by (own := [("_law_some", 5)]) (N := ["_law_signs", "_law_top", "_law_found", "_law_last", "_law_turn", "_law_some", "_law_sign"]) (sc := defScope sLTexts) (by decide +kernel)) (fun _ _ _ _ _ => (pg_name (i := 5) scLTexts.nd rfl (by first | exact Or.inl rfl | exact Or.inr rfl))) (fun _ _ _ _ _ => pts_nil) (fun _ _ _ _ _ => (pe_lc (own := [("_law_sign", 6)]) (g := (gName 6)) (by rfl) scLTexts.nd (pi_str (pv 0)) (blk_in (blkOk_by (own := [("_law_sign", 6)]) (N := ["_law_signs", "_law_top", "_law_found", "_law_last", "_law_turn", "_law_some", "_law_sign"]) (sc := { kind := .function, names := [(".0", .local), ("_law_some", .cell), ("_law_signs", .free)], isGenerator := false, isCoroutine := false }) (by decide +kernel))) (fun _ _ _ _ _ => (pg_name (i := 6) scLTexts.nd rfl (by first | exact Or.inl rfl | exact Or.inr rfl))) (fun _ _ _ _ _ => pts_nil) (fun _ _ _ _ _ => (pe_op op_add_str (pv 5) (pv 6)))))) (pa_cons (pe_lst pa_nil) pa_nil))))
      (pss_one (ps_set (i := 2) scLTexts.nd rfl (by first | exact Or.inl rfl | exact Or.inr rfl) (pe_op op_cat (pv 2) (pv 3))))))
      (pss_one (ps_ret (pv 2))))), ?_⟩
    have three : 3 ≤ sizeLine := by decide
    generalize hc : z.cps.toList = cs at kQ hb hz
    have one : 1 ≤ sizeLine := by decide
    refine ⟨one, fun a na => ?_⟩
    have sA : Same H (upd H a (.lst [.str ""])) := same_upd na
    have gA : upd H a (.lst [.str ""]) a = some (.lst [.str ""]) := upd_same
    generalize upd H a (.lst [.str ""]) = H1 at sA gA ⊢
    refine ⟨one, fun b nb => ?_⟩
    have sB : Same H1 (upd H1 b (.lst [.str ""])) := same_upd nb
    have gB : upd H1 b (.lst [.str ""]) b = some (.lst [.str ""]) := upd_same
    have gA2 := sB _ _ gA
    generalize upd H1 b (.lst [.str ""]) = H2 at sB gB gA2 ⊢
    refine ⟨_, _, rfl, ?_⟩
    refine ⟨_, rfl, (top : Int), rfl, by omega, by omega, ?_⟩
    rw [show ((top : Int)).toNat = top from Int.toNat_natCast top]
    refine for_it walk_range (fun i σ H' => ∃ (f l : Addr) (y4 : Option V), σ = [some (.str z), some (.int (top : Int)), some (.ref f), some (.ref l), y4, none, none] ∧ Same H H' ∧ H f = none ∧ H' f = some (.lst ((fnd cs i).map strV)) ∧ H' l = some (.lst ((txs cs i).map strV))) ⟨a, b, none, rfl, sA.trans sB, na, gA2, gB⟩ (fun _ _ _ _ _ => trivial) ?_ ?_
    · rintro i v σ H9 H3 hi ⟨f, l, y4, rfl, sm, nf, gf, gl⟩ ⟨rfl, rfl⟩
      obtain ⟨hb1, hb2, hb3⟩ := hb i (by omega)
      refine ⟨.ref l, rfl, l, rfl, ⟨_, sqOf gl⟩, fun D nD => ?_⟩
      refine lc_it walk_list (fun j H' => ∃ bs : List Addr, bs.length = j ∧ H' D = some (.lst (bs.map V.ref)) ∧ (∀ (k : Nat) (c : Addr), bs[k]? = some c → c ≠ D ∧ ∃ t, (txs cs i)[k]? = some t ∧ H' c = some (.lst (cs.map fun e => strV (t ++ [e])))) ∧ Same H3 H') ⟨[], rfl, upd_same, fun k c e => by simp at e, same_upd nD⟩ (fun j H' _ z => by obtain ⟨_, _, _, _, s2⟩ := z; exact sqOf (s2 _ _ gl)) ?_ ?_
      · rintro j v H9 H4 hj ⟨bs, hbl, hD, hbs, s4⟩ ⟨rfl, hv⟩
        obtain ⟨t, htj, rfl⟩ : ∃ t, (txs cs i)[j]? = some t ∧ v = strV t := by
          rw [List.getElem?_map] at hv
          cases e : (txs cs i)[j]? with
          | none => rw [e] at hv; cases hv
          | some t => rw [e] at hv; exact ⟨t, rfl, (Option.some.inj hv).symm⟩
        have htl := txs_len cs i t (List.mem_of_getElem? htj)
        have hj2 : j < (txs cs i).length := by rw [List.length_map] at hj; exact hj
        refine ⟨rfl, ?_⟩
        dsimp only [tYes]
        refine iteT ⟨.str z, rfl, z, rfl, fun L nL => ?_⟩
        have nLD : L ≠ D := fun e => by rw [e, hD] at nL; cases nL
        refine lc_it walk_str (LcP L (fun _ H' => Same H4 H') (fun k v => ∃ c, cs[k]? = some c ∧ v = some (strV (t ++ [c])))) (LcP.start (same_upd nL)) (fun _ _ _ _ => trivial) ?_ ?_
        · rintro k v H9 H5 hk ⟨zs, hl, hR, hL, s5⟩ ⟨rfl, c, hc1, rfl⟩
          refine ⟨rfl, ?_⟩
          dsimp only [tYes]
          have hc2 : cs[k]? = some c := by rw [← hc, Array.getElem?_toList]; exact hc1
          have hk2 : k < cs.length := (List.getElem?_eq_some_iff.mp hc2).1
          refine iteT ⟨_, rfl, _, rfl, ⟨t.toArray⟩, ⟨#[c]⟩, rfl, rfl, len_sz (by rw [str_len, str_len]; show t.length + 1 ≤ _; omega), ?_⟩
          have e : (⟨t.toArray⟩ : Str) ++ ⟨#[c]⟩ = ⟨(t ++ [c]).toArray⟩ := by
            rw [str_inj]
            show (t.toArray ++ #[c]).toList = (t ++ [c]).toArray.toList
            simp
          rw [e]
          exact lcp_some hl hR hL (by omega) ⟨c, hc2, rfl⟩ fun b o q => by rw [upd_ne (ne_of_none q nL)]; exact s5 b o q
        · rintro H5 ⟨zs, hl, hR, hL, s5⟩
          have hzl : z.cps.size = cs.length := by rw [← hc, Array.length_toList]
          have e9 := rows_map (f := fun c => some (strV (t ++ [c]))) (l := cs) (by rw [hl, hzl]) hR
          have hL2 : H5 L = some (.lst (cs.map fun e => strV (t ++ [e]))) := by rw [hL, e9]; simp [List.filterMap_map, Function.comp_def]
          refine ⟨bs.map V.ref, s5 _ _ hD, lt_sz (by rw [List.length_map]; omega), bs ++ [L], by rw [List.length_append, hbl]; rfl, by rw [upd_same, List.map_append]; rfl, fun k c e => ?_, fun b o q => by rw [upd_ne (ne_of_none q nD)]; exact s5 _ _ (s4 b o q)⟩
          by_cases hk : k < bs.length
          · rw [List.getElem?_append_left hk] at e
            obtain ⟨h1, t', h2, h3⟩ := hbs k c e
            exact ⟨h1, t', h2, by rw [upd_ne h1]; exact s5 _ _ h3⟩
          · rw [List.getElem?_append_right (by omega)] at e
            have hk3 : k - bs.length = 0 := by
              cases w : k - bs.length with
              | zero => rfl
              | succ m => rw [w] at e; simp at e
            rw [hk3] at e
            obtain rfl : L = c := by simpa using e
            have hk4 : k = j := by omega
            exact ⟨nLD, t, by rw [hk4]; exact htj, by rw [upd_ne nLD]; exact hL2⟩
      · rintro H4 ⟨bs, hbl, hD, hbs, s4⟩
        rw [List.length_map] at hbl
        have ef : ((txs cs i).map fun t => cs.map fun e => strV (t ++ [e])).flatten = (txs cs (i + 1)).map strV := by
          simp only [txs, List.flatMap_def, List.map_flatten, List.map_map, Function.comp_def]
        obtain ⟨hc1, hc2, hc3⟩ := hb (i + 1) (by omega)
        refine ⟨Nat.zero_le _, fun T nT => ?_⟩
        have s6 : Same H4 (upd H4 T (.lst [])) := same_upd nT
        refine ⟨D, T, bs.map V.ref, (txs cs i).map fun t => cs.map fun e => strV (t ++ [e]), rfl, sqOf (s6 _ _ hD), upd_same, by rw [List.length_map]; omega, by rw [List.length_map, List.length_map]; omega, by rw [ef, List.length_map]; omega, fun k p e => ?_, fun S nS => ?_⟩
        · rw [List.getElem?_map] at e
          cases e2 : (txs cs i)[k]? with
          | none => rw [e2] at e; cases e
          | some t =>
            rw [e2] at e
            obtain rfl := Option.some.inj e
            have hk : k < bs.length := by rw [hbl]; exact (List.getElem?_eq_some_iff.mp e2).1
            obtain ⟨h1, t', h2, h3⟩ := hbs k _ (List.getElem?_eq_getElem hk)
            rw [e2] at h2
            obtain rfl := Option.some.inj h2
            exact ⟨_, by rw [List.getElem?_map, List.getElem?_eq_getElem hk]; rfl, s6 _ _ h3⟩
        rw [ef]
        have s7 : Same H4 (upd (upd H4 T (.lst [])) S (.lst ((txs cs (i + 1)).map strV))) := s6.trans (same_upd nS)
        have gS : upd (upd H4 T (.lst [])) S (.lst ((txs cs (i + 1)).map strV)) S = some (.lst ((txs cs (i + 1)).map strV)) := upd_same
        generalize upd (upd H4 T (.lst [])) S (.lst ((txs cs (i + 1)).map strV)) = H5 at s7 gS ⊢
        have s8 := s4.trans s7
        have hf : fnd cs (i + 1) = fnd cs i ++ txs cs (i + 1) := rfl
        have hl3 : (fnd cs i).length + (txs cs (i + 1)).length = (fnd cs (i + 1)).length := by rw [hf, List.length_append]
        refine ⟨_, rfl, _, rfl, f, S, _, _, rfl, rfl, s8 _ _ gf, gS, len_sz (by rw [List.length_map, List.length_map]; omega), fun p np => ?_⟩
        have s9 := s8.trans (same_upd (o := .lst ((fnd cs i).map strV ++ (txs cs (i + 1)).map strV)) np)
        have nH : H p = none := (sm.trans s8).free np
        refine ⟨p, S, _, rfl, sm.trans s9, nH, by rw [upd_same, hf, List.map_append], ?_⟩
        rw [upd_ne (ne_of_none gS np)]
        exact gS
    · rintro σ H3 ⟨f, l, y4, rfl, sm, nf, gf, gl⟩
      exact ⟨_, rfl, kQ _ _ sm gf nf⟩

end
end KP
namespace KP
open PySem PySem.Spec PyProof.Rows L2 EL
open Evl (pss_cut)
abbrev sLRight : Stmt := topS 50
theorem scLRight : FnScope ["_law_w", "_law_v", "_law_near", "_law_far", "_law_wide_one", "_law_joined_up", "_law_some", "_law_x", "_law_y"] ["_law_w", "_law_v"] (defScope sLRight) := ⟨rfl, rfl, rfl, by decide +kernel, rfl, by decide +kernel, by decide +kernel⟩
theorem plns_nats : ∀ {ns : List Nat}, (∀ n ∈ ns, n < 10 ^ 50) → plns (nats ns) = true
  | [], _ => by simp [plns]
  | n :: r, h => by
    have h1 := h n List.mem_cons_self
    have ih : plns (r.map fun (n : Nat) => PyData.int (n : Int)) = true := plns_nats (ns := r) fun m hm => h m (List.mem_cons_of_mem _ hm)
    simp only [List.map_cons, plns, pln, ih, Bool.and_true, decide_eq_true_eq]
    omega
theorem plns_mvs : ∀ {ms : List Mv}, (∀ m ∈ ms, m.s < 10 ^ 50 ∧ m.t < 10 ^ 50 ∧ (∀ c ∈ m.l, c < 128) ∧ ∀ c ∈ m.r, c < 128) → plns (ms.map mvD) = true
  | [], _ => by simp [plns]
  | m :: r, h => by
    obtain ⟨h1, h2, h3, h4⟩ := h m List.mem_cons_self
    have ih := plns_mvs (ms := r) fun x hx => h x (List.mem_cons_of_mem _ hx)
    have p1 : (decide (((m.s : Nat) : Int).natAbs < 10 ^ 50)) = true := decide_eq_true (by omega)
    have p2 : (decide (((m.t : Nat) : Int).natAbs < 10 ^ 50)) = true := decide_eq_true (by omega)
    have p3 : (m.l.toArray.toList.all fun c => decide (c < 128)) = true := by simpa using h3
    have p4 : (m.r.toArray.toList.all fun c => decide (c < 128)) = true := by simpa using h4
    simp only [List.map_cons, plns, mvD, pln, ih, p1, p2, p3, p4, Bool.and_self]
theorem noDict_mvs : ∀ ms : List Mv, PyData.hasDictAll (ms.map mvD) = false
  | [] => by simp [PyData.hasDictAll]
  | m :: r => by
    have ih := noDict_mvs r
    simp only [List.map_cons, PyData.hasDictAll, mvD, PyData.hasDict, ih, Bool.or_self]
theorem depth_mvs : ∀ ms : List Mv, PyData.depthAll (ms.map mvD) ≤ 1
  | [] => by simp [PyData.depthAll]
  | m :: r => by
    have ih := depth_mvs r
    simp only [List.map_cons, PyData.depthAll, mvD, PyData.depth]
    omega
/-- small enough to be shown -/
structure Small (pl : Plan) : Prop where
  w : pl.wide < 1000
  i : ∀ n ∈ pl.ins, n < 1000
  o : ∀ n ∈ pl.outs, n < 1000
  il : pl.ins.length ≤ 1000
  ol : pl.outs.length ≤ 1000
  n : pl.ways.length ≤ 200
  m : ∀ m ∈ pl.ways, m.s < 1000 ∧ m.t < 1000 ∧ m.l.length ≤ 50 ∧ m.r.length ≤ 50 ∧ (∀ c ∈ m.l, c < 128) ∧ ∀ c ∈ m.r, c < 128
theorem Plan.Ok.small {pl : Plan} {a b c : Nat} (h : pl.Ok a b c) (h1 : a ≤ 50) (h2 : b ≤ 50) (h3 : c ≤ 50) : Small pl := by
  have w2 := h.w2
  have il := asc_len h.i
  have ol := asc_len h.o
  have nn := h.n
  refine ⟨by omega, fun n hn => ?_, fun n hn => ?_, by omega, by omega, by omega, fun m hm => ?_⟩
  · have := h.i.2 n hn; omega
  · have := h.o.2 n hn; omega
  · obtain ⟨q1, q2, q3, q4, q5, q6⟩ := h.m m hm
    exact ⟨by omega, by omega, by omega, by omega, fun c hc => by rcases q5 c hc with e | e <;> omega, fun c hc => by rcases q6 c hc with e | e <;> omega⟩
theorem bulk_nats (ns : List Nat) : PyData.bulkAll (nats ns) ≤ 10 * ns.length := by
  induction ns with
  | nil => simp [PyData.bulkAll]
  | cons n r ih =>
    simp only [List.map_cons, PyData.bulkAll, PyData.bulk, List.length_cons]
    have : PyData.bulkAll (r.map fun (n : Nat) => PyData.int (n : Int)) ≤ 10 * r.length := ih
    omega
theorem bulk_mvs : ∀ {ms : List Mv}, (∀ m ∈ ms, m.l.length ≤ 50 ∧ m.r.length ≤ 50) → PyData.bulkAll (ms.map mvD) ≤ 200 * ms.length
  | [], _ => by simp [PyData.bulkAll]
  | m :: r, h => by
    obtain ⟨h1, h2⟩ := h m List.mem_cons_self
    have ih := bulk_mvs (ms := r) fun x hx => h x (List.mem_cons_of_mem _ hx)
    have e1 : (PyData.str ⟨m.l.toArray⟩).bulk = m.l.length := by simp [PyData.bulk, Str.length]
    have e2 : (PyData.str ⟨m.r.toArray⟩).bulk = m.r.length := by simp [PyData.bulk, Str.length]
    have e0 : (mvD m).bulk ≤ 150 := by
      show PyData.bulkAll [_, _, _, _] ≤ 150
      simp only [PyData.bulkAll, e1, e2]
      simp only [PyData.bulk]; omega
    simp only [List.map_cons, PyData.bulkAll, List.length_cons]; omega
theorem Small.shown {pl : Plan} (h : Small pl) : pln (shownD pl) = true ∧ (shownD pl).hasDict = false ∧ (shownD pl).depth ≤ 3 ∧ (shownD pl).bulk ≤ 61000 := by
  have w := h.w
  have big : (1000 : Nat) ≤ 10 ^ 50 := by decide
  have p0 : (decide (((pl.wide : Nat) : Int).natAbs < 10 ^ 50)) = true := decide_eq_true (by omega)
  have p1 := plns_nats (ns := pl.ins) fun n hn => Nat.lt_of_lt_of_le (h.i n hn) big
  have p2 := plns_nats (ns := pl.outs) fun n hn => Nat.lt_of_lt_of_le (h.o n hn) big
  have p3 := plns_mvs (ms := pl.ways) fun m hm => ⟨Nat.lt_of_lt_of_le (h.m m hm).1 big, Nat.lt_of_lt_of_le (h.m m hm).2.1 big, (h.m m hm).2.2.2.2⟩
  refine ⟨by simp only [shownD, pln, plns, p0, p1, p2, p3, Bool.and_self], ?_, ?_, ?_⟩
  · have q1 := (nats_lay pl.ins).2.2
    have q2 := (nats_lay pl.outs).2.2
    have q3 := noDict_mvs pl.ways
    simp only [shownD, PyData.hasDict, PyData.hasDictAll, q1, q2, q3, Bool.or_self]
  · have q1 := (nats_lay pl.ins).2.1
    have q2 := (nats_lay pl.outs).2.1
    have q3 := depth_mvs pl.ways
    simp only [shownD, PyData.depth, PyData.depthAll, q1, q2]
    omega
  · have q1 := bulk_nats pl.ins
    have q2 := bulk_nats pl.outs
    have q3 := bulk_mvs (ms := pl.ways) fun m hm => ⟨(h.m m hm).2.2.1, (h.m m hm).2.2.2.1⟩
    have i1 := h.il
    have i2 := h.ol
    have i3 := h.n
    simp only [shownD, PyData.bulk, PyData.bulkAll]
    omega
theorem shw_two {a b : Plan} (ha : Small a) (hb : Small b) : Shw (.list [shownD a, shownD b]) := by
  obtain ⟨a1, a2, a3, a4⟩ := ha.shown
  obtain ⟨b1, b2, b3, b4⟩ := hb.shown
  generalize shownD a = da at a1 a2 a3 a4 ⊢
  generalize shownD b = db at b1 b2 b3 b4 ⊢
  refine ⟨?_, .inl ?_, ?_, ?_⟩
  · simp only [pln, plns, a1, b1, Bool.and_self]
  · simp only [PyData.hasDict, PyData.hasDictAll, a2, b2, Bool.or_self]
  · simp only [PyData.depth, PyData.depthAll]; omega
  · simp only [PyData.bulk, PyData.bulkAll]; omega
theorem shw_one {a : Plan} (ha : Small a) : Shw (shownD a) := by
  obtain ⟨a1, a2, a3, a4⟩ := ha.shown
  exact ⟨a1, .inl a2, by omega, by omega⟩
theorem asc_of {pl : Plan} {a b c : Nat} (h : pl.Ok a b c) : AscP pl := fun m hm => by
  obtain ⟨_, _, _, _, h5, h6⟩ := h.m m hm
  exact ⟨fun c hc => by rcases h5 c hc with e | e <;> omega, fun c hc => by rcases h6 c hc with e | e <;> omega⟩
theorem cutV_mem {xs : List V} {lo hi : Option Int} {v : V} (h : v ∈ cutV xs lo hi) : v ∈ xs := by
  unfold cutV at h
  exact List.mem_of_mem_drop (List.mem_of_mem_take h)
def spRight (K : PySem.W.Frag) : Sp := fun vs H Q _ => ∃ (p r : Addr) (a b : Plan) (t m t' m' long : Nat), vs = [.ref p, .ref r] ∧ PlanAt K H p a ∧ PlanAt K H r b ∧ a.Ok t m long ∧ b.Ok t' m' long ∧ t ≤ 3 ∧ t' ≤ 3 ∧ m ≤ 4 ∧ m' ≤ 4 ∧ long ≤ 10 ∧ ∀ H', Same H H' → Q (.bl true) H'
section
variable {P : Program} {w : World} {K : PySem.W.Frag} {mg : Str → Option Value} {base : Heap}
theorem ok_LRight {f C : Addr} {fd : FuncData} {k : Nat} (F : Fun K "_law_right" "_law_right" sLRight f fd) (T : PTxt K C) (gC : mg "Pacer" = some (.ref C)) (kC : PySem.W.kitOne K (.ref C) (.ref C) = some true) (hT : ∀ (H : Hp) (a dx : Addr) (fs : List (Str × V)), H a = some (.ins C dx fs) → TyOf K H (.ref a) (.ref C)) (nisinstance : mg "isinstance" = none) (nrepr : mg "repr" = none) (CLCode : Cal P w K mg base k "_law_code" ["_law_w"] (spCode K C)) (CLShown : Cal P w K mg base k "_law_shown" ["_law_it"] (spShown K C)) (CLPlain : Cal P w K mg base k "_law_plain" ["_law_w"] (spPlain K)) (CLEither : Cal P w K mg base k "_law_either" ["_law_w", "_law_v"] (spEither K Plan.or)) (CLBehind : Cal P w K mg base k "_law_behind" ["_law_w", "_law_v"] (spEither K Plan.add)) (CLTexts : Cal P w K mg base k "_law_texts" ["_law_signs", "_law_top"] (spTexts K)) (CLTold : Cal P w K mg base k "_law_told" ["_law_w", "_law_x", "_law_y"] (spTold K)) (CLCuts : Cal P w K mg base k "_law_cuts" ["_law_w", "_law_v", "_law_x", "_law_y"] (spCuts K)) (MTells : CalM P w K mg base k C "tells" ["self", "left", "right"] (spTells K C)) (MOr : CalM P w K mg base k C "__or__" ["self", "other"] (spJoin K C Plan.or)) (MAdd : CalM P w K mg base k C "__add__" ["self", "other"] (spJoin K C Plan.add)) (NOr : BinOwn K C MOr.f .BitOr) (NAdd : BinOwn K C MAdd.f .Add) (EQ : CalM P w K mg base k C "__eq__" ["self", "other"] (spEq K C)) : FnG P w K mg base (k + 1) f fd ["_law_w", "_law_v"] (spRight K) := by
  refine FnG.body F scLRight (fun vs H Q E h => ?_) (fun cdv A outer s H vs Q E hg h => ?_)
  · obtain ⟨p, r, a, b, t, m, t', m', long, rfl, _⟩ := h; rfl
  · obtain ⟨p, r, a, b, t, m, t', m', long, rfl, hP, hR, hO, hO2, b1, b2, b3, b4, b5, kQ⟩ := h
    have hr := hg.r
    have hu := hr.units
    refine ⟨_, (pss_cons (ps_par (i := 2) (j := 3) (by rfl) scLRight.nd rfl rfl (by decide) rfl rfl (pa_cons (pe_cal CLCode hr (by rfl) pass0 (pa_cons (pv 0) pa_nil)) (pa_cons (pe_cal CLCode hr (by rfl) pass0 (pa_cons (pv 1) pa_nil)) pa_nil)) (by rfl))
      (pss_cons (ps_par (i := 4) (j := 5) (by rfl) scLRight.nd rfl rfl (by decide) rfl rfl (pa_cons (pe_op (op_ownB MOr.ok hr NOr MOr.b pass0) (pv 2) (pv 3)) (pa_cons (pe_op (op_ownB MAdd.ok hr NAdd MAdd.b pass0) (pv 2) (pv 3)) pa_nil)) (by rfl))
      (pss_cons (ps_if (PW.pt (pw_or (pt_not (pt_val (pe_callB (show CallR _ _ (rIsi K) from call_isi) (by rfl) nisinstance (by decide +kernel) (pa_cons (pv 4) (pa_cons (pe_glob rfl gC (show RelV (.ref C) (.ref C) from rfl)) pa_nil))))) (pw_or1 (pt_not (pt_val (pe_callB (show CallR _ _ (rIsi K) from call_isi) (by rfl) nisinstance (by decide +kernel) (pa_cons (pv 5) (pa_cons (pe_glob rfl gC (show RelV (.ref C) (.ref C) from rfl)) pa_nil)))))))) (pss_one (ps_ret pe_bl)) pss_nil)
      (pss_cons (ps_if (pt_cmpR op_ne (pe_callB (call_repr hg) (by rfl) nrepr (by decide +kernel) (pa_cons (pe_cal CLShown hr (by rfl) pass0 (pa_cons (pv 4) pa_nil)) pa_nil)) (pe_callB (call_repr hg) (by rfl) nrepr (by decide +kernel) (pa_cons (pe_cal CLPlain hr (by rfl) pass0 (pa_cons (pe_cal CLEither hr (by rfl) pass0 (pa_cons (pv 0) (pa_cons (pv 1) pa_nil))) pa_nil)) pa_nil)) (nomark _)) (pss_one (ps_ret pe_bl)) pss_nil)
      (pss_cons (ps_if (pt_cmpR op_ne (pe_callB (call_repr hg) (by rfl) nrepr (by decide +kernel) (pa_cons (pe_cal CLShown hr (by rfl) pass0 (pa_cons (pv 5) pa_nil)) pa_nil)) (pe_callB (call_repr hg) (by rfl) nrepr (by decide +kernel) (pa_cons (pe_cal CLPlain hr (by rfl) pass0 (pa_cons (pe_cal CLBehind hr (by rfl) pass0 (pa_cons (pv 0) (pa_cons (pv 1) pa_nil))) pa_nil)) pa_nil)) (nomark _)) (pss_one (ps_ret pe_bl)) pss_nil)
      (pss_cons (ps_set (i := 6) scLRight.nd rfl (by first | exact Or.inl rfl | exact Or.inr rfl) (pe_cal CLTexts hr (by rfl) pass0 (pa_cons pe_str (pa_cons pe_int pa_nil))))
      (pss_cons (ps_for PassesOwn.never rfl (pi_list (pe_op op_cat (pe_slice sl_list (pv 6) po_none (po_some pe_int)) (pe_slice sl_list (pv 6) (po_some pe_int) po_none))) (pg_name (i := 7) scLRight.nd rfl (by first | exact Or.inl rfl | exact Or.inr rfl)) (pss_one (ps_for PassesOwn.never rfl (pi_list (pe_slice sl_list (pv 6) (po_some pe_int) (po_some pe_int))) (pg_name (i := 8) scLRight.nd rfl (by first | exact Or.inl rfl | exact Or.inr rfl)) (pss_cons (ps_if (pt_cmpR op_ne (pe_calM T.cl MTells hr pass0 (pv 4) (pa_cons (pv 7) (pa_cons (pv 8) pa_nil))) (pe_or (pe_cal CLTold hr (by rfl) pass0 (pa_cons (pv 0) (pa_cons (pv 7) (pa_cons (pv 8) pa_nil)))) (pe_one (pe_cal CLTold hr (by rfl) pass0 (pa_cons (pv 1) (pa_cons (pv 7) (pa_cons (pv 8) pa_nil)))))) (nomark _)) (pss_one (ps_ret pe_bl)) pss_nil)
      (pss_one (ps_if (pt_cmpR op_ne (pe_calM T.cl MTells hr pass0 (pv 5) (pa_cons (pv 7) (pa_cons (pv 8) pa_nil))) (pe_cal CLCuts hr (by rfl) pass0 (pa_cons (pv 0) (pa_cons (pv 1) (pa_cons (pv 7) (pa_cons (pv 8) pa_nil))))) (nomark _)) (pss_one (ps_ret pe_bl)) pss_nil))))))
      (pss_one (ps_ret (pe_and (pe_cmpR (op_eqOwn EQ.ok hr EQ.mt.at_ EQ.mt.fn EQ.b pass0) (pv 2) (pe_cal CLCode hr (by rfl) pass0 (pa_cons (pv 0) pa_nil)) (nomark _)) (pe_one (pe_cmpR (op_eqOwn EQ.ok hr EQ.mt.at_ EQ.mt.fn EQ.b pass0) (pv 3) (pe_cal CLCode hr (by rfl) pass0 (pa_cons (pv 1) pa_nil)) (nomark _))))))))))))), ?_⟩

    have b5' : long ≤ 50 := by omega
    have mt := Nat.mul_le_mul b1 b2
    have hOr := hO.or hO2
    have hAd := hO.add hO2
    have mA : m + m' + t * t' ≤ 20 := by omega
    refine ⟨_, rfl, p, a, t, m, long, rfl, hP, hO, by omega, by omega, b5', fun nr H1 s1 nn hnr => ⟨_, rfl, r, b, t', m', long, rfl, hR.up s1, hO2, by omega, by omega, b5', fun fr H2 s2 nf hfr => ⟨_, _, rfl, ?_⟩⟩⟩
    have hnr := hnr.up s2
    have s02 := s1.trans s2
    obtain ⟨dx, fs, i1, _⟩ := hnr.ins "x"
    obtain ⟨dy, gs, i2, _⟩ := hfr.ins "x"
    refine ⟨_, rfl, _, rfl, nr, fr, dx, dy, fs, gs, rfl, rfl, i1, i2, nr, fr, a, b, t, m, t', m', long, rfl, hnr, hfr, hO, hO2, by omega, by omega, by omega, by omega, b5', fun o1 H3 s3 n3 h3 => ⟨o1, rfl, ?_⟩⟩
    have hnr := hnr.up s3
    have hfr := hfr.up s3
    obtain ⟨dx, fs, i1, _⟩ := hnr.ins "x"
    obtain ⟨dy, gs, i2, _⟩ := hfr.ins "x"
    refine ⟨_, rfl, _, rfl, nr, fr, dx, dy, fs, gs, rfl, rfl, i1, i2, nr, fr, a, b, t, m, t', m', long, rfl, hnr, hfr, hO, hO2, by omega, by omega, by omega, by omega, b5', fun o2 H4 s4 n4 h4 => ⟨o2, rfl, ?_⟩⟩
    have hnr := hnr.up s4
    have hfr := hfr.up s4
    have h3 := h3.up s4
    have s04 := s02.trans (s3.trans s4)
    refine ⟨_, _, rfl, ?_⟩
    obtain ⟨dx, fs, i1, _⟩ := h3.ins "x"
    obtain ⟨dy, gs, i2, _⟩ := h4.ins "x"
    refine ⟨.ref o1, rfl, .ref o1, .ref C, _, _, true, rfl, .own C, .base (hT H4 o1 dx _ i1), kC, _, rfl, iteF ⟨.ref o2, rfl, .ref o2, .ref C, _, _, true, rfl, .own C, .base (hT H4 o2 dy _ i2), kC, _, rfl, iteF ?_⟩⟩
    have S1 := shw_one (hOr.small (by omega) (by omega) b5')
    have S2 := shw_one (hAd.small (by omega) (by omega) b5')
    have hP4 := hP.up s04
    have hR4 := hR.up s04
    refine ⟨_, rfl, o1, _, rfl, h3, fun v1 H5 s5 d1 => ?_⟩
    refine ⟨_, _, rfl, d1, S1.r.1, S1.r.2.1, S1.r.2.2.1, S1.r.2.2.2, ?_⟩
    refine ⟨_, rfl, _, rfl, p, r, a, b, t, m, t', m', long, rfl, hP4.up s5, hR4.up s5, hO, hO2, by omega, by omega, by omega, by omega, fun e1 H6 s6 ne1 he1 => ⟨e1, _, rfl, he1, fun v2 H7 s7 d2 => ?_⟩⟩
    refine ⟨_, _, rfl, d2, S1.r.1, S1.r.2.1, S1.r.2.2.1, S1.r.2.2.2, rfl, _, rfl, ?_⟩
    rw [decide_eq_true rfl]
    refine iteF ?_
    have s47 := s5.trans (s6.trans s7)
    refine ⟨_, rfl, o2, _, rfl, h4.up s47, fun v3 H8 s8 d3 => ?_⟩
    have s48 := s47.trans s8
    refine ⟨_, _, rfl, d3, S2.r.1, S2.r.2.1, S2.r.2.2.1, S2.r.2.2.2, ?_⟩
    refine ⟨_, rfl, _, rfl, p, r, a, b, t, m, t', m', long, rfl, hP4.up s48, hR4.up s48, hO, hO2, by omega, by omega, by omega, by omega, fun e2 H9 s9 ne2 he2 => ⟨e2, _, rfl, he2, fun v4 H10 s10 d4 => ?_⟩⟩
    refine ⟨_, _, rfl, d4, S2.r.1, S2.r.2.1, S2.r.2.2.1, S2.r.2.2.2, rfl, _, rfl, ?_⟩
    rw [decide_eq_true rfl]
    refine iteF ?_
    have sX := s48.trans (s9.trans s10)
    have s0X := s04.trans sX
    have hnr := hnr.up sX
    have hfr := hfr.up sX
    have h3 := h3.up sX
    have h4 := h4.up sX
    have hP := hP.up s0X
    have hR := hR.up s0X
    have kQ : ∀ H', Same H10 H' → Q (.bl true) H' := fun H' s => kQ H' (s0X.trans s)
    clear d1 d2 d3 d4 he1 he2 s5 s6 s7 s8 s9 s10 s47 s48 sX s0X s04 s02 s3 s4 s1 s2 hP4 hR4 n3 n4 nn nf ne1 ne2 S1 S2 i1 i2
    refine ⟨"ab", 2, rfl, by decide, fun n hn => ?_, by decide, fun H11 l s11 gl nl => ?_⟩
    · have : n = 0 ∨ n = 1 ∨ n = 2 := by omega
      rcases this with rfl | rfl | rfl <;> decide +kernel
    have hlen2 : ∀ t ∈ fnd ("ab" : Str).cps.toList 2, t.length ≤ 2 := by decide +kernel
    have htl : (fnd ("ab" : Str).cps.toList 2).length ≤ 100 := by decide +kernel
    generalize fnd ("ab" : Str).cps.toList 2 = txl at gl hlen2 htl
    have getx : ∀ {j : Nat} {v : V} {lo hi lo' hi' : Option Int}, (cutV (txl.map strV) lo hi ++ cutV (txl.map strV) lo' hi')[j]? = some v → ∃ x, x ∈ txl ∧ v = strV x := fun {j v lo hi lo' hi'} hv => by
      rcases List.mem_append.mp (List.mem_of_getElem? hv) with z | z
      · obtain ⟨x, hx, e⟩ := List.mem_map.mp (cutV_mem z)
        exact ⟨x, hx, e.symm⟩
      · obtain ⟨x, hx, e⟩ := List.mem_map.mp (cutV_mem z)
        exact ⟨x, hx, e.symm⟩
    have cutL : ∀ lo hi, (cutV (txl.map strV) lo hi).length ≤ 100 := fun lo hi => by
      unfold cutV
      rw [List.length_take, List.length_drop, List.length_map]; omega
    refine ⟨_, rfl, 5, rfl, l, _, rfl, sqOf gl, fun M1 nM1 => ?_⟩
    have s12 := same_upd (o := .lst (cutV (txl.map strV) none (some 5))) nM1
    have g1 : upd H11 M1 (.lst (cutV (txl.map strV) none (some 5))) M1 = some (.lst (cutV (txl.map strV) none (some 5))) := upd_same
    generalize upd H11 M1 (.lst (cutV (txl.map strV) none (some 5))) = H12 at s12 g1 ⊢
    refine ⟨_, rfl, 6, rfl, l, _, rfl, sqOf (s12 _ _ gl), fun M2 nM2 => ?_⟩
    have s13 := same_upd (o := .lst (cutV (txl.map strV) (some 6) none)) nM2
    have g2 : upd H12 M2 (.lst (cutV (txl.map strV) (some 6) none)) M2 = some (.lst (cutV (txl.map strV) (some 6) none)) := upd_same
    generalize upd H12 M2 (.lst (cutV (txl.map strV) (some 6) none)) = H13 at s13 g2 ⊢
    have c1 := cutL none (some 5)
    have c2 := cutL (some 6) none
    refine ⟨M1, M2, _, _, rfl, rfl, s13 _ _ g1, g2, len_sz (by omega), fun M3 nM3 => ⟨M3, rfl, ⟨_, sqOf upd_same⟩, ?_⟩⟩
    have s14 := same_upd (o := .lst (cutV (txl.map strV) none (some 5) ++ cutV (txl.map strV) (some 6) none)) nM3
    have g3 : upd H13 M3 (.lst (cutV (txl.map strV) none (some 5) ++ cutV (txl.map strV) (some 6) none)) M3 = some (.lst (cutV (txl.map strV) none (some 5) ++ cutV (txl.map strV) (some 6) none)) := upd_same
    generalize upd H13 M3 (.lst (cutV (txl.map strV) none (some 5) ++ cutV (txl.map strV) (some 6) none)) = H14 at s14 g3 ⊢
    have s1014 := s11.trans (s12.trans (s13.trans s14))
    have gl := s14 _ _ (s13 _ _ (s12 _ _ gl))
    have hnr := hnr.up s1014
    have hfr := hfr.up s1014
    have h3 := h3.up s1014
    have h4 := h4.up s1014
    have hP := hP.up s1014
    have hR := hR.up s1014
    have kQ : ∀ H', Same H14 H' → Q (.bl true) H' := fun H' s => kQ H' (s1014.trans s)
    refine for_it walk_list (fun j σ H' => ∃ (y7 y8 : Option V), σ = [some (.ref p), some (.ref r), some (.ref nr), some (.ref fr), some (.ref o1), some (.ref o2), some (.ref l), y7, y8] ∧ Same H14 H')
      ⟨_, _, rfl, Same.refl _⟩ (fun j σ H' _ z => by obtain ⟨_, _, _, sm⟩ := z; exact sqOf (sm _ _ g3)) ?_ ?_
    · rintro j v σ H9 H15 hj ⟨y7, y8, rfl, sm⟩ ⟨rfl, hv⟩
      obtain ⟨x, hx, rfl⟩ := getx hv
      have hxl := hlen2 x hx
      refine ⟨_, rfl, 1, rfl, 6, rfl, l, _, rfl, sqOf (sm _ _ gl), fun M4 nM4 => ⟨M4, rfl, ⟨_, sqOf upd_same⟩, ?_⟩⟩
      have s16 := same_upd (o := .lst (cutV (txl.map strV) (some 1) (some 6))) nM4
      have g4 : upd H15 M4 (.lst (cutV (txl.map strV) (some 1) (some 6))) M4 = some (.lst (cutV (txl.map strV) (some 1) (some 6))) := upd_same
      generalize upd H15 M4 (.lst (cutV (txl.map strV) (some 1) (some 6))) = H16 at s16 g4 ⊢
      have sm := sm.trans s16
      refine for_it walk_list (fun k' σ H' => ∃ (y8 : Option V), σ = [some (.ref p), some (.ref r), some (.ref nr), some (.ref fr), some (.ref o1), some (.ref o2), some (.ref l), some (strV x), y8] ∧ Same H16 H')
        ⟨_, rfl, Same.refl _⟩ (fun j σ H' _ z => by obtain ⟨_, _, sm⟩ := z; exact sqOf (sm _ _ g4)) ?_ ?_
      · rintro k' v σ H9 H17 hk ⟨y8, rfl, s17⟩ ⟨rfl, hv⟩
        obtain ⟨y, hy, rfl⟩ : ∃ y, y ∈ txl ∧ v = strV y := by
          obtain ⟨y, hy, e⟩ := List.mem_map.mp (cutV_mem (List.mem_of_getElem? hv))
          exact ⟨y, hy, e.symm⟩
        have hyl := hlen2 y hy
        have w1 : (⟨x.toArray⟩ : Str).length = x.length := by rw [str_len]
        have w2 : (⟨y.toArray⟩ : Str).length = y.length := by rw [str_len]
        have S := sm.trans s17
        have h3 := h3.up S
        have h4 := h4.up S
        have hP := hP.up S
        have hR := hR.up S
        have t1 := told_or hO hO2 (⟨x.toArray⟩ : Str).cps.toList (⟨y.toArray⟩ : Str).cps.toList
        obtain ⟨dx, fs, i1, i2⟩ := h3.ins "tells"
        refine ⟨_, rfl, o1, dx, fs, rfl, i1, i2, _, rfl, _, rfl, o1, a.or b, t + t', m + m', long, _, _, rfl, h3, hOr, by omega, by omega, b5', by omega, by omega, fun H18 s18 => ?_⟩
        rw [t1]
        refine ⟨_, rfl, _, rfl, _, rfl, p, a, t, m, long, _, _, rfl, hP.up s18, hO, by omega, by omega, b5', by omega, by omega, fun H19 s19 => ⟨_, rfl, ?_⟩⟩
        cases c1 : toldB a (⟨x.toArray⟩ : Str).cps.toList (⟨y.toArray⟩ : Str).cps.toList with
        | true =>
          rw [if_pos rfl, Bool.true_or]
          refine ⟨rfl, _, rfl, ?_⟩
          rw [decide_eq_true rfl]
          refine iteF ?_
          have h4 := h4.up (s18.trans s19)
          have hP := hP.up (s18.trans s19)
          have hR := hR.up (s18.trans s19)
          obtain ⟨dx, fs, i1, i2⟩ := h4.ins "tells"
          refine ⟨_, rfl, o2, dx, fs, rfl, i1, i2, _, rfl, _, rfl, o2, a.add b, t + t', m + m' + t * t', long, _, _, rfl, h4, hAd, by omega, by omega, b5', by omega, by omega, fun H21 s21 => ?_⟩
          refine ⟨_, rfl, _, rfl, _, rfl, _, rfl, p, r, a, b, t, m, t', m', long, _, _, rfl, hP.up s21, hR.up s21, hO, hO2, by omega, by omega, by omega, by omega, b5', by omega, by omega, fun H22 s22 => ⟨rfl, _, rfl, ?_⟩⟩
          rw [decide_eq_true rfl]
          exact iteF ⟨_, rfl, s17.trans ((s18.trans s19).trans (s21.trans s22))⟩
        | false =>
          rw [if_neg Bool.false_ne_true, Bool.false_or]
          refine ⟨_, rfl, _, rfl, _, rfl, r, b, t', m', long, _, _, rfl, hR.up (s18.trans s19), hO2, by omega, by omega, b5', by omega, by omega, fun H20 s20 => ?_⟩
          refine ⟨rfl, _, rfl, ?_⟩
          rw [decide_eq_true rfl]
          refine iteF ?_
          have h4 := h4.up (s18.trans (s19.trans s20))
          have hP := hP.up (s18.trans (s19.trans s20))
          have hR := hR.up (s18.trans (s19.trans s20))
          obtain ⟨dx, fs, i1, i2⟩ := h4.ins "tells"
          refine ⟨_, rfl, o2, dx, fs, rfl, i1, i2, _, rfl, _, rfl, o2, a.add b, t + t', m + m' + t * t', long, _, _, rfl, h4, hAd, by omega, by omega, b5', by omega, by omega, fun H21 s21 => ?_⟩
          refine ⟨_, rfl, _, rfl, _, rfl, _, rfl, p, r, a, b, t, m, t', m', long, _, _, rfl, hP.up s21, hR.up s21, hO, hO2, by omega, by omega, by omega, by omega, b5', by omega, by omega, fun H22 s22 => ⟨rfl, _, rfl, ?_⟩⟩
          rw [decide_eq_true rfl]
          exact iteF ⟨_, rfl, s17.trans ((s18.trans (s19.trans s20)).trans (s21.trans s22))⟩
      · rintro σ H17 ⟨y8, rfl, s17⟩
        exact ⟨_, _, rfl, sm.trans s17⟩
    · rintro σ H15 ⟨y7, y8, rfl, sm⟩
      have hnr := hnr.up sm
      have hfr := hfr.up sm
      have hP := hP.up sm
      have hR := hR.up sm
      have aA := asc_of hO
      have aB := asc_of hO2
      refine ⟨_, rfl, _, rfl, p, a, t, m, long, rfl, hP, hO, by omega, by omega, b5', fun q1 H16 s16 n1 hq1 => ?_⟩
      have hnr := hnr.up s16
      obtain ⟨dx, fs, i1, _⟩ := hnr.ins "x"
      obtain ⟨dy, gs, i2, _⟩ := hq1.ins "x"
      refine ⟨nr, q1, dx, dy, fs, gs, rfl, rfl, i1, i2, nr, q1, a, a, rfl, hnr, hq1, aA, aA, _, rfl, ⟨_, rfl, ?_⟩⟩
      rw [show id (peq a a) = true from peq_self a aA]
      have hfr := hfr.up s16
      refine iteT ⟨_, rfl, _, rfl, r, b, t', m', long, rfl, hR.up s16, hO2, by omega, by omega, b5', fun q2 H17 s17 n2 hq2 => ?_⟩
      have hfr := hfr.up s17
      obtain ⟨dx, fs, i1, _⟩ := hfr.ins "x"
      obtain ⟨dy, gs, i2, _⟩ := hq2.ins "x"
      refine ⟨fr, q2, dx, dy, fs, gs, rfl, rfl, i1, i2, fr, q2, b, b, rfl, hfr, hq2, aB, aB, _, rfl, ?_⟩
      show Q (V.bl (peq b b)) H17
      rw [peq_self b aB]
      exact kQ _ (sm.trans (s16.trans s17))
end
end KP
namespace KP
open PySem PySem.Spec PyProof.Rows L2 EL
open Evl (pss_cut)
abbrev sLaw : Stmt := topS 51
theorem scLaw : FnScope ["_law_script", "_law_deck_here", "_law_go", "_law_w", "_law_v", "_law_near", "_law_far", "_law_told_here"] ["_law_script"] (defScope sLaw) := ⟨rfl, rfl, rfl, by decide +kernel, rfl, by decide +kernel, by decide +kernel⟩
abbrev P1 : Plan := ⟨2, [0], [⟨0, [97], [], 1⟩, ⟨1, [], [98], 0⟩], [0]⟩
theorem P1_okk : P1.Ok 3 4 2 := ⟨by decide, by decide, ⟨by decide, by decide⟩, ⟨by decide, by decide⟩, by decide, by decide⟩
theorem P1_ok : P1.Ok 50 50 50 := P1_okk.upto (by decide) (by decide) (by decide)
abbrev P2 : Plan := ⟨1, [0], [⟨0, [99], [], 0⟩], [0]⟩
theorem P2_okk : P2.Ok 3 4 2 := ⟨by decide, by decide, ⟨by decide, by decide⟩, ⟨by decide, by decide⟩, by decide, by decide⟩
theorem P2_ok : P2.Ok 50 50 50 := P2_okk.upto (by decide) (by decide) (by decide)
def spLaw (K : PySem.W.Frag) : Sp := fun vs H Q _ => ∃ (a : Addr) (ns : List Int), vs = [.ref a] ∧ SqL K H a (ns.map V.int) ∧ ns.length ≤ 63 ∧ ∀ H', Q (.bl true) H'
section
variable {P : Program} {w : World} {K : PySem.W.Frag} {mg : Str → Option Value} {base : Heap}
theorem ok_Law {f C : Addr} {fd : FuncData} {k : Nat} (F : Fun K "law" "law" sLaw f fd) (T : PTxt K C) (nrange : mg "range" = none) (CLDeck : Cal P w K mg base k "_law_deck" ["_law_script"] (spDeck K)) (CLPlan : Cal P w K mg base k "_law_plan" ["_law_deck_here", "_law_top", "_law_many", "_law_long"] (spPlan K)) (CLRight : CalG P w K mg base k "_law_right" ["_law_w", "_law_v"] (spRight K)) (CC : CalC P w K mg base k C) (MTells : CalM P w K mg base k C "tells" ["self", "left", "right"] (spTells K C)) (MOr : CalM P w K mg base k C "__or__" ["self", "other"] (spJoin K C Plan.or)) (MAdd : CalM P w K mg base k C "__add__" ["self", "other"] (spJoin K C Plan.add)) (NOr : BinOwn K C MOr.f .BitOr) (NAdd : BinOwn K C MAdd.f .Add) : FnG P w K mg base (k + 2) f fd ["_law_script"] (spLaw K) := by
  refine FnG.body F scLaw (fun vs H Q E h => ?_) (fun cdv A outer s H vs Q E hg1 h => ?_)
  · obtain ⟨a, ns, rfl, _⟩ := h; rfl
  · obtain ⟨a, ns, rfl, hS, hlen, kQ⟩ := h
    have hg := hg1.mono (Nat.le_succ k)
    have hr := hg.r
    have hr1 := hg1.r
    have hu := hr.units
    refine ⟨_, (pss_cons (ps_set (i := 1) scLaw.nd rfl (by first | exact Or.inl rfl | exact Or.inr rfl) (pe_cal CLDeck hr (by rfl) pass0 (pa_cons (pv 0) pa_nil)))
      (pss_cons (ps_for PassesOwn.never rfl (pi_range1 rfl nrange (pa_cons pe_int pa_nil)) (pg_name (i := 2) scLaw.nd rfl (by first | exact Or.inl rfl | exact Or.inr rfl)) (pss_cons (ps_par (i := 3) (j := 4) (by rfl) scLaw.nd rfl rfl (by decide) rfl rfl (pa_cons (pe_cal CLPlan hr (by rfl) pass0 (pa_cons (pv 1) (pa_cons pe_int (pa_cons pe_int (pa_cons pe_int pa_nil))))) (pa_cons (pe_cal CLPlan hr (by rfl) pass0 (pa_cons (pv 1) (pa_cons pe_int (pa_cons pe_int (pa_cons pe_int pa_nil))))) pa_nil)) (by rfl))
      (pss_one (ps_if (PW.pt (pw_or (pt_not (pt_val (pe_calG CLRight hg (by rfl) pass0 (pa_cons (pv 3) (pa_cons (pv 4) pa_nil))))) (pw_or1 (PW.pt (pw_and (pt_cmpR op_eq (pv 2) pe_int (nomark _)) (pw_and1 (pt_not (pt_val (pe_calG CLRight hg (by rfl) pass0 (pa_cons (pv 3) (pa_cons (pv 3) pa_nil))))))))))) (pss_one (ps_ret pe_bl)) pss_nil))))
      (pss_cons (ps_par (i := 5) (j := 6) (by rfl) scLaw.nd rfl rfl (by decide) rfl rfl (pa_cons (pe_pacK (P1) CC hr1 (by rfl) pass0 (kd_cons kd_int (kd_cons (kd_tup (kd_cons kd_int kd_nil)) (kd_cons (kd_tup (kd_cons (kd_tup (kd_cons kd_int (kd_cons kd_str (kd_cons kd_str (kd_cons kd_int kd_nil))))) (kd_cons (kd_tup (kd_cons kd_int (kd_cons kd_str (kd_cons kd_str (kd_cons kd_int kd_nil))))) kd_nil))) (kd_cons (kd_tup (kd_cons kd_int kd_nil)) kd_nil)))) (by kernel_rfl) P1_ok) (pa_cons (pe_pacK (P2) CC hr1 (by rfl) pass0 (kd_cons kd_int (kd_cons (kd_tup (kd_cons kd_int kd_nil)) (kd_cons (kd_tup (kd_cons (kd_tup (kd_cons kd_int (kd_cons kd_str (kd_cons kd_str (kd_cons kd_int kd_nil))))) kd_nil)) (kd_cons (kd_tup (kd_cons kd_int kd_nil)) kd_nil)))) (by kernel_rfl) P2_ok) pa_nil)) (by rfl))
      (pss_cons (ps_set (i := 7) scLaw.nd rfl (by first | exact Or.inl rfl | exact Or.inr rfl) (pe_lst (pa_cons (pe_calM T.cl MTells hr pass0 (pe_op (op_ownB MAdd.ok hr NAdd MAdd.b pass0) (pv 5) (pv 6)) (pa_cons pe_str (pa_cons pe_str pa_nil))) (pa_cons (pe_calM T.cl MTells hr pass0 (pe_op (op_ownB MAdd.ok hr NAdd MAdd.b pass0) (pv 5) (pv 6)) (pa_cons pe_str (pa_cons pe_str pa_nil))) (pa_cons (pe_calM T.cl MTells hr pass0 (pe_op (op_ownB MOr.ok hr NOr MOr.b pass0) (pv 5) (pv 6)) (pa_cons pe_str (pa_cons pe_str pa_nil))) pa_nil)))))
      (pss_one (ps_ret (pe_cmpR (op_eqD hu) (pe_op op_cat (pv 7) (pe_lst (pa_cons (pe_calM T.cl MTells hr pass0 (pe_op (op_ownB MOr.ok hr NOr MOr.b pass0) (pv 5) (pv 6)) (pa_cons pe_str (pa_cons pe_str pa_nil))) (pa_cons (pe_calM T.cl MTells hr pass0 (pe_op (op_ownB MAdd.ok hr NAdd MAdd.b pass0) (pv 6) (pv 5)) (pa_cons pe_str (pa_cons pe_str pa_nil))) pa_nil)))) (kd_lst (kd_cons kd_bl (kd_cons kd_bl (kd_cons kd_bl (kd_cons kd_bl (kd_cons kd_bl kd_nil)))))) (nomark _)))))))), ?_⟩

    refine ⟨.ref a, rfl, a, ns, rfl, hS, hlen, fun p q H1 s1 D1 np nq => ?_⟩
    refine ⟨3, rfl, by decide, by decide, ?_⟩
    rw [show (3 : Int).toNat = 3 from rfl]
    refine for_it walk_range (fun i σ H' => ∃ (y2 y3 y4 : Option V), σ = [some (.ref a), some (.ref p), y2, y3, y4, none, none, none] ∧ Dw p q (50000 * i) H')
      ⟨none, none, none, rfl, D1⟩ (fun _ _ _ _ _ => trivial) ?_ ?_
    · rintro i v σ H9 H2 hi ⟨y2, y3, y4, rfl, D2⟩ ⟨rfl, rfl⟩
      have hi4 : i < 3 := hi
      refine ⟨.ref p, rfl, p, q, _, 3, 4, 2, rfl, D2, by omega, by decide, by decide, by decide, by decide, fun w pl H3 hO hP o3 D3 => ?_⟩
      refine ⟨.ref p, rfl, p, q, _, 3, 4, 2, rfl, D3, by omega, by decide, by decide, by decide, by decide, fun w2 pl2 H4 hO2 hP2 o4 D4 => ?_⟩
      have hP := (hP.up o4.hid).up hid_sub
      have hP2 := hP2.up hid_sub
      refine ⟨_, _, rfl, ?_⟩
      refine ⟨_, rfl, _, rfl, w, w2, pl, pl2, 3, 4, 3, 4, 2, rfl, hP, hP2, hO, hO2, by decide, by decide, by decide, by decide, by decide, fun H5 s5 => ⟨_, rfl, iteF ?_⟩⟩
      refine ⟨_, rfl, rfl, _, rfl, ?_⟩
      have D5 := D4.same s5
      dsimp only
      cases hz : decide (V.int (0 + (i : Int)) = V.int 0) with
      | false => exact iteF (iteF ⟨_, _, _, rfl, D5.mono (by omega)⟩)
      | true =>
        exact iteT ⟨_, rfl, _, rfl, w, w, pl, pl, 3, 4, 3, 4, 2, rfl, hP.up s5, hP.up s5, hO, hO, by decide, by decide, by decide, by decide, by decide, fun H6 s6 => ⟨_, rfl, iteF ⟨_, _, _, rfl, (D5.same s6).mono (by omega)⟩⟩⟩
    · rintro σ H2 ⟨y2, y3, y4, rfl, D2⟩
      clear D1 D2 s1 np nq
      refine fun x1 H3 s3 n3 k1 => fun x2 H4 s4 n4 k2 => ⟨_, _, rfl, ?_⟩
      have k1 := k1.up s4
      obtain ⟨dx, fs, i1, _⟩ := k1.ins "x"
      obtain ⟨dy, gs, i2, _⟩ := k2.ins "x"
      refine ⟨_, rfl, _, rfl, x1, x2, dx, dy, fs, gs, rfl, rfl, i1, i2, x1, x2, P1, P2, 3, 4, 3, 4, 2, rfl, k1, k2, P1_okk, P2_okk, by decide, by decide, by decide, by decide, by decide, fun on1 Hn1 sn1 nn1 kn1 => ⟨on1, rfl, ?_⟩⟩
      have k1 := k1.up sn1
      have k2 := k2.up sn1
      obtain ⟨dx, fs, e1, e2⟩ := kn1.ins "tells"
      refine ⟨on1, dx, fs, rfl, e1, e2, on1, P1.add P2, 10, 20, 2, _, _, rfl, kn1, (P1_okk.add P2_okk).upto (by decide) (by decide) (by decide), by decide, by decide, by decide, by decide +kernel, by decide +kernel, fun Hm1 sm1 => ?_⟩
      generalize ht1 : toldB (P1.add P2) _ _ = b1
      obtain rfl : b1 = true := by rw [← ht1]; exact toldB_exec 40 true (by decide +kernel)
      have k1 := k1.up sm1
      have k2 := k2.up sm1
      obtain ⟨dx, fs, i1, _⟩ := k1.ins "x"
      obtain ⟨dy, gs, i2, _⟩ := k2.ins "x"
      refine ⟨_, rfl, _, rfl, x1, x2, dx, dy, fs, gs, rfl, rfl, i1, i2, x1, x2, P1, P2, 3, 4, 3, 4, 2, rfl, k1, k2, P1_okk, P2_okk, by decide, by decide, by decide, by decide, by decide, fun on2 Hn2 sn2 nn2 kn2 => ⟨on2, rfl, ?_⟩⟩
      have k1 := k1.up sn2
      have k2 := k2.up sn2
      obtain ⟨dx, fs, e1, e2⟩ := kn2.ins "tells"
      refine ⟨on2, dx, fs, rfl, e1, e2, on2, P1.add P2, 10, 20, 2, _, _, rfl, kn2, (P1_okk.add P2_okk).upto (by decide) (by decide) (by decide), by decide, by decide, by decide, by decide +kernel, by decide +kernel, fun Hm2 sm2 => ?_⟩
      generalize ht2 : toldB (P1.add P2) _ _ = b2
      obtain rfl : b2 = false := by rw [← ht2]; exact toldB_exec 40 false (by decide +kernel)
      have k1 := k1.up sm2
      have k2 := k2.up sm2
      obtain ⟨dx, fs, i1, _⟩ := k1.ins "x"
      obtain ⟨dy, gs, i2, _⟩ := k2.ins "x"
      refine ⟨_, rfl, _, rfl, x1, x2, dx, dy, fs, gs, rfl, rfl, i1, i2, x1, x2, P1, P2, 3, 4, 3, 4, 2, rfl, k1, k2, P1_okk, P2_okk, by decide, by decide, by decide, by decide, by decide, fun on3 Hn3 sn3 nn3 kn3 => ⟨on3, rfl, ?_⟩⟩
      have k1 := k1.up sn3
      have k2 := k2.up sn3
      obtain ⟨dx, fs, e1, e2⟩ := kn3.ins "tells"
      refine ⟨on3, dx, fs, rfl, e1, e2, on3, P1.or P2, 10, 20, 2, _, _, rfl, kn3, (P1_okk.or P2_okk).upto (by decide) (by decide) (by decide), by decide, by decide, by decide, by decide +kernel, by decide +kernel, fun Hm3 sm3 => ?_⟩
      generalize ht3 : toldB (P1.or P2) _ _ = b3
      obtain rfl : b3 = true := by rw [← ht3]; exact toldB_exec 40 true (by decide +kernel)
      have k1 := k1.up sm3
      have k2 := k2.up sm3
      refine ⟨by show 3 ≤ sizeLine; decide, fun l1 nl1 => ?_⟩
      have s8 := same_upd (o := .lst [.bl true, .bl false, .bl true]) nl1
      have g8 : upd Hm3 l1 (.lst [.bl true, .bl false, .bl true]) l1 = some (.lst [.bl true, .bl false, .bl true]) := upd_same
      generalize upd Hm3 l1 (.lst [.bl true, .bl false, .bl true]) = H8 at s8 g8 ⊢
      have k1 := k1.up s8
      have k2 := k2.up s8
      refine ⟨_, rfl, ?_⟩
      obtain ⟨dx, fs, i1, _⟩ := k1.ins "x"
      obtain ⟨dy, gs, i2, _⟩ := k2.ins "x"
      refine ⟨_, rfl, _, rfl, x1, x2, dx, dy, fs, gs, rfl, rfl, i1, i2, x1, x2, P1, P2, 3, 4, 3, 4, 2, rfl, k1, k2, P1_okk, P2_okk, by decide, by decide, by decide, by decide, by decide, fun on4 Hn4 sn4 nn4 kn4 => ⟨on4, rfl, ?_⟩⟩
      have k1 := k1.up sn4
      have k2 := k2.up sn4
      obtain ⟨dx, fs, e1, e2⟩ := kn4.ins "tells"
      refine ⟨on4, dx, fs, rfl, e1, e2, on4, P1.or P2, 10, 20, 2, _, _, rfl, kn4, (P1_okk.or P2_okk).upto (by decide) (by decide) (by decide), by decide, by decide, by decide, by decide +kernel, by decide +kernel, fun Hm4 sm4 => ?_⟩
      generalize ht4 : toldB (P1.or P2) _ _ = b4
      obtain rfl : b4 = false := by rw [← ht4]; exact toldB_exec 40 false (by decide +kernel)
      have k1 := k1.up sm4
      have k2 := k2.up sm4
      obtain ⟨dx, fs, i1, _⟩ := k2.ins "x"
      obtain ⟨dy, gs, i2, _⟩ := k1.ins "x"
      refine ⟨_, rfl, _, rfl, x2, x1, dx, dy, fs, gs, rfl, rfl, i1, i2, x2, x1, P2, P1, 3, 4, 3, 4, 2, rfl, k2, k1, P2_okk, P1_okk, by decide, by decide, by decide, by decide, by decide, fun on5 Hn5 sn5 nn5 kn5 => ⟨on5, rfl, ?_⟩⟩
      have k2 := k2.up sn5
      have k1 := k1.up sn5
      obtain ⟨dx, fs, e1, e2⟩ := kn5.ins "tells"
      refine ⟨on5, dx, fs, rfl, e1, e2, on5, P2.add P1, 10, 20, 2, _, _, rfl, kn5, (P2_okk.add P1_okk).upto (by decide) (by decide) (by decide), by decide, by decide, by decide, by decide +kernel, by decide +kernel, fun Hm5 sm5 => ?_⟩
      generalize ht5 : toldB (P2.add P1) _ _ = b5
      obtain rfl : b5 = true := by rw [← ht5]; exact toldB_exec 40 true (by decide +kernel)
      have k2 := k2.up sm5
      have k1 := k1.up sm5
      have g9 := sm5 _ _ (sn5 _ _ (sm4 _ _ (sn4 _ _ g8)))
      refine ⟨by show 2 ≤ sizeLine; decide, fun l2 nl2 => ?_⟩
      have s10 := same_upd (o := .lst [.bl false, .bl true]) nl2
      have g10 : upd Hm5 l2 (.lst [.bl false, .bl true]) l2 = some (.lst [.bl false, .bl true]) := upd_same
      have g10' := s10 _ _ g9
      generalize upd Hm5 l2 (.lst [.bl false, .bl true]) = H10 at s10 g10 g10' ⊢
      refine ⟨l1, l2, _, _, rfl, rfl, g10', g10, len_sz (by decide), fun l3 nl3 => ?_⟩
      have g11 : upd H10 l3 (.lst ([.bl true, .bl false, .bl true] ++ [.bl false, .bl true])) l3 = some (.lst [.bl true, .bl false, .bl true, .bl false, .bl true]) := upd_same
      generalize upd H10 l3 (.lst ([.bl true, .bl false, .bl true] ++ [.bl false, .bl true])) = H11 at g11 ⊢
      refine fun v9 H26 s26 d26 => ?_
      have S9 : Shw (.list [.bool true, .bool false, .bool true, .bool false, .bool true]) := shw_bools [true, false, true, false, true] (by decide)
      have n9 : (PyData.list [.bool true, .bool false, .bool true, .bool false, .bool true]).hasDict = false := by simp [PyData.hasDict, PyData.hasDictAll]
      have d25 : Dq K H26 (.ref l3) (.list [.bool true, .bool false, .bool true, .bool false, .bool true]) := .lst (sqOf (s26 _ _ g11)) (.cons (.bl _) <| .cons (.bl _) <| .cons (.bl _) <| .cons (.bl _) <| .cons (.bl _) .nil)
      refine ⟨_, _, dp_of _ _ d25 n9, dp_of _ _ d26 n9, shw_shaped S9 n9, shw_shaped S9 n9, ?_⟩
      rw [show PyData.eqv (.list [.bool true, .bool false, .bool true, .bool false, .bool true]) (.list [.bool true, .bool false, .bool true, .bool false, .bool true]) = true from by simp [PyData.eqv, PyData.eqvAll]]
      exact kQ _
end
end KP
namespace KP
open PySem PySem.Spec PyProof.Rows L2 EL
theorem gup {P : Program} {w : World} {K : PySem.W.Frag} {mg : Str → Option Value} {base : Heap} {j k : Nat} {f : Addr} {fd : FuncData} {ps : List Str} {sp : Sp} (F : FnG P w K mg base j f fd ps sp) (h : j ≤ k) : FnG P w K mg base k f fd ps sp := ⟨F.ln, fun hr => F.go (hr.mono h)⟩
theorem all_mk {l : PySem.W.OpenLaw} {w : World} {K : PySem.W.Frag} {h : Heap} {mg : Str → Option Value} {fa f0 f1 f2 f3 f4 f5 f6 f7 f8 f9 f10 f11 f12 f13 f14 f15 f16 f17 f18 f19 f20 f21 f22 f23 f24 f25 f26 f27 f28 f29 f30 f31 CPacer : Addr} {tLETTERS : Tok} (X : K.In h) (G : h.Ns mainGlobals mg) (hfa : mg "law" = some (.ref fa))
    (aPacer : PySem.W.nsIn K mainGlobals "Pacer" = some (some (.ref CPacer)))
    {od0 an0 : Option Addr} {sl0 : Array (Option Value)} {oc0 kV0 dc0 pm0 cd0 ct0 : Value} (a0 : PySem.W.nsIn K mainGlobals "is_text" = some (some (.ref f0))) (l0 : K.lookup f0 = some ⟨oc0, od0, .func (PySem.W.fnOf "is_text" "is_text" (defArgs sIsText) (defBody sIsText) (defScope sIsText) .none kV0 dc0 pm0 an0 cd0 ct0), sl0⟩) (c0 : PySem.W.codeIn K cd0 "is_text" = true) (k0 : PySem.W.keepIn K (.ref f0) = true)
    {od1 an1 : Option Addr} {sl1 : Array (Option Value)} {oc1 kV1 dc1 pm1 cd1 ct1 : Value} (a1 : PySem.W.nsIn K mainGlobals "is_integer" = some (some (.ref f1))) (l1 : K.lookup f1 = some ⟨oc1, od1, .func (PySem.W.fnOf "is_integer" "is_integer" (defArgs sIsInteger) (defBody sIsInteger) (defScope sIsInteger) .none kV1 dc1 pm1 an1 cd1 ct1), sl1⟩) (c1 : PySem.W.codeIn K cd1 "is_integer" = true) (k1 : PySem.W.keepIn K (.ref f1) = true)
    {od2 an2 : Option Addr} {sl2 : Array (Option Value)} {oc2 kV2 dc2 pm2 cd2 ct2 : Value} (a2 : PySem.W.nsIn K mainGlobals "is_size" = some (some (.ref f2))) (l2 : K.lookup f2 = some ⟨oc2, od2, .func (PySem.W.fnOf "is_size" "is_size" (defArgs sIsSize) (defBody sIsSize) (defScope sIsSize) .none kV2 dc2 pm2 an2 cd2 ct2), sl2⟩) (c2 : PySem.W.codeIn K cd2 "is_size" = true) (k2 : PySem.W.keepIn K (.ref f2) = true)
    {od3 an3 : Option Addr} {sl3 : Array (Option Value)} {oc3 kV3 dc3 pm3 cd3 ct3 : Value} (a3 : PySem.W.nsIn K mainGlobals "is_state" = some (some (.ref f3))) (l3 : K.lookup f3 = some ⟨oc3, od3, .func (PySem.W.fnOf "is_state" "is_state" (defArgs sIsState) (defBody sIsState) (defScope sIsState) .none kV3 dc3 pm3 an3 cd3 ct3), sl3⟩) (c3 : PySem.W.codeIn K cd3 "is_state" = true) (k3 : PySem.W.keepIn K (.ref f3) = true)
    {od4 an4 : Option Addr} {sl4 : Array (Option Value)} {oc4 kV4 dc4 pm4 cd4 ct4 : Value} (a4 : PySem.W.nsIn K mainGlobals "is_tuple_of_states" = some (some (.ref f4))) (l4 : K.lookup f4 = some ⟨oc4, od4, .func (PySem.W.fnOf "is_tuple_of_states" "is_tuple_of_states" (defArgs sIsTupleOfStates) (defBody sIsTupleOfStates) (defScope sIsTupleOfStates) .none kV4 dc4 pm4 an4 cd4 ct4), sl4⟩) (c4 : PySem.W.codeIn K cd4 "is_tuple_of_states" = true) (k4 : PySem.W.keepIn K (.ref f4) = true)
    {od5 an5 : Option Addr} {sl5 : Array (Option Value)} {oc5 kV5 dc5 pm5 cd5 ct5 : Value} (a5 : PySem.W.nsIn K mainGlobals "is_move" = some (some (.ref f5))) (l5 : K.lookup f5 = some ⟨oc5, od5, .func (PySem.W.fnOf "is_move" "is_move" (defArgs sIsMove) (defBody sIsMove) (defScope sIsMove) .none kV5 dc5 pm5 an5 cd5 ct5), sl5⟩) (c5 : PySem.W.codeIn K cd5 "is_move" = true) (k5 : PySem.W.keepIn K (.ref f5) = true)
    {od6 an6 : Option Addr} {sl6 : Array (Option Value)} {oc6 kV6 dc6 pm6 cd6 ct6 : Value} (a6 : PySem.W.nsIn K mainGlobals "is_tuple_of_moves" = some (some (.ref f6))) (l6 : K.lookup f6 = some ⟨oc6, od6, .func (PySem.W.fnOf "is_tuple_of_moves" "is_tuple_of_moves" (defArgs sIsTupleOfMoves) (defBody sIsTupleOfMoves) (defScope sIsTupleOfMoves) .none kV6 dc6 pm6 an6 cd6 ct6), sl6⟩) (c6 : PySem.W.codeIn K cd6 "is_tuple_of_moves" = true) (k6 : PySem.W.keepIn K (.ref f6) = true)
    {od7 an7 : Option Addr} {sl7 : Array (Option Value)} {oc7 kV7 dc7 pm7 cd7 ct7 : Value} (a7 : PySem.W.findIn K (.ref CPacer) "__init__" = some (some (.ref f7))) (i7 : PySem.W.isFn K (.ref f7) = true) (l7 : K.lookup f7 = some ⟨oc7, od7, .func (PySem.W.fnOf "__init__" "Pacer.__init__" (defArgs sPacerInit) (defBody sPacerInit) (defScope sPacerInit) .none kV7 dc7 pm7 an7 cd7 ct7), sl7⟩) (c7 : PySem.W.codeIn K cd7 "Pacer.__init__" = true) (k7 : PySem.W.keepIn K (.ref f7) = true)
    {od8 an8 : Option Addr} {sl8 : Array (Option Value)} {oc8 kV8 dc8 pm8 cd8 ct8 : Value} (a8 : PySem.W.findIn K (.ref CPacer) "__eq__" = some (some (.ref f8))) (i8 : PySem.W.isFn K (.ref f8) = true) (l8 : K.lookup f8 = some ⟨oc8, od8, .func (PySem.W.fnOf "__eq__" "Pacer.__eq__" (defArgs sPacerEq) (defBody sPacerEq) (defScope sPacerEq) .none kV8 dc8 pm8 an8 cd8 ct8), sl8⟩) (c8 : PySem.W.codeIn K cd8 "Pacer.__eq__" = true) (k8 : PySem.W.keepIn K (.ref f8) = true)
    {od9 an9 : Option Addr} {sl9 : Array (Option Value)} {oc9 kV9 dc9 pm9 cd9 ct9 : Value} (a9 : PySem.W.nsIn K mainGlobals "moves_by_state" = some (some (.ref f9))) (l9 : K.lookup f9 = some ⟨oc9, od9, .func (PySem.W.fnOf "moves_by_state" "moves_by_state" (defArgs sMovesByState) (defBody sMovesByState) (defScope sMovesByState) .none kV9 dc9 pm9 an9 cd9 ct9), sl9⟩) (c9 : PySem.W.codeIn K cd9 "moves_by_state" = true) (k9 : PySem.W.keepIn K (.ref f9) = true)
    {od10 an10 : Option Addr} {sl10 : Array (Option Value)} {oc10 kV10 dc10 pm10 cd10 ct10 : Value} (a10 : PySem.W.nsIn K mainGlobals "places_met" = some (some (.ref f10))) (l10 : K.lookup f10 = some ⟨oc10, od10, .func (PySem.W.fnOf "places_met" "places_met" (defArgs sPlacesMet) (defBody sPlacesMet) (defScope sPlacesMet) .none kV10 dc10 pm10 an10 cd10 ct10), sl10⟩) (c10 : PySem.W.codeIn K cd10 "places_met" = true) (k10 : PySem.W.keepIn K (.ref f10) = true)
    {od11 an11 : Option Addr} {sl11 : Array (Option Value)} {oc11 kV11 dc11 pm11 cd11 ct11 : Value} (a11 : PySem.W.findIn K (.ref CPacer) "tells" = some (some (.ref f11))) (i11 : PySem.W.isFn K (.ref f11) = true) (l11 : K.lookup f11 = some ⟨oc11, od11, .func (PySem.W.fnOf "tells" "Pacer.tells" (defArgs sPacerTells) (defBody sPacerTells) (defScope sPacerTells) .none kV11 dc11 pm11 an11 cd11 ct11), sl11⟩) (c11 : PySem.W.codeIn K cd11 "Pacer.tells" = true) (k11 : PySem.W.keepIn K (.ref f11) = true)
    {od12 an12 : Option Addr} {sl12 : Array (Option Value)} {oc12 kV12 dc12 pm12 cd12 ct12 : Value} (a12 : PySem.W.nsIn K mainGlobals "states_behind" = some (some (.ref f12))) (l12 : K.lookup f12 = some ⟨oc12, od12, .func (PySem.W.fnOf "states_behind" "states_behind" (defArgs sStatesBehind) (defBody sStatesBehind) (defScope sStatesBehind) .none kV12 dc12 pm12 an12 cd12 ct12), sl12⟩) (c12 : PySem.W.codeIn K cd12 "states_behind" = true) (k12 : PySem.W.keepIn K (.ref f12) = true)
    {od13 an13 : Option Addr} {sl13 : Array (Option Value)} {oc13 kV13 dc13 pm13 cd13 ct13 : Value} (a13 : PySem.W.nsIn K mainGlobals "moves_behind" = some (some (.ref f13))) (l13 : K.lookup f13 = some ⟨oc13, od13, .func (PySem.W.fnOf "moves_behind" "moves_behind" (defArgs sMovesBehind) (defBody sMovesBehind) (defScope sMovesBehind) .none kV13 dc13 pm13 an13 cd13 ct13), sl13⟩) (c13 : PySem.W.codeIn K cd13 "moves_behind" = true) (k13 : PySem.W.keepIn K (.ref f13) = true)
    {od14 an14 : Option Addr} {sl14 : Array (Option Value)} {oc14 kV14 dc14 pm14 cd14 ct14 : Value} (a14 : PySem.W.findIn K (.ref CPacer) "__or__" = some (some (.ref f14))) (i14 : PySem.W.isFn K (.ref f14) = true) (l14 : K.lookup f14 = some ⟨oc14, od14, .func (PySem.W.fnOf "__or__" "Pacer.__or__" (defArgs sPacerOr) (defBody sPacerOr) (defScope sPacerOr) .none kV14 dc14 pm14 an14 cd14 ct14), sl14⟩) (c14 : PySem.W.codeIn K cd14 "Pacer.__or__" = true) (k14 : PySem.W.keepIn K (.ref f14) = true)
    {od15 an15 : Option Addr} {sl15 : Array (Option Value)} {oc15 kV15 dc15 pm15 cd15 ct15 : Value} (a15 : PySem.W.findIn K (.ref CPacer) "__add__" = some (some (.ref f15))) (i15 : PySem.W.isFn K (.ref f15) = true) (l15 : K.lookup f15 = some ⟨oc15, od15, .func (PySem.W.fnOf "__add__" "Pacer.__add__" (defArgs sPacerAdd) (defBody sPacerAdd) (defScope sPacerAdd) .none kV15 dc15 pm15 an15 cd15 ct15), sl15⟩) (c15 : PySem.W.codeIn K cd15 "Pacer.__add__" = true) (k15 : PySem.W.keepIn K (.ref f15) = true)
    {od16 an16 : Option Addr} {sl16 : Array (Option Value)} {oc16 kV16 dc16 pm16 cd16 ct16 : Value} (a16 : PySem.W.nsIn K mainGlobals "_law_deck" = some (some (.ref f16))) (l16 : K.lookup f16 = some ⟨oc16, od16, .func (PySem.W.fnOf "_law_deck" "_law_deck" (defArgs sDeck) (defBody sDeck) (defScope sDeck) .none kV16 dc16 pm16 an16 cd16 ct16), sl16⟩) (c16 : PySem.W.codeIn K cd16 "_law_deck" = true) (k16 : PySem.W.keepIn K (.ref f16) = true)
    {od17 an17 : Option Addr} {sl17 : Array (Option Value)} {oc17 kV17 dc17 pm17 cd17 ct17 : Value} (a17 : PySem.W.nsIn K mainGlobals "_law_draw" = some (some (.ref f17))) (l17 : K.lookup f17 = some ⟨oc17, od17, .func (PySem.W.fnOf "_law_draw" "_law_draw" (defArgs sDraw) (defBody sDraw) (defScope sDraw) .none kV17 dc17 pm17 an17 cd17 ct17), sl17⟩) (c17 : PySem.W.codeIn K cd17 "_law_draw" = true) (k17 : PySem.W.keepIn K (.ref f17) = true)
    {od18 an18 : Option Addr} {sl18 : Array (Option Value)} {oc18 kV18 dc18 pm18 cd18 ct18 : Value} (a18 : PySem.W.nsIn K mainGlobals "_law_pick" = some (some (.ref f18))) (l18 : K.lookup f18 = some ⟨oc18, od18, .func (PySem.W.fnOf "_law_pick" "_law_pick" (defArgs sPick) (defBody sPick) (defScope sPick) .none kV18 dc18 pm18 an18 cd18 ct18), sl18⟩) (c18 : PySem.W.codeIn K cd18 "_law_pick" = true) (k18 : PySem.W.keepIn K (.ref f18) = true)
    {od19 an19 : Option Addr} {sl19 : Array (Option Value)} {oc19 kV19 dc19 pm19 cd19 ct19 : Value} (a19 : PySem.W.nsIn K mainGlobals "_law_word" = some (some (.ref f19))) (l19 : K.lookup f19 = some ⟨oc19, od19, .func (PySem.W.fnOf "_law_word" "_law_word" (defArgs sLWord) (defBody sLWord) (defScope sLWord) .none kV19 dc19 pm19 an19 cd19 ct19), sl19⟩) (c19 : PySem.W.codeIn K cd19 "_law_word" = true) (k19 : PySem.W.keepIn K (.ref f19) = true)
    {od20 an20 : Option Addr} {sl20 : Array (Option Value)} {oc20 kV20 dc20 pm20 cd20 ct20 : Value} (a20 : PySem.W.nsIn K mainGlobals "_law_plan" = some (some (.ref f20))) (l20 : K.lookup f20 = some ⟨oc20, od20, .func (PySem.W.fnOf "_law_plan" "_law_plan" (defArgs sLPlan) (defBody sLPlan) (defScope sLPlan) .none kV20 dc20 pm20 an20 cd20 ct20), sl20⟩) (c20 : PySem.W.codeIn K cd20 "_law_plan" = true) (k20 : PySem.W.keepIn K (.ref f20) = true)
    {od21 an21 : Option Addr} {sl21 : Array (Option Value)} {oc21 kV21 dc21 pm21 cd21 ct21 : Value} (a21 : PySem.W.nsIn K mainGlobals "_law_code" = some (some (.ref f21))) (l21 : K.lookup f21 = some ⟨oc21, od21, .func (PySem.W.fnOf "_law_code" "_law_code" (defArgs sLCode) (defBody sLCode) (defScope sLCode) .none kV21 dc21 pm21 an21 cd21 ct21), sl21⟩) (c21 : PySem.W.codeIn K cd21 "_law_code" = true) (k21 : PySem.W.keepIn K (.ref f21) = true)
    {od22 an22 : Option Addr} {sl22 : Array (Option Value)} {oc22 kV22 dc22 pm22 cd22 ct22 : Value} (a22 : PySem.W.nsIn K mainGlobals "_law_told" = some (some (.ref f22))) (l22 : K.lookup f22 = some ⟨oc22, od22, .func (PySem.W.fnOf "_law_told" "_law_told" (defArgs sLTold) (defBody sLTold) (defScope sLTold) .none kV22 dc22 pm22 an22 cd22 ct22), sl22⟩) (c22 : PySem.W.codeIn K cd22 "_law_told" = true) (k22 : PySem.W.keepIn K (.ref f22) = true)
    {od23 an23 : Option Addr} {sl23 : Array (Option Value)} {oc23 kV23 dc23 pm23 cd23 ct23 : Value} (a23 : PySem.W.nsIn K mainGlobals "_law_texts" = some (some (.ref f23))) (l23 : K.lookup f23 = some ⟨oc23, od23, .func (PySem.W.fnOf "_law_texts" "_law_texts" (defArgs sLTexts) (defBody sLTexts) (defScope sLTexts) .none kV23 dc23 pm23 an23 cd23 ct23), sl23⟩) (c23 : PySem.W.codeIn K cd23 "_law_texts" = true) (k23 : PySem.W.keepIn K (.ref f23) = true)
    {od24 an24 : Option Addr} {sl24 : Array (Option Value)} {oc24 kV24 dc24 pm24 cd24 ct24 : Value} (a24 : PySem.W.nsIn K mainGlobals "_law_shown" = some (some (.ref f24))) (l24 : K.lookup f24 = some ⟨oc24, od24, .func (PySem.W.fnOf "_law_shown" "_law_shown" (defArgs sLShown) (defBody sLShown) (defScope sLShown) .none kV24 dc24 pm24 an24 cd24 ct24), sl24⟩) (c24 : PySem.W.codeIn K cd24 "_law_shown" = true) (k24 : PySem.W.keepIn K (.ref f24) = true)
    {od25 an25 : Option Addr} {sl25 : Array (Option Value)} {oc25 kV25 dc25 pm25 cd25 ct25 : Value} (a25 : PySem.W.nsIn K mainGlobals "_law_plain" = some (some (.ref f25))) (l25 : K.lookup f25 = some ⟨oc25, od25, .func (PySem.W.fnOf "_law_plain" "_law_plain" (defArgs sLPlain) (defBody sLPlain) (defScope sLPlain) .none kV25 dc25 pm25 an25 cd25 ct25), sl25⟩) (c25 : PySem.W.codeIn K cd25 "_law_plain" = true) (k25 : PySem.W.keepIn K (.ref f25) = true)
    {od26 an26 : Option Addr} {sl26 : Array (Option Value)} {oc26 kV26 dc26 pm26 cd26 ct26 : Value} (a26 : PySem.W.nsIn K mainGlobals "_law_moved" = some (some (.ref f26))) (l26 : K.lookup f26 = some ⟨oc26, od26, .func (PySem.W.fnOf "_law_moved" "_law_moved" (defArgs sLMoved) (defBody sLMoved) (defScope sLMoved) .none kV26 dc26 pm26 an26 cd26 ct26), sl26⟩) (c26 : PySem.W.codeIn K cd26 "_law_moved" = true) (k26 : PySem.W.keepIn K (.ref f26) = true)
    {od27 an27 : Option Addr} {sl27 : Array (Option Value)} {oc27 kV27 dc27 pm27 cd27 ct27 : Value} (a27 : PySem.W.nsIn K mainGlobals "_law_either" = some (some (.ref f27))) (l27 : K.lookup f27 = some ⟨oc27, od27, .func (PySem.W.fnOf "_law_either" "_law_either" (defArgs sLEither) (defBody sLEither) (defScope sLEither) .none kV27 dc27 pm27 an27 cd27 ct27), sl27⟩) (c27 : PySem.W.codeIn K cd27 "_law_either" = true) (k27 : PySem.W.keepIn K (.ref f27) = true)
    {od28 an28 : Option Addr} {sl28 : Array (Option Value)} {oc28 kV28 dc28 pm28 cd28 ct28 : Value} (a28 : PySem.W.nsIn K mainGlobals "_law_behind" = some (some (.ref f28))) (l28 : K.lookup f28 = some ⟨oc28, od28, .func (PySem.W.fnOf "_law_behind" "_law_behind" (defArgs sLBehind) (defBody sLBehind) (defScope sLBehind) .none kV28 dc28 pm28 an28 cd28 ct28), sl28⟩) (c28 : PySem.W.codeIn K cd28 "_law_behind" = true) (k28 : PySem.W.keepIn K (.ref f28) = true)
    {od29 an29 : Option Addr} {sl29 : Array (Option Value)} {oc29 kV29 dc29 pm29 cd29 ct29 : Value} (a29 : PySem.W.nsIn K mainGlobals "_law_cuts" = some (some (.ref f29))) (l29 : K.lookup f29 = some ⟨oc29, od29, .func (PySem.W.fnOf "_law_cuts" "_law_cuts" (defArgs sLCuts) (defBody sLCuts) (defScope sLCuts) .none kV29 dc29 pm29 an29 cd29 ct29), sl29⟩) (c29 : PySem.W.codeIn K cd29 "_law_cuts" = true) (k29 : PySem.W.keepIn K (.ref f29) = true)
    {od30 an30 : Option Addr} {sl30 : Array (Option Value)} {oc30 kV30 dc30 pm30 cd30 ct30 : Value} (a30 : PySem.W.nsIn K mainGlobals "_law_right" = some (some (.ref f30))) (l30 : K.lookup f30 = some ⟨oc30, od30, .func (PySem.W.fnOf "_law_right" "_law_right" (defArgs sLRight) (defBody sLRight) (defScope sLRight) .none kV30 dc30 pm30 an30 cd30 ct30), sl30⟩) (c30 : PySem.W.codeIn K cd30 "_law_right" = true) (k30 : PySem.W.keepIn K (.ref f30) = true)
    {od31 an31 : Option Addr} {sl31 : Array (Option Value)} {oc31 kV31 dc31 pm31 cd31 ct31 : Value} (a31 : PySem.W.nsIn K mainGlobals "law" = some (some (.ref f31))) (l31 : K.lookup f31 = some ⟨oc31, od31, .func (PySem.W.fnOf "law" "law" (defArgs sLaw) (defBody sLaw) (defScope sLaw) .none kV31 dc31 pm31 an31 cd31 ct31), sl31⟩) (c31 : PySem.W.codeIn K cd31 "law" = true) (k31 : PySem.W.keepIn K (.ref f31) = true)
    (pg : PySem.W.plainGet K CPacer Str.empty = true)
    (hd : PySem.W.hasDictIn K CPacer = true)
    (po : PySem.W.plainOver K CPacer = true)
    (sa : PySem.W.findIn K (.ref CPacer) "__setattr__" = some (some (.builtin "object.__setattr__")))
    (mk : PySem.W.makesIn K CPacer = true)
    (kc : PySem.W.keepIn K (.ref CPacer) = true)
    (nS : PySem.W.findIn K (.ref CPacer) "size" = some none)
    (nB : PySem.W.findIn K (.ref CPacer) "begins" = some none)
    (nM : PySem.W.findIn K (.ref CPacer) "moves" = some none)
    (nE : PySem.W.findIn K (.ref CPacer) "ends" = some none)
    (ob : PySem.W.mroIn K CPacer (.type "object") = some true)
    (cA : PySem.W.findIn K (.ref CPacer) "__class__" = some (some (.builtin "object.__class__")))
    (cN : PySem.W.specialIn K (.builtin "object.__class__") "__get__" = some (some (.builtin "getset_descriptor.__get__")))
    (cT : PySem.W.takesIn K (.builtin "object.__class__") = some true)
    (sf : PySem.W.selfFirst K CPacer = true)
    (z_all : PySem.W.nsIn K mainGlobals "all" = some none)
    (z_isinstance : PySem.W.nsIn K mainGlobals "isinstance" = some none)
    (z_int : PySem.W.nsIn K mainGlobals "int" = some none)
    (z_bool : PySem.W.nsIn K mainGlobals "bool" = some none)
    (z_str : PySem.W.nsIn K mainGlobals "str" = some none)
    (z_tuple : PySem.W.nsIn K mainGlobals "tuple" = some none)
    (z_zip : PySem.W.nsIn K mainGlobals "zip" = some none)
    (z_len : PySem.W.nsIn K mainGlobals "len" = some none)
    (z_any : PySem.W.nsIn K mainGlobals "any" = some none)
    (z_range : PySem.W.nsIn K mainGlobals "range" = some none)
    (z_list : PySem.W.nsIn K mainGlobals "list" = some none)
    (z_sum : PySem.W.nsIn K mainGlobals "sum" = some none)
    (z_repr : PySem.W.nsIn K mainGlobals "repr" = some none)
    (z_ames : PySem.W.nsIn K mainGlobals "ames" = some none)
    (zLETTERS : PySem.W.nsIn K mainGlobals "LETTERS" = some (some (.str "abcdefghijklmnopqrstuvwxyz" tLETTERS))) :
    ∃ fd : FuncData, (∀ (s : Shared) (v : Value), BindsTo s fd ⟨[v], []⟩ [("_law_script", v)]) ∧ ∀ base : Heap, K.In base → base.Ns mainGlobals mg → FnG l.prog w K mg base 10 fa fd ["_law_script"] (spLaw K) := by
  have e := hfa.symm.trans (PySem.W.mg_of X G a31)
  cases e
  have F0 := fun_mk (st := sIsText) l0 c0 k0
  have b0 := F0.binds (ps := ["thing"]) fun _ _ _ _ _ _ us hl => match us, hl with | [_], _ => rfl
  have F1 := fun_mk (st := sIsInteger) l1 c1 k1
  have b1 := F1.binds (ps := ["thing"]) fun _ _ _ _ _ _ us hl => match us, hl with | [_], _ => rfl
  have F2 := fun_mk (st := sIsSize) l2 c2 k2
  have b2 := F2.binds (ps := ["thing"]) fun _ _ _ _ _ _ us hl => match us, hl with | [_], _ => rfl
  have F3 := fun_mk (st := sIsState) l3 c3 k3
  have b3 := F3.binds (ps := ["thing", "size"]) fun _ _ _ _ _ _ us hl => match us, hl with | [_, _], _ => rfl
  have F4 := fun_mk (st := sIsTupleOfStates) l4 c4 k4
  have b4 := F4.binds (ps := ["thing", "size"]) fun _ _ _ _ _ _ us hl => match us, hl with | [_, _], _ => rfl
  have F5 := fun_mk (st := sIsMove) l5 c5 k5
  have b5 := F5.binds (ps := ["thing", "size"]) fun _ _ _ _ _ _ us hl => match us, hl with | [_, _], _ => rfl
  have F6 := fun_mk (st := sIsTupleOfMoves) l6 c6 k6
  have b6 := F6.binds (ps := ["thing", "size"]) fun _ _ _ _ _ _ us hl => match us, hl with | [_, _], _ => rfl
  have F7 := fun_mk (st := sPacerInit) l7 c7 k7
  have b7 := F7.binds (ps := ["self", "size", "begins", "moves", "ends"]) fun _ _ _ _ _ _ us hl => match us, hl with | [_, _, _, _, _], _ => rfl
  have F8 := fun_mk (st := sPacerEq) l8 c8 k8
  have b8 := F8.binds (ps := ["self", "other"]) fun _ _ _ _ _ _ us hl => match us, hl with | [_, _], _ => rfl
  have F9 := fun_mk (st := sMovesByState) l9 c9 k9
  have b9 := F9.binds (ps := ["moves"]) fun _ _ _ _ _ _ us hl => match us, hl with | [_], _ => rfl
  have F10 := fun_mk (st := sPlacesMet) l10 c10 k10
  have b10 := F10.binds (ps := ["pacer", "left", "right"]) fun _ _ _ _ _ _ us hl => match us, hl with | [_, _, _], _ => rfl
  have F11 := fun_mk (st := sPacerTells) l11 c11 k11
  have b11 := F11.binds (ps := ["self", "left", "right"]) fun _ _ _ _ _ _ us hl => match us, hl with | [_, _, _], _ => rfl
  have F12 := fun_mk (st := sStatesBehind) l12 c12 k12
  have b12 := F12.binds (ps := ["size", "states"]) fun _ _ _ _ _ _ us hl => match us, hl with | [_, _], _ => rfl
  have F13 := fun_mk (st := sMovesBehind) l13 c13 k13
  have b13 := F13.binds (ps := ["size", "moves"]) fun _ _ _ _ _ _ us hl => match us, hl with | [_, _], _ => rfl
  have F14 := fun_mk (st := sPacerOr) l14 c14 k14
  have b14 := F14.binds (ps := ["self", "other"]) fun _ _ _ _ _ _ us hl => match us, hl with | [_, _], _ => rfl
  have F15 := fun_mk (st := sPacerAdd) l15 c15 k15
  have b15 := F15.binds (ps := ["self", "other"]) fun _ _ _ _ _ _ us hl => match us, hl with | [_, _], _ => rfl
  have F16 := fun_mk (st := sDeck) l16 c16 k16
  have b16 := F16.binds (ps := ["_law_script"]) fun _ _ _ _ _ _ us hl => match us, hl with | [_], _ => rfl
  have F17 := fun_mk (st := sDraw) l17 c17 k17
  have b17 := F17.binds (ps := ["_law_deck_here", "_law_below"]) fun _ _ _ _ _ _ us hl => match us, hl with | [_, _], _ => rfl
  have F18 := fun_mk (st := sPick) l18 c18 k18
  have b18 := F18.binds (ps := ["_law_deck_here", "_law_some"]) fun _ _ _ _ _ _ us hl => match us, hl with | [_, _], _ => rfl
  have F19 := fun_mk (st := sLWord) l19 c19 k19
  have b19 := F19.binds (ps := ["_law_deck_here", "_law_signs", "_law_top"]) fun _ _ _ _ _ _ us hl => match us, hl with | [_, _, _], _ => rfl
  have F20 := fun_mk (st := sLPlan) l20 c20 k20
  have b20 := F20.binds (ps := ["_law_deck_here", "_law_top", "_law_many", "_law_long"]) fun _ _ _ _ _ _ us hl => match us, hl with | [_, _, _, _], _ => rfl
  have F21 := fun_mk (st := sLCode) l21 c21 k21
  have b21 := F21.binds (ps := ["_law_w"]) fun _ _ _ _ _ _ us hl => match us, hl with | [_], _ => rfl
  have F22 := fun_mk (st := sLTold) l22 c22 k22
  have b22 := F22.binds (ps := ["_law_w", "_law_x", "_law_y"]) fun _ _ _ _ _ _ us hl => match us, hl with | [_, _, _], _ => rfl
  have F23 := fun_mk (st := sLTexts) l23 c23 k23
  have b23 := F23.binds (ps := ["_law_signs", "_law_top"]) fun _ _ _ _ _ _ us hl => match us, hl with | [_, _], _ => rfl
  have F24 := fun_mk (st := sLShown) l24 c24 k24
  have b24 := F24.binds (ps := ["_law_it"]) fun _ _ _ _ _ _ us hl => match us, hl with | [_], _ => rfl
  have F25 := fun_mk (st := sLPlain) l25 c25 k25
  have b25 := F25.binds (ps := ["_law_w"]) fun _ _ _ _ _ _ us hl => match us, hl with | [_], _ => rfl
  have F26 := fun_mk (st := sLMoved) l26 c26 k26
  have b26 := F26.binds (ps := ["_law_w", "_law_by"]) fun _ _ _ _ _ _ us hl => match us, hl with | [_, _], _ => rfl
  have F27 := fun_mk (st := sLEither) l27 c27 k27
  have b27 := F27.binds (ps := ["_law_w", "_law_v"]) fun _ _ _ _ _ _ us hl => match us, hl with | [_, _], _ => rfl
  have F28 := fun_mk (st := sLBehind) l28 c28 k28
  have b28 := F28.binds (ps := ["_law_w", "_law_v"]) fun _ _ _ _ _ _ us hl => match us, hl with | [_, _], _ => rfl
  have F29 := fun_mk (st := sLCuts) l29 c29 k29
  have b29 := F29.binds (ps := ["_law_w", "_law_v", "_law_x", "_law_y"]) fun _ _ _ _ _ _ us hl => match us, hl with | [_, _, _, _], _ => rfl
  have F30 := fun_mk (st := sLRight) l30 c30 k30
  have b30 := F30.binds (ps := ["_law_w", "_law_v"]) fun _ _ _ _ _ _ us hl => match us, hl with | [_, _], _ => rfl
  have F31 := fun_mk (st := sLaw) l31 c31 k31
  have n_all := PySem.W.mg_none_of X G z_all
  have n_isinstance := PySem.W.mg_none_of X G z_isinstance
  have n_int := PySem.W.mg_none_of X G z_int
  have n_bool := PySem.W.mg_none_of X G z_bool
  have n_str := PySem.W.mg_none_of X G z_str
  have n_tuple := PySem.W.mg_none_of X G z_tuple
  have n_zip := PySem.W.mg_none_of X G z_zip
  have n_len := PySem.W.mg_none_of X G z_len
  have n_any := PySem.W.mg_none_of X G z_any
  have n_range := PySem.W.mg_none_of X G z_range
  have n_list := PySem.W.mg_none_of X G z_list
  have n_sum := PySem.W.mg_none_of X G z_sum
  have n_repr := PySem.W.mg_none_of X G z_repr
  have n_ames := PySem.W.mg_none_of X G z_ames
  have m_LETTERS : StrAt mg "LETTERS" "abcdefghijklmnopqrstuvwxyz" := ⟨tLETTERS, PySem.W.mg_of X G zLETTERS⟩
  have g_Pacer := PySem.W.mg_of X G aPacer
  have kit : PySem.W.kitOne K (.ref CPacer) (.ref CPacer) = some true := by unfold PySem.W.kitOne; rw [if_pos (by simp)]
  have T : PTxt K CPacer := ⟨⟨pg, hd, po, sa⟩, nS, nB, nM, nE⟩
  have hT : ∀ (H : Hp) (a dx : Addr) (fs : List (Str × V)), H a = some (.ins CPacer dx fs) → TyOf K H (.ref a) (.ref CPacer) := fun H a dx fs e => .ins e T.cl cA cN cT ob
  refine ⟨PySem.W.fnOf "law" "law" (defArgs sLaw) (defBody sLaw) (defScope sLaw) .none kV31 dc31 pm31 an31 cd31 ct31, fun s v => .of_eq rfl, fun base _ _ => ?_⟩
  have oIsText := ok_IsText (P := l.prog) (w := w) (base := base) (mg := mg) (k := 0)  F0 n_all n_isinstance n_str m_LETTERS
  have oIsInteger := ok_IsInteger (P := l.prog) (w := w) (base := base) (mg := mg) (k := 0)  F1 n_isinstance n_int n_bool
  have oIsSize := ok_IsSize (P := l.prog) (w := w) (base := base) (mg := mg) (k := 1)  F2 (⟨f1, _, FnOk.mono oIsInteger (by decide), PySem.W.mg_of X G a1, k1, b1⟩ : EL.Cal l.prog w K mg base 1 "is_integer" ["thing"] (spLook K isIntD))
  have oIsState := ok_IsState (P := l.prog) (w := w) (base := base) (mg := mg) (k := 1)  F3 (⟨f1, _, FnOk.mono oIsInteger (by decide), PySem.W.mg_of X G a1, k1, b1⟩ : EL.Cal l.prog w K mg base 1 "is_integer" ["thing"] (spLook K isIntD))
  have oIsTupleOfStates := ok_IsTupleOfStates (P := l.prog) (w := w) (base := base) (mg := mg) (k := 2)  F4 n_isinstance n_tuple n_all n_zip (⟨f3, _, FnOk.mono oIsState (by decide), PySem.W.mg_of X G a3, k3, b3⟩ : EL.Cal l.prog w K mg base 2 "is_state" ["thing", "size"] (spLookN K stateD))
  have oIsMove := ok_IsMove (P := l.prog) (w := w) (base := base) (mg := mg) (k := 2)  F5 n_isinstance n_tuple n_len (⟨f3, _, FnOk.mono oIsState (by decide), PySem.W.mg_of X G a3, k3, b3⟩ : EL.Cal l.prog w K mg base 2 "is_state" ["thing", "size"] (spLookN K stateD)) (⟨f0, _, FnOk.mono oIsText (by decide), PySem.W.mg_of X G a0, k0, b0⟩ : EL.Cal l.prog w K mg base 2 "is_text" ["thing"] (spLook K isTextD))
  have oIsTupleOfMoves := ok_IsTupleOfMoves (P := l.prog) (w := w) (base := base) (mg := mg) (k := 3)  F6 n_isinstance n_tuple n_all (⟨f5, _, FnOk.mono oIsMove (by decide), PySem.W.mg_of X G a5, k5, b5⟩ : EL.Cal l.prog w K mg base 3 "is_move" ["thing", "size"] (spLookN K moveD))
  have oInit := ok_PacerInit (P := l.prog) (w := w) (base := base) (mg := mg) (k := 4)  F7 T (⟨f2, _, FnOk.mono oIsSize (by decide), PySem.W.mg_of X G a2, k2, b2⟩ : EL.Cal l.prog w K mg base 4 "is_size" ["thing"] (spLook K sizeD)) (⟨f6, _, FnOk.mono oIsTupleOfMoves (by decide), PySem.W.mg_of X G a6, k6, b6⟩ : EL.Cal l.prog w K mg base 4 "is_tuple_of_moves" ["thing", "size"] (spLookN K movesD)) (⟨f4, _, FnOk.mono oIsTupleOfStates (by decide), PySem.W.mg_of X G a4, k4, b4⟩ : EL.Cal l.prog w K mg base 4 "is_tuple_of_states" ["thing", "size"] (spLookN K statesD))
  have oEq := ok_PacerEq (P := l.prog) (w := w) (base := base) (mg := mg) (k := 0)  F8 T n_isinstance g_Pacer kit hT
  have oMovesByState := ok_MovesByState (P := l.prog) (w := w) (base := base) (mg := mg) (k := 0)  F9 
  have oPlacesMet := ok_PlacesMet (P := l.prog) (w := w) (base := base) (mg := mg) (k := 1)  F10 T n_len (⟨f9, _, FnOk.mono oMovesByState (by decide), PySem.W.mg_of X G a9, k9, b9⟩ : EL.Cal l.prog w K mg base 1 "moves_by_state" ["moves"] (spByState K))
  have oTells := ok_PacerTells (P := l.prog) (w := w) (base := base) (mg := mg) (k := 2)  F11 T n_any n_len (⟨f10, _, FnOk.mono oPlacesMet (by decide), PySem.W.mg_of X G a10, k10, b10⟩ : EL.Cal l.prog w K mg base 2 "places_met" ["pacer", "left", "right"] (spMet K CPacer))
  have oLDeck := ok_deck (P := l.prog) (w := w) (base := base) (mg := mg) (k := 0)  F16 n_list n_int
  have oLDraw := ok_draw (P := l.prog) (w := w) (base := base) (mg := mg) (k := 0)  F17 n_int
  have oLPick := ok_pick (P := l.prog) (w := w) (base := base) (mg := mg) (k := 0)  F18 n_len (⟨f17, _, FnOk.mono oLDraw (by decide), PySem.W.mg_of X G a17, k17, b17⟩ : EL.Cal l.prog w K mg base 1 "_law_draw" ["_law_deck_here", "_law_below"] spDraw)
  have oLWord := ok_LWord (P := l.prog) (w := w) (base := base) (mg := mg) (k := 2)  F19 n_range (⟨f17, _, FnOk.mono oLDraw (by decide), PySem.W.mg_of X G a17, k17, b17⟩ : EL.Cal l.prog w K mg base 2 "_law_draw" ["_law_deck_here", "_law_below"] spDraw) (⟨f18, _, FnOk.mono oLPick (by decide), PySem.W.mg_of X G a18, k18, b18⟩ : EL.Cal l.prog w K mg base 2 "_law_pick" ["_law_deck_here", "_law_some"] (spPick K))
  have oLPlan := ok_LPlan (P := l.prog) (w := w) (base := base) (mg := mg) (k := 3)  F20 n_range n_tuple (⟨f17, _, FnOk.mono oLDraw (by decide), PySem.W.mg_of X G a17, k17, b17⟩ : EL.Cal l.prog w K mg base 3 "_law_draw" ["_law_deck_here", "_law_below"] spDraw) (⟨f19, _, FnOk.mono oLWord (by decide), PySem.W.mg_of X G a19, k19, b19⟩ : EL.Cal l.prog w K mg base 3 "_law_word" ["_law_deck_here", "_law_signs", "_law_top"] spWord)
  have oLCode := ok_LCode (P := l.prog) (w := w) (base := base) (mg := mg) (k := 5)  F21 n_tuple (⟨f7, _, ⟨mk, a7, i7, kc⟩, FnOk.mono oInit (by decide), g_Pacer, b7⟩ : KP.CalC l.prog w K mg base 5 CPacer)
  have oStatesBehind := ok_StatesBehind (P := l.prog) (w := w) (base := base) (mg := mg) (k := 0)  F12 n_tuple
  have oMovesBehind := ok_MovesBehind (P := l.prog) (w := w) (base := base) (mg := mg) (k := 0)  F13 n_tuple
  have oOr := ok_PacerOr (P := l.prog) (w := w) (base := base) (mg := mg) (k := 5)  F14 T n_tuple (⟨f7, _, ⟨mk, a7, i7, kc⟩, FnOk.mono oInit (by decide), g_Pacer, b7⟩ : KP.CalC l.prog w K mg base 5 CPacer) (⟨f12, _, FnOk.mono oStatesBehind (by decide), PySem.W.mg_of X G a12, k12, b12⟩ : EL.Cal l.prog w K mg base 5 "states_behind" ["size", "states"] (spStatesBehind K)) (⟨f13, _, FnOk.mono oMovesBehind (by decide), PySem.W.mg_of X G a13, k13, b13⟩ : EL.Cal l.prog w K mg base 5 "moves_behind" ["size", "moves"] (spMovesBehind K))
  have oAdd := ok_PacerAdd (P := l.prog) (w := w) (base := base) (mg := mg) (k := 5)  F15 T n_tuple (⟨f7, _, ⟨mk, a7, i7, kc⟩, FnOk.mono oInit (by decide), g_Pacer, b7⟩ : KP.CalC l.prog w K mg base 5 CPacer) (⟨f12, _, FnOk.mono oStatesBehind (by decide), PySem.W.mg_of X G a12, k12, b12⟩ : EL.Cal l.prog w K mg base 5 "states_behind" ["size", "states"] (spStatesBehind K)) (⟨f13, _, FnOk.mono oMovesBehind (by decide), PySem.W.mg_of X G a13, k13, b13⟩ : EL.Cal l.prog w K mg base 5 "moves_behind" ["size", "moves"] (spMovesBehind K))
  have oLTold := ok_LTold (P := l.prog) (w := w) (base := base) (mg := mg) (k := 0)  F22 n_len
  have oLTexts := ok_LTexts (P := l.prog) (w := w) (base := base) (mg := mg) (k := 0)  F23 n_range n_sum n_ames
  have oLShown := ok_LShown (P := l.prog) (w := w) (base := base) (mg := mg) (k := 0)  F24 T
  have oLPlain := ok_LPlain (P := l.prog) (w := w) (base := base) (mg := mg) (k := 0)  F25 n_tuple
  have oLMoved := ok_LMoved (P := l.prog) (w := w) (base := base) (mg := mg) (k := 0)  F26 n_tuple
  have oLEither := ok_LEither (P := l.prog) (w := w) (base := base) (mg := mg) (k := 1)  F27 (⟨f26, _, FnOk.mono oLMoved (by decide), PySem.W.mg_of X G a26, k26, b26⟩ : EL.Cal l.prog w K mg base 1 "_law_moved" ["_law_w", "_law_by"] (spMoved K))
  have oLBehind := ok_LBehind (P := l.prog) (w := w) (base := base) (mg := mg) (k := 1)  F28 (⟨f26, _, FnOk.mono oLMoved (by decide), PySem.W.mg_of X G a26, k26, b26⟩ : EL.Cal l.prog w K mg base 1 "_law_moved" ["_law_w", "_law_by"] (spMoved K))
  have oLCuts := ok_LCuts (P := l.prog) (w := w) (base := base) (mg := mg) (k := 1)  F29 n_range n_len (⟨f22, _, FnOk.mono oLTold (by decide), PySem.W.mg_of X G a22, k22, b22⟩ : EL.Cal l.prog w K mg base 1 "_law_told" ["_law_w", "_law_x", "_law_y"] (spTold K))
  have oLRight := ok_LRight (P := l.prog) (w := w) (base := base) (mg := mg) (k := 7)  F30 T g_Pacer kit hT n_isinstance n_repr (⟨f21, _, FnOk.mono oLCode (by decide), PySem.W.mg_of X G a21, k21, b21⟩ : EL.Cal l.prog w K mg base 7 "_law_code" ["_law_w"] (spCode K CPacer)) (⟨f24, _, FnOk.mono oLShown (by decide), PySem.W.mg_of X G a24, k24, b24⟩ : EL.Cal l.prog w K mg base 7 "_law_shown" ["_law_it"] (spShown K CPacer)) (⟨f25, _, FnOk.mono oLPlain (by decide), PySem.W.mg_of X G a25, k25, b25⟩ : EL.Cal l.prog w K mg base 7 "_law_plain" ["_law_w"] (spPlain K)) (⟨f27, _, FnOk.mono oLEither (by decide), PySem.W.mg_of X G a27, k27, b27⟩ : EL.Cal l.prog w K mg base 7 "_law_either" ["_law_w", "_law_v"] (spEither K Plan.or)) (⟨f28, _, FnOk.mono oLBehind (by decide), PySem.W.mg_of X G a28, k28, b28⟩ : EL.Cal l.prog w K mg base 7 "_law_behind" ["_law_w", "_law_v"] (spEither K Plan.add)) (⟨f23, _, FnOk.mono oLTexts (by decide), PySem.W.mg_of X G a23, k23, b23⟩ : EL.Cal l.prog w K mg base 7 "_law_texts" ["_law_signs", "_law_top"] (spTexts K)) (⟨f22, _, FnOk.mono oLTold (by decide), PySem.W.mg_of X G a22, k22, b22⟩ : EL.Cal l.prog w K mg base 7 "_law_told" ["_law_w", "_law_x", "_law_y"] (spTold K)) (⟨f29, _, FnOk.mono oLCuts (by decide), PySem.W.mg_of X G a29, k29, b29⟩ : EL.Cal l.prog w K mg base 7 "_law_cuts" ["_law_w", "_law_v", "_law_x", "_law_y"] (spCuts K)) (⟨f11, _, FnOk.mono oTells (by decide), ⟨a11, i11, k11⟩, b11⟩ : KP.CalM l.prog w K mg base 7 CPacer "tells" ["self", "left", "right"] (spTells K CPacer)) (⟨f14, _, FnOk.mono oOr (by decide), ⟨a14, i14, k14⟩, b14⟩ : KP.CalM l.prog w K mg base 7 CPacer "__or__" ["self", "other"] (spJoin K CPacer Plan.or)) (⟨f15, _, FnOk.mono oAdd (by decide), ⟨a15, i15, k15⟩, b15⟩ : KP.CalM l.prog w K mg base 7 CPacer "__add__" ["self", "other"] (spJoin K CPacer Plan.add)) ⟨sf, a14, i14⟩ ⟨sf, a15, i15⟩ (⟨f8, _, FnOk.mono oEq (by decide), ⟨a8, i8, k8⟩, b8⟩ : KP.CalM l.prog w K mg base 7 CPacer "__eq__" ["self", "other"] (spEq K CPacer))
  exact ok_Law (P := l.prog) (w := w) (base := base) (mg := mg) (k := 8)  F31 T n_range (⟨f16, _, FnOk.mono oLDeck (by decide), PySem.W.mg_of X G a16, k16, b16⟩ : EL.Cal l.prog w K mg base 8 "_law_deck" ["_law_script"] (spDeck K)) (⟨f20, _, FnOk.mono oLPlan (by decide), PySem.W.mg_of X G a20, k20, b20⟩ : EL.Cal l.prog w K mg base 8 "_law_plan" ["_law_deck_here", "_law_top", "_law_many", "_law_long"] (spPlan K)) (⟨f30, _, gup oLRight (by decide), PySem.W.mg_of X G a30, k30, b30⟩ : EL.CalG l.prog w K mg base 8 "_law_right" ["_law_w", "_law_v"] (spRight K)) (⟨f7, _, ⟨mk, a7, i7, kc⟩, FnOk.mono oInit (by decide), g_Pacer, b7⟩ : KP.CalC l.prog w K mg base 8 CPacer) (⟨f11, _, FnOk.mono oTells (by decide), ⟨a11, i11, k11⟩, b11⟩ : KP.CalM l.prog w K mg base 8 CPacer "tells" ["self", "left", "right"] (spTells K CPacer)) (⟨f14, _, FnOk.mono oOr (by decide), ⟨a14, i14, k14⟩, b14⟩ : KP.CalM l.prog w K mg base 8 CPacer "__or__" ["self", "other"] (spJoin K CPacer Plan.or)) (⟨f15, _, FnOk.mono oAdd (by decide), ⟨a15, i15, k15⟩, b15⟩ : KP.CalM l.prog w K mg base 8 CPacer "__add__" ["self", "other"] (spJoin K CPacer Plan.add)) ⟨sf, a14, i14⟩ ⟨sf, a15, i15⟩
end KP
open PySem PySem.W PyProof.Rows
set_option maxHeartbeats 0 in
theorem PySem.Challenge.cw_evenlead_k06_either_and_behind_holds : PySem.Challenge.rw_evenlead_k06_either_and_behind.Holds := by
  w_on; o_law; k_head; (case hw => w_witness2)
  k_fill
  refine EL.walk_ofG (l := PySem.Challenge.rw_evenlead_k06_either_and_behind) (n := 63) (k := 10) (x := "_law_script") (sp := fun w => KP.spLaw _) rfl (by decide) rfl ⟨rfl, by decide, by decide⟩ (fun w h Y => PySem.W.kIn_of Y) ?F (fun _ _ a ns hl _ hS => ⟨a, ns, rfl, hS, hl, fun _ => rfl⟩)
  case F =>
    intro w mg fa h KX G hmg
    refine' KP.all_mk KX G hmg ?aPacer ?a0 ?l0 ?c0 ?k0 ?a1 ?l1 ?c1 ?k1 ?a2 ?l2 ?c2 ?k2 ?a3 ?l3 ?c3 ?k3 ?a4 ?l4 ?c4 ?k4 ?a5 ?l5 ?c5 ?k5 ?a6 ?l6 ?c6 ?k6 ?a7 ?i7 ?l7 ?c7 ?k7 ?a8 ?i8 ?l8 ?c8 ?k8 ?a9 ?l9 ?c9 ?k9 ?a10 ?l10 ?c10 ?k10 ?a11 ?i11 ?l11 ?c11 ?k11 ?a12 ?l12 ?c12 ?k12 ?a13 ?l13 ?c13 ?k13 ?a14 ?i14 ?l14 ?c14 ?k14 ?a15 ?i15 ?l15 ?c15 ?k15 ?a16 ?l16 ?c16 ?k16 ?a17 ?l17 ?c17 ?k17 ?a18 ?l18 ?c18 ?k18 ?a19 ?l19 ?c19 ?k19 ?a20 ?l20 ?c20 ?k20 ?a21 ?l21 ?c21 ?k21 ?a22 ?l22 ?c22 ?k22 ?a23 ?l23 ?c23 ?k23 ?a24 ?l24 ?c24 ?k24 ?a25 ?l25 ?c25 ?k25 ?a26 ?l26 ?c26 ?k26 ?a27 ?l27 ?c27 ?k27 ?a28 ?l28 ?c28 ?k28 ?a29 ?l29 ?c29 ?k29 ?a30 ?l30 ?c30 ?k30 ?a31 ?l31 ?c31 ?k31 ?pg ?hd ?po ?sa ?mk ?kc ?nS ?nB ?nM ?nE ?ob ?cA ?cN ?cT ?sf ?z_all ?z_isinstance ?z_int ?z_bool ?z_str ?z_tuple ?z_zip ?z_len ?z_any ?z_range ?z_list ?z_sum ?z_repr ?z_ames ?zLETTERS
    (case aPacer => k_is); (case a0 => k_is); (case l0 => k_is); (case c0 => k_is); (case k0 => k_is); (case a1 => k_is); (case l1 => k_is); (case c1 => k_is); (case k1 => k_is); (case a2 => k_is); (case l2 => k_is); (case c2 => k_is); (case k2 => k_is); (case a3 => k_is); (case l3 => k_is); (case c3 => k_is); (case k3 => k_is); (case a4 => k_is); (case l4 => k_is); (case c4 => k_is); (case k4 => k_is); (case a5 => k_is); (case l5 => k_is); (case c5 => k_is); (case k5 => k_is); (case a6 => k_is); (case l6 => k_is); (case c6 => k_is); (case k6 => k_is); (case a7 => k_is); (case i7 => k_is); (case l7 => k_is); (case c7 => k_is); (case k7 => k_is); (case a8 => k_is); (case i8 => k_is); (case l8 => k_is); (case c8 => k_is); (case k8 => k_is); (case a9 => k_is); (case l9 => k_is); (case c9 => k_is); (case k9 => k_is); (case a10 => k_is); (case l10 => k_is); (case c10 => k_is); (case k10 => k_is); (case a11 => k_is); (case i11 => k_is); (case l11 => k_is); (case c11 => k_is); (case k11 => k_is); (case a12 => k_is); (case l12 => k_is); (case c12 => k_is); (case k12 => k_is); (case a13 => k_is); (case l13 => k_is); (case c13 => k_is); (case k13 => k_is); (case a14 => k_is); (case i14 => k_is); (case l14 => k_is); (case c14 => k_is); (case k14 => k_is); (case a15 => k_is); (case i15 => k_is); (case l15 => k_is); (case c15 => k_is); (case k15 => k_is); (case a16 => k_is); (case l16 => k_is); (case c16 => k_is); (case k16 => k_is); (case a17 => k_is); (case l17 => k_is); (case c17 => k_is); (case k17 => k_is); (case a18 => k_is); (case l18 => k_is); (case c18 => k_is); (case k18 => k_is); (case a19 => k_is); (case l19 => k_is); (case c19 => k_is); (case k19 => k_is); (case a20 => k_is); (case l20 => k_is); (case c20 => k_is); (case k20 => k_is); (case a21 => k_is); (case l21 => k_is); (case c21 => k_is); (case k21 => k_is); (case a22 => k_is); (case l22 => k_is); (case c22 => k_is); (case k22 => k_is); (case a23 => k_is); (case l23 => k_is); (case c23 => k_is); (case k23 => k_is); (case a24 => k_is); (case l24 => k_is); (case c24 => k_is); (case k24 => k_is); (case a25 => k_is); (case l25 => k_is); (case c25 => k_is); (case k25 => k_is); (case a26 => k_is); (case l26 => k_is); (case c26 => k_is); (case k26 => k_is); (case a27 => k_is); (case l27 => k_is); (case c27 => k_is); (case k27 => k_is); (case a28 => k_is); (case l28 => k_is); (case c28 => k_is); (case k28 => k_is); (case a29 => k_is); (case l29 => k_is); (case c29 => k_is); (case k29 => k_is); (case a30 => k_is); (case l30 => k_is); (case c30 => k_is); (case k30 => k_is); (case a31 => k_is); (case l31 => k_is); (case c31 => k_is); (case k31 => k_is); (case pg => k_is); (case hd => k_is); (case po => k_is); (case sa => k_is); (case mk => k_is); (case kc => k_is); (case nS => k_is); (case nB => k_is); (case nM => k_is); (case nE => k_is); (case ob => k_is); (case cA => k_is); (case cN => k_is); (case cT => k_is); (case sf => k_is); (case z_all => k_is); (case z_isinstance => k_is); (case z_int => k_is); (case z_bool => k_is); (case z_str => k_is); (case z_tuple => k_is); (case z_zip => k_is); (case z_len => k_is); (case z_any => k_is); (case z_range => k_is); (case z_list => k_is); (case z_sum => k_is); (case z_repr => k_is); (case z_ames => k_is); (case zLETTERS => k_is)
