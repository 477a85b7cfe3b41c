import PyProof.Rows.All
import HandS.ForMost
import HandS.TupAny
import HandS.Flow
import HandS.IsInst
import HandS.Wide
import HandS.Walk
import HandS.Zip
import HandS.Deep
import KE.LtData
import HandS.ListItems
import HandS.DictComp
import HandS.Words
import HandS.Text
import PySem.Challenge.RW_unlikekeys_k70_histories_of_any_value
import HandS.Star
import KE.SortData
import HandS.Sort
import KE.GoesEnum
import HandS.Strs
import HandS.SetKeys
import HandS.OwnEq
import HandS.Style
import HandS.Ends
import HandS.FStr
import HandS.RaiseMore
import HandS.SetTxt0
import HandS.SetFor
import HandS.Set
import HandS.NoneIn
import HandS.CallLocal
import HandS.Remove
import HandS.More
import PyProof.SeqRoads2
import PyProof.DictUpdate
import HandS.Small
set_option Elab.async false
set_option linter.all false
set_option maxRecDepth 100000
/-! Values without a heap over the hand layer: W, the cells that change (M), judgements by what is wanted behind. -/
namespace Dv
open PySem L2

/-- a value: plain data with tuples, and references (lists, dicts, instances, the script) -/
inductive W where
  | non | bl (b : Bool) | int (i : Int) | str (x : Str) | tup (ws : List W) | m (a : Addr)
  /-- a list that is written no more; a dict of texts that is written no more (its keys, its values) -/
  | fl (ws : List W) | fd (ks : List Str) (ws : List W)
/-- what a cell holds -/
inductive C where
  | lst (ws : List W)
  | dic (kvs : List (Key × W))
  | ins (Cl : Addr) (fs : List (Str × W))
abbrev Mu := Addr → Option C
def setM (mu : Mu) (a : Addr) (c : C) : Mu := fun b => if b = a then some c else mu b
theorem setM_same {mu : Mu} {a : Addr} {c : C} : setM mu a c a = some c := by unfold setM; rw [if_pos rfl]
theorem setM_ne {mu : Mu} {a b : Addr} {c : C} (h : b ≠ a) : setM mu a c b = mu b := by unfold setM; rw [if_neg h]
theorem setM_set {mu : Mu} {a : Addr} {c d : C} : setM (setM mu a c) a d = setM mu a d := by
  funext b; unfold setM; split <;> rfl

section
variable (K : PySem.W.Frag) (H : Hp)
mutual
def Den : W → V → Prop
  | .non, v => v = .non
  | .bl b, v => v = .bl b
  | .int i, v => v = .int i
  | .str x, v => v = .str x
  | .m a, v => v = .ref a
  | .tup ws, v => ∃ a xs, v = .ref a ∧ SqT K H a xs ∧ DenAll ws xs
  | .fl ws, v => ∃ a o xs, v = .ref a ∧ H a = some (.frz o (.lst xs)) ∧ DenAll ws xs
  | .fd ks ws, v => ∃ a o kvs, v = .ref a ∧ H a = some (.frz o (.dK kvs)) ∧ kvs.map (·.1) = ks.map Sum.inr ∧ DenAll ws (kvs.map (·.2))
def DenAll : List W → List V → Prop
  | [], xs => xs = []
  | w :: ws, xs => ∃ v vs, xs = v :: vs ∧ Den w v ∧ DenAll ws vs
end
def CellOk (a : Addr) : C → Prop
  | .lst ws => ∃ xs, H a = some (.lst xs) ∧ DenAll K H ws xs
  | .dic kvs => ∃ vs, H a = some (.dK vs) ∧ kvs.map (·.1) = vs.map (·.1) ∧ DenAll K H (kvs.map (·.2)) (vs.map (·.2))
  | .ins Cl fs => ∃ dx vs, H a = some (.ins Cl dx vs) ∧ fs.map (·.1) = vs.map (·.1) ∧ DenAll K H (fs.map (·.2)) (vs.map (·.2))
def HM (mu : Mu) : Prop := ∀ a c, mu a = some c → CellOk K H a c
def DenG (G : List (Option W)) (σ : St) : Prop := G.length = σ.length ∧ ∀ (i : Nat) (w : W), G[i]? = some (some w) → ∃ v, σ[i]? = some (some v) ∧ Den K H w v
end

section
variable {K : PySem.W.Frag} {H H' H'' : Hp} {mu mu' mu'' : Mu}
/-- what stays as it was: tuples, frozen things -/
structure Kps (K : PySem.W.Frag) (H H' : Hp) : Prop where
  sq : ∀ a xs, SqT K H a xs → SqT K H' a xs
  fz : ∀ a o u, H a = some (.frz o u) → H' a = some (.frz o u)
mutual
theorem Den.mono (h : Kps K H H') : ∀ (w : W) {v : V}, Den K H w v → Den K H' w v
  | .non, _, e => e
  | .bl _, _, e => e
  | .int _, _, e => e
  | .str _, _, e => e
  | .m _, _, e => e
  | .tup ws, _, ⟨a, xs, e, s, d⟩ => ⟨a, xs, e, h.sq a xs s, DenAll.mono h ws d⟩
  | .fl ws, _, ⟨a, o, xs, e, s, d⟩ => ⟨a, o, xs, e, h.fz a _ _ s, DenAll.mono h ws d⟩
  | .fd ks ws, _, ⟨a, o, xs, e, s, k, d⟩ => ⟨a, o, xs, e, h.fz a _ _ s, k, DenAll.mono h ws d⟩
theorem DenAll.mono (h : Kps K H H') : ∀ (ws : List W) {vs : List V}, DenAll K H ws vs → DenAll K H' ws vs
  | [], _, e => e
  | w :: ws, _, ⟨v, vs, e, d, r⟩ => ⟨v, vs, e, Den.mono h w d, DenAll.mono h ws r⟩
end
theorem DenAll.length : ∀ {ws : List W} {vs : List V}, DenAll K H ws vs → ws.length = vs.length
  | [], _, e => by have e : _ = _ := e; subst e; rfl
  | w :: ws, _, ⟨v, vs, e, d, r⟩ => by subst e; simp [DenAll.length r]
theorem DenAll.get : ∀ {ws : List W} {vs : List V} {i : Nat} {v : V}, DenAll K H ws vs → vs[i]? = some v → ∃ w, ws[i]? = some w ∧ Den K H w v
  | [], _, i, v, e, h => by have e : _ = _ := e; subst e; simp at h
  | w :: ws, _, 0, v, ⟨v', vs, e, d, r⟩, h => by subst e; simp at h; subst h; exact ⟨w, rfl, d⟩
  | w :: ws, _, i + 1, v, ⟨v', vs, e, d, r⟩, h => by
    subst e
    obtain ⟨w', h1, h2⟩ := DenAll.get (i := i) (v := v) r (by simpa using h)
    exact ⟨w', by simpa using h1, h2⟩
theorem DenAll.get' : ∀ {ws : List W} {vs : List V} {i : Nat} {w : W}, DenAll K H ws vs → ws[i]? = some w → ∃ v, vs[i]? = some v ∧ Den K H w v
  | [], _, i, v, e, h => by simp at h
  | w :: ws, _, 0, v, ⟨v', vs, e, d, r⟩, h => by subst e; simp at h; subst h; exact ⟨v', rfl, d⟩
  | w :: ws, _, i + 1, v, ⟨v', vs, e, d, r⟩, h => by
    subst e
    obtain ⟨w', h1, h2⟩ := DenAll.get' (i := i) (w := v) r (by simpa using h)
    exact ⟨w', by simpa using h1, h2⟩
theorem DenAll.append : ∀ {ws ws' : List W} {vs vs' : List V}, DenAll K H ws vs → DenAll K H ws' vs' → DenAll K H (ws ++ ws') (vs ++ vs')
  | [], _, _, _, e, r => by have e : _ = _ := e; subst e; exact r
  | w :: ws, _, _, _, ⟨v, vs, e, d, r⟩, r' => by subst e; exact ⟨v, _, rfl, d, DenAll.append r r'⟩
theorem DenAll.take : ∀ {ws : List W} {vs : List V} (n : Nat), DenAll K H ws vs → DenAll K H (ws.take n) (vs.take n)
  | _, _, 0, _ => by simp [DenAll]
  | [], _, n + 1, e => by have e : _ = _ := e; subst e; simp [DenAll]
  | w :: ws, _, n + 1, ⟨v, vs, e, d, r⟩ => by subst e; exact ⟨v, _, rfl, d, DenAll.take n r⟩
theorem DenAll.drop : ∀ {ws : List W} {vs : List V} (n : Nat), DenAll K H ws vs → DenAll K H (ws.drop n) (vs.drop n)
  | _, _, 0, r => r
  | [], _, n + 1, e => by have e : _ = _ := e; subst e; simp [DenAll]
  | w :: ws, _, n + 1, ⟨v, vs, e, d, r⟩ => by subst e; exact DenAll.drop n r
theorem DenAll.reverse : ∀ {ws : List W} {vs : List V}, DenAll K H ws vs → DenAll K H ws.reverse vs.reverse
  | [], _, e => by have e : _ = _ := e; subst e; rfl
  | w :: ws, _, ⟨v, vs, e, d, r⟩ => by
    subst e
    rw [List.reverse_cons, List.reverse_cons]
    exact DenAll.append (DenAll.reverse r) ⟨v, [], rfl, d, rfl⟩
theorem DenAll.set : ∀ {ws : List W} {vs : List V} (i : Nat) {w : W} {v : V}, DenAll K H ws vs → Den K H w v → DenAll K H (ws.set i w) (vs.set i v)
  | [], _, i, _, _, e, _ => by have e : _ = _ := e; subst e; simp [DenAll]
  | w :: ws, _, 0, _, _, ⟨v, vs, e, d, r⟩, q => by subst e; exact ⟨_, _, rfl, q, r⟩
  | w :: ws, _, i + 1, _, _, ⟨v, vs, e, d, r⟩, q => by subst e; exact ⟨_, _, rfl, d, DenAll.set i r q⟩
theorem DenAll.nil_iff {vs : List V} (d : DenAll K H [] vs) : vs = [] := d

structure Chg (mu : Mu) (H : Hp) (mu' : Mu) (H' : Hp) : Prop where
  keep : ∀ b o, H b = some o → mu b = none → H' b = some o
  old : ∀ b c, mu b = some c → ∃ c', mu' b = some c'
  new : ∀ b o, H b = some o → mu b = none → mu' b = none
theorem Chg.refl : Chg mu H mu H := ⟨fun _ _ h _ => h, fun _ c h => ⟨c, h⟩, fun _ _ _ h => h⟩
theorem Chg.trans (a : Chg mu H mu' H') (b : Chg mu' H' mu'' H'') : Chg mu H mu'' H'' :=
  ⟨fun c o h n => b.keep c o (a.keep c o h n) (a.new c o h n), fun c d h => let ⟨d', e⟩ := a.old c d h; b.old c d' e, fun c o h n => b.new c o (a.keep c o h n) (a.new c o h n)⟩
theorem HM.notup (hm : HM K H mu) {a : Addr} {xs : List V} (h : H a = some (.tup xs)) : mu a = none := by
  cases e : mu a with
  | none => rfl
  | some c =>
    have := hm a c e
    cases c with
    | lst ws => obtain ⟨xs', q, _⟩ := this; rw [h] at q; cases q
    | dic ws => obtain ⟨xs', q, _⟩ := this; rw [h] at q; cases q
    | ins Cl ws => obtain ⟨dx, xs', q, _⟩ := this; rw [h] at q; cases q
theorem HM.nofrz (hm : HM K H mu) {a : Addr} {o : Obj} {u : HO} (h : H a = some (.frz o u)) : mu a = none := by
  cases e : mu a with
  | none => rfl
  | some c =>
    have := hm a c e
    cases c with
    | lst ws => obtain ⟨xs', q, _⟩ := this; rw [h] at q; cases q
    | dic ws => obtain ⟨xs', q, _⟩ := this; rw [h] at q; cases q
    | ins Cl ws => obtain ⟨dx, xs', q, _⟩ := this; rw [h] at q; cases q
theorem Chg.sqt (c : Chg mu H mu' H') (hm : HM K H mu) : ∀ a xs, SqT K H a xs → SqT K H' a xs := fun a xs h => by
  rcases h with (h | ⟨o, h⟩) | h
  · exact .inl (.inl (c.keep _ _ h (hm.notup h)))
  · exact .inl (.inr ⟨o, c.keep _ _ h (hm.nofrz h)⟩)
  · exact .inr h
theorem Chg.kps (c : Chg mu H mu' H') (hm : HM K H mu) : Kps K H H' := ⟨c.sqt hm, fun a o u h => c.keep _ _ h (hm.nofrz h)⟩
theorem Chg.den (c : Chg mu H mu' H') (hm : HM K H mu) {w : W} {v : V} (d : Den K H w v) : Den K H' w v := Den.mono (c.kps hm) w d
theorem Chg.denAll (c : Chg mu H mu' H') (hm : HM K H mu) {w : List W} {v : List V} (d : DenAll K H w v) : DenAll K H' w v := DenAll.mono (c.kps hm) w d
theorem Chg.denG (c : Chg mu H mu' H') (hm : HM K H mu) {G : List (Option W)} {σ : St} (d : DenG K H G σ) : DenG K H' G σ :=
  ⟨d.1, fun i w h => let ⟨v, e, q⟩ := d.2 i w h; ⟨v, e, c.den hm q⟩⟩
theorem HM.dom (hm : HM K H mu) {a : Addr} (h : H a = none) : mu a = none := by
  cases e : mu a with
  | none => rfl
  | some c =>
    have := hm a c e
    cases c with
    | lst ws => obtain ⟨xs', q, _⟩ := this; rw [h] at q; cases q
    | dic ws => obtain ⟨xs', q, _⟩ := this; rw [h] at q; cases q
    | ins Cl ws => obtain ⟨dx, xs', q, _⟩ := this; rw [h] at q; cases q
theorem HM.some (hm : HM K H mu) {a : Addr} {c : C} (h : mu a = some c) : ∃ o, H a = some o := by
  have := hm a c h
  cases c with
  | lst ws => obtain ⟨xs', q, _⟩ := this; exact ⟨_, q⟩
  | dic ws => obtain ⟨xs', q, _⟩ := this; exact ⟨_, q⟩
  | ins Cl ws => obtain ⟨dx, xs', q, _⟩ := this; exact ⟨_, q⟩
theorem CellOk.mono (h : Kps K H H') {a : Addr} {c : C} (hc : CellOk K H a c) (e : H' a = H a) : CellOk K H' a c := by
  cases c with
  | lst ws => obtain ⟨xs, q, d⟩ := hc; exact ⟨xs, e.trans q, DenAll.mono h _ d⟩
  | dic ws => obtain ⟨xs, q, k, d⟩ := hc; exact ⟨xs, e.trans q, k, DenAll.mono h _ d⟩
  | ins Cl ws => obtain ⟨dx, xs, q, k, d⟩ := hc; exact ⟨dx, xs, e.trans q, k, DenAll.mono h _ d⟩
/-- a new untracked-so-far address gets an object that is no cell (a tuple) -/
theorem laid {o : HO} {p : Addr} (hm : HM K H mu) (hp : H p = none) : Chg mu H mu (upd H p o) ∧ HM K (upd H p o) mu := by
  have c : Chg mu H mu (upd H p o) := ⟨fun b o' h _ => by rw [upd_ne (ne_of_none h hp)]; exact h, fun b c h => ⟨c, h⟩, fun _ _ _ h => h⟩
  refine ⟨c, fun a d h => CellOk.mono (c.kps hm) (hm a d h) ?_⟩
  obtain ⟨o', q⟩ := hm.some h
  rw [upd_ne (ne_of_none q hp)]
/-- a new cell -/
theorem laidC {o : HO} {p : Addr} {c : C} (hm : HM K H mu) (hp : H p = none) (hc : ∀ H', Kps K H H' → H' p = some o → CellOk K H' p c) : Chg mu H (setM mu p c) (upd H p o) ∧ HM K (upd H p o) (setM mu p c) := by
  have c1 : Chg mu H (setM mu p c) (upd H p o) := ⟨fun b o' h _ => by rw [upd_ne (ne_of_none h hp)]; exact h,
    fun b d h => by
      by_cases e : b = p
      · subst e; exact ⟨_, setM_same⟩
      · exact ⟨d, by rw [setM_ne e]; exact h⟩, fun b o' h n => by rw [setM_ne (ne_of_none h hp)]; exact n⟩
  refine ⟨c1, fun a d h => ?_⟩
  by_cases e : a = p
  · subst e
    rw [setM_same] at h
    cases h
    exact hc _ (c1.kps hm) upd_same
  · rw [setM_ne e] at h
    exact CellOk.mono (c1.kps hm) (hm a d h) (upd_ne e)
/-- a cell is written -/
theorem wrote {o : HO} {p : Addr} {c c0 : C} (hm : HM K H mu) (hp : mu p = some c0) (hc : ∀ H', Kps K H H' → H' p = some o → CellOk K H' p c) : Chg mu H (setM mu p c) (upd H p o) ∧ HM K (upd H p o) (setM mu p c) := by
  have ne : ∀ b, mu b = none → b ≠ p := fun b n z => by subst z; rw [hp] at n; cases n
  have c1 : Chg mu H (setM mu p c) (upd H p o) := ⟨fun b o' h n => by rw [upd_ne (ne b n)]; exact h,
    fun b d h => by
      by_cases e : b = p
      · subst e; exact ⟨_, setM_same⟩
      · exact ⟨d, by rw [setM_ne e]; exact h⟩, fun b o' h n => by rw [setM_ne (ne b n)]; exact n⟩
  refine ⟨c1, fun a d h => ?_⟩
  by_cases e : a = p
  · subst e
    rw [setM_same] at h
    cases h
    exact hc _ (c1.kps hm) upd_same
  · rw [setM_ne e] at h
    exact CellOk.mono (c1.kps hm) (hm a d h) (upd_ne e)
end

/-! ### the judgements -/
abbrev Gs := List (Option W)
abbrev PW1 := W → Mu → Prop
def Kont (K : PySem.W.Frag) (mu : Mu) (H : Hp) (Post : PW1) (Q : VK) : Prop := ∀ v w mu' H', Post w mu' → Chg mu H mu' H' → Den K H' w v → HM K H' mu' → Q v H'
def KontB (K : PySem.W.Frag) (mu : Mu) (H : Hp) (Post : Bool → Mu → Prop) (Q : Bool → Hp → Prop) : Prop := ∀ b mu' H', Post b mu' → Chg mu H mu' H' → HM K H' mu' → Q b H'
def KontA (K : PySem.W.Frag) (mu : Mu) (H : Hp) (Post : List W → Mu → Prop) (Q : List V → Hp → Prop) : Prop := ∀ vs ws mu' H', Post ws mu' → Chg mu H mu' H' → DenAll K H' ws vs → HM K H' mu' → Q vs H'
structure WE where
  nx : Gs → Mu → Prop
  rt : PW1
  bk : Gs → Mu → Prop := fun _ _ => False
  ct : Gs → Mu → Prop := fun _ _ => False
def KontG (K : PySem.W.Frag) (mu : Mu) (H : Hp) (Post : Gs → Mu → Prop) (Q : St → Hp → Prop) : Prop := ∀ σ G mu' H', Post G mu' → Chg mu H mu' H' → DenG K H' G σ → HM K H' mu' → Q σ H'
structure KontS (K : PySem.W.Frag) (mu : Mu) (H : Hp) (E : WE) (D : Ends) : Prop where
  nx : KontG K mu H E.nx D.nx
  rt : Kont K mu H E.rt D.rt
  bk : KontG K mu H E.bk D.bk
  ct : KontG K mu H E.ct D.ct

section
variable (X : Cx)
def tE (e : Expr) : TE := fun σ H Q => ∀ pins s, Inv X pins σ H s → wpAny (model X.prog X.w) X.A (eval e X.env) (EP X pins σ Q) X.xe s
def tT (e : Expr) : TT := fun σ H Q => ∀ pins s, Inv X pins σ H s → wpAny (model X.prog X.w) X.A (isTrue e X.env (eval e X.env)) (TP X pins σ Q) X.xe s
def tA (es : List Expr) : TA := fun σ H Q => ∀ pos pins s, Inv X pins σ H s → wpAny (model X.prog X.w) X.A (spliced (backTo pos (starEach es X.env))) (AP X pins σ Q) X.xe s
def tS (st : Stmt) : TS := fun D σ H => ∀ pins s, Inv X pins σ H s → wpAny (model X.prog X.w) X.A (exec st X.env) (SP X pins D) X.xe s
def tSs (st : List Stmt) : TS := fun D σ H => ∀ pins s, Inv X pins σ H s → wpAny (model X.prog X.w) X.A (execs st X.env) (SP X pins D) X.xe s
def SE (e : Expr) (G : Gs) (mu : Mu) (Post : PW1) : Prop := ∀ σ H Q, DenG X.K H G σ → HM X.K H mu → Kont X.K mu H Post Q → tE X e σ H Q
def ST (e : Expr) (G : Gs) (mu : Mu) (Post : Bool → Mu → Prop) : Prop := ∀ σ H Q, DenG X.K H G σ → HM X.K H mu → KontB X.K mu H Post Q → tT X e σ H Q
def SA (es : List Expr) (G : Gs) (mu : Mu) (Post : List W → Mu → Prop) : Prop := ∀ σ H Q, DenG X.K H G σ → HM X.K H mu → KontA X.K mu H Post Q → tA X es σ H Q
def SS (st : Stmt) (G : Gs) (mu : Mu) (E : WE) : Prop := ∀ σ H D, DenG X.K H G σ → HM X.K H mu → KontS X.K mu H E D → tS X st D σ H
def SSs (st : List Stmt) (G : Gs) (mu : Mu) (E : WE) : Prop := ∀ σ H D, DenG X.K H G σ → HM X.K H mu → KontS X.K mu H E D → tSs X st D σ H
end
section
variable {X : Cx} {e a b : Expr} {es : List Expr} {st : Stmt} {sts : List Stmt} {G : Gs} {mu mu' : Mu} {H H' : Hp} {σ : St} {K : PySem.W.Frag}
theorem peE : PE X e (tE X e) := ⟨fun pins s _ _ _ I h => h pins s I⟩
theorem ptT : PT X e (tT X e) := ⟨fun pins s _ _ _ I h => h pins s I⟩
theorem paA : PA X es (tA X es) := ⟨fun pos pins s _ _ _ I h => h pos pins s I⟩
theorem psS : PS X st (tS X st) := ⟨fun pins s _ _ _ I h => h pins s I⟩
theorem pssS : PSs X sts (tSs X sts) := ⟨fun pins s _ _ _ I h => h pins s I⟩
theorem SE.mk {t : TE} {Post : PW1} (p : PE X e t) (r : ∀ σ H Q, DenG X.K H G σ → HM X.K H mu → Kont X.K mu H Post Q → t σ H Q) : SE X e G mu Post := fun σ H Q d m k pins s I => p.run pins s σ H Q I (r σ H Q d m k)
theorem ST.mk {t : TT} {Post : Bool → Mu → Prop} (p : PT X e t) (r : ∀ σ H Q, DenG X.K H G σ → HM X.K H mu → KontB X.K mu H Post Q → t σ H Q) : ST X e G mu Post := fun σ H Q d m k pins s I => p.run pins s σ H Q I (r σ H Q d m k)
theorem SA.mk {t : TA} {Post : List W → Mu → Prop} (p : PA X es t) (r : ∀ σ H Q, DenG X.K H G σ → HM X.K H mu → KontA X.K mu H Post Q → t σ H Q) : SA X es G mu Post := fun σ H Q d m k pos pins s I => p.run pos pins s σ H Q I (r σ H Q d m k)
theorem SS.mk {t : TS} {E : WE} (p : PS X st t) (r : ∀ σ H D, DenG X.K H G σ → HM X.K H mu → KontS X.K mu H E D → t D σ H) : SS X st G mu E := fun σ H D d m k pins s I => p.run pins s σ H D I (r σ H D d m k)
theorem SSs.mk {t : TS} {E : WE} (p : PSs X sts t) (r : ∀ σ H D, DenG X.K H G σ → HM X.K H mu → KontS X.K mu H E D → t D σ H) : SSs X sts G mu E := fun σ H D d m k pins s I => p.run pins s σ H D I (r σ H D d m k)
theorem Kont.step {Post : PW1} {Q : VK} (k : Kont K mu H Post Q) (c : Chg mu H mu' H') : Kont K mu' H' Post Q := fun v w m2 H2 p c2 d m => k v w m2 H2 p (c.trans c2) d m
theorem KontB.step {Post : Bool → Mu → Prop} {Q : Bool → Hp → Prop} (k : KontB K mu H Post Q) (c : Chg mu H mu' H') : KontB K mu' H' Post Q := fun w m2 H2 p c2 m => k w m2 H2 p (c.trans c2) m
theorem KontA.step {Post : List W → Mu → Prop} {Q : List V → Hp → Prop} (k : KontA K mu H Post Q) (c : Chg mu H mu' H') : KontA K mu' H' Post Q := fun v w m2 H2 p c2 d m => k v w m2 H2 p (c.trans c2) d m
theorem KontG.step {Post : Gs → Mu → Prop} {Q : St → Hp → Prop} (k : KontG K mu H Post Q) (c : Chg mu H mu' H') : KontG K mu' H' Post Q := fun v w m2 H2 p c2 d m => k v w m2 H2 p (c.trans c2) d m
theorem KontS.step {E : WE} {D : Ends} (k : KontS K mu H E D) (c : Chg mu H mu' H') : KontS K mu' H' E D := ⟨k.nx.step c, k.rt.step c, k.bk.step c, k.ct.step c⟩
theorem Kont.now {Post : PW1} {Q : VK} (k : Kont K mu H Post Q) {w : W} {v : V} (p : Post w mu) (d : Den K H w v) (m : HM K H mu) : Q v H := k v w mu H p Chg.refl d m
/-- a part's end: what comes next, at the state behind it -/
theorem Kont.of {Post : PW1} {Q : VK} (f : ∀ v w mu' H', Post w mu' → Chg mu H mu' H' → Den K H' w v → HM K H' mu' → Q v H') : Kont K mu H Post Q := f
end
end Dv
set_option Elab.async false
set_option linter.all false
set_option maxRecDepth 100000
/-! Rules by values: names, constants, displays, operators, comparisons, tests, statements, loops. -/
namespace Dv
open PySem L2
section
variable {X : Cx} {e a b c : Expr} {es : List Expr} {st : Stmt} {sts : List Stmt} {G : Gs} {mu mu' : Mu} {pos : Pos} {P : PW1}

/-! ### atoms -/
theorem se_var {i : Nat} {x : Str} {w : W} (hG : G[i]? = some (some w)) (h : P w mu) (hN : X.N[i]? = some x := by rfl) (hv : Vis X.env.scope x := by first | exact Or.inl rfl | exact Or.inr (Or.inl rfl) | exact Or.inr (Or.inr rfl))
    (hd : (x == ("__debug__" : Str)) = false := by decide) (hcd : (x == ("__classdict__" : Str)) = false := by decide) : SE X (.Name x pos) G mu P :=
  SE.mk (pe_var hN hv hd hcd) fun σ H Q d m k => let ⟨v, e, q⟩ := d.2 i w hG; ⟨v, e, k.now h q m⟩
theorem se_int {i j} (h : P (.int i) mu) : SE X (.Constant (.int i) j pos) G mu P := SE.mk pe_int fun σ H Q d m k => k.now h rfl m
theorem se_bl {i j} (h : P (.bl i) mu) : SE X (.Constant (.bool i) j pos) G mu P := SE.mk pe_bl fun σ H Q d m k => k.now h rfl m
theorem se_non {j} (h : P .non mu) : SE X (.Constant .none j pos) G mu P := SE.mk pe_non fun σ H Q d m k => k.now h rfl m
theorem se_str {i j} (h : P (.str i) mu) : SE X (.Constant (.str i) j pos) G mu P := SE.mk pe_str fun σ H Q d m k => k.now h rfl m
/-- a module's constant -/
theorem se_glob {x : Str} {w : W} {v : V} {u : Value} (hm : X.mg x = some u) (r : RelV v u) (hw : ∀ K H, Den K H w v) (h : P w mu) (hg : Gl X x := by rfl) (hd : (x == ("__debug__" : Str)) = false := by decide) : SE X (.Name x pos) G mu P :=
  SE.mk (pe_glob hg hm r hd) fun σ H Q d m k => k.now h (hw _ _) m

/-! ### arguments, displays -/
theorem sa_nil {P : List W → Mu → Prop} (h : P [] mu) : SA X [] G mu P := SA.mk pa_nil fun σ H Q d m k => k [] [] mu H h Chg.refl rfl m
theorem sa_cons {P : List W → Mu → Prop} (h : SE X e G mu fun w mu1 => SA X es G mu1 fun ws mu2 => P (w :: ws) mu2) (hs : starEach (e :: es) X.env = (false, eval e X.env) :: starEach es X.env := by rfl) : SA X (e :: es) G mu P :=
  SA.mk (pa_cons peE paA hs) fun σ H Q d m k => h σ H _ d m fun v w mu1 H1 h1 c1 d1 m1 => h1 σ H1 _ (c1.denG m d) m1 fun vs ws mu2 H2 h2 c2 d2 m2 => k _ _ mu2 H2 h2 (c1.trans c2) ⟨v, vs, rfl, c2.den m1 d1, d2⟩ m2
theorem se_tup {x1} (h : SA X es G mu fun ws mu1 => ws.length ≤ sizeLine ∧ P (.tup ws) mu1) : SE X (.Tuple es x1 pos) G mu P :=
  SE.mk (pe_tup paA) fun σ H Q d m k => h σ H _ d m fun vs ws mu1 H1 ⟨hl, h1⟩ c1 d1 m1 => ⟨by rw [← d1.length]; exact hl, fun p hp => by
    obtain ⟨c2, m2⟩ := laid (o := .tup vs) m1 hp
    exact k _ _ mu1 _ h1 (c1.trans c2) ⟨p, vs, rfl, SqT.of upd_same, c2.denAll m1 d1⟩ m2⟩
theorem newLst {K : PySem.W.Frag} {H : Hp} {p : Addr} {vs : List V} {ws : List W} (d : DenAll K H ws vs) : ∀ H', Kps K H H' → H' p = some (.lst vs) → CellOk K H' p (.lst ws) := fun H' st h => ⟨vs, h, DenAll.mono st _ d⟩
theorem se_lst (h : SA X es G mu fun ws mu1 => ws.length ≤ sizeLine ∧ ∀ p, mu1 p = none → P (.m p) (setM mu1 p (.lst ws))) : SE X (.List es pos) G mu P :=
  SE.mk (pe_lst paA) fun σ H Q d m k => h σ H _ d m fun vs ws mu1 H1 ⟨hl, h1⟩ c1 d1 m1 => ⟨by rw [← d1.length]; exact hl, fun p hp => by
    obtain ⟨c2, m2⟩ := laidC (o := .lst vs) (c := .lst ws) m1 hp (newLst d1)
    exact k _ _ _ _ (h1 p (m1.dom hp)) (c1.trans c2) rfl m2⟩

/-! ### operators -/
theorem opr_or {f : Value → Value → Sem Value} {r1 r2 : R2} (h1 : OpR X f r1) (h2 : OpR X f r2) : OpR X f fun x y H Q => r1 x y H Q ∨ r2 x y H Q :=
  fun pins s σ H x y v u Q I rx ry h => h.elim (h1 pins s σ H x y v u Q I rx ry) (h2 pins s σ H x y v u Q I rx ry)
/-- a rule by values of a rule over the heap -/
def OpW (X : Cx) (r : R2) (f : W → W → Mu → PW1 → Prop) : Prop := ∀ w1 w2 x y mu H P Q, Den X.K H w1 x → Den X.K H w2 y → HM X.K H mu → f w1 w2 mu P → Kont X.K mu H P Q → r x y H Q
theorem se_bin {op : Operator} {r : R2} {f : W → W → Mu → PW1 → Prop} (ho : OpR X (binaryOp op) r) (hw : OpW X r f)
    (h : SE X a G mu fun w1 mu1 => SE X b G mu1 fun w2 mu2 => f w1 w2 mu2 P) : SE X (.BinOp a op b pos) G mu P :=
  SE.mk (pe_op ho peE peE) fun σ H Q d m k => h σ H _ d m fun x w1 mu1 H1 h1 c1 d1 m1 => h1 σ H1 _ (c1.denG m d) m1 fun y w2 mu2 H2 h2 c2 d2 m2 =>
    hw _ _ _ _ _ _ _ _ (c2.den m1 d1) d2 m2 h2 (k.step (c1.trans c2))
theorem se_cmp {op : CmpOp} {r : R2} {f : W → W → Mu → PW1 → Prop} (ho : OpR X (compareOp op) r) (hw : OpW X r f) (hb : behindInMarks op b = false)
    (h : SE X a G mu fun w1 mu1 => SE X b G mu1 fun w2 mu2 => f w1 w2 mu2 P) : SE X (.Compare a [op] [b] pos) G mu P :=
  SE.mk (pe_cmpR ho peE peE hb) fun σ H Q d m k => h σ H _ d m fun x w1 mu1 H1 h1 c1 d1 m1 => h1 σ H1 _ (c1.denG m d) m1 fun y w2 mu2 H2 h2 c2 d2 m2 =>
    hw _ _ _ _ _ _ _ _ (c2.den m1 d1) d2 m2 h2 (k.step (c1.trans c2))
/-- a bool as the end of a test -/
abbrev isB (P : Bool → Mu → Prop) : PW1 := fun w mu => match w with | .bl k => P k mu | _ => False
theorem isB_den {K : PySem.W.Frag} {H : Hp} {mu : Mu} {P : Bool → Mu → Prop} {w : W} {v : V} (h : isB P w mu) (d : Den K H w v) : ∃ k, w = .bl k ∧ v = .bl k ∧ P k mu := by
  cases w with
  | bl k => exact ⟨k, rfl, d, h⟩
  | _ => exact h.elim
theorem st_cmp {op : CmpOp} {r : R2} {f : W → W → Mu → PW1 → Prop} {P : Bool → Mu → Prop} (ho : OpR X (compareOp op) r) (hw : OpW X r f) (hb : behindInMarks op b = false)
    (h : SE X a G mu fun w1 mu1 => SE X b G mu1 fun w2 mu2 => f w1 w2 mu2 (isB P)) : ST X (.Compare a [op] [b] pos) G mu P :=
  ST.mk (pt_cmpR ho peE peE hb) fun σ H Q d m k => h σ H _ d m fun x w1 mu1 H1 h1 c1 d1 m1 => h1 σ H1 _ (c1.denG m d) m1 fun y w2 mu2 H2 h2 c2 d2 m2 =>
    hw _ _ _ _ _ _ _ _ (c2.den m1 d1) d2 m2 h2 fun v w mu3 H3 h3 c3 d3 m3 => let ⟨kk, e1, e2, h4⟩ := isB_den h3 d3; ⟨kk, e2, k _ _ _ h4 ((c1.trans c2).trans c3) m3⟩
theorem st_val {P : Bool → Mu → Prop} (h : SE X e G mu (isB P)) (he : ∀ whole, isTrue e X.env whole = (do let v ← whole; standAt e.pos; holding [v] (truthy v)) := by intro _; rfl) : ST X e G mu P :=
  ST.mk (pt_val peE he) fun σ H Q d m k => h σ H _ d m fun v w mu1 H1 h1 c1 d1 m1 => let ⟨kk, e1, e2, h4⟩ := isB_den h1 d1; ⟨kk, e2, k _ _ _ h4 c1 m1⟩
theorem st_not {P : Bool → Mu → Prop} (h : ST X a G mu fun k mu1 => P (!k) mu1) : ST X (.UnaryOp .Not a pos) G mu P :=
  ST.mk (pt_not ptT) fun σ H Q d m k => h σ H _ d m fun b mu1 H1 h1 c1 m1 => k _ _ _ h1 c1 m1
/-! tests: and, or -/
def tW (X : Cx) (e : Expr) : TT := fun σ H Q => ∀ (whole : Sem Value) pins s, Inv X pins σ H s → wpAny (model X.prog X.w) X.A (isTrue e X.env whole) (TP X pins σ Q) X.xe s
def SW (X : Cx) (e : Expr) (G : Gs) (mu : Mu) (Post : Bool → Mu → Prop) : Prop := ∀ σ H Q, DenG X.K H G σ → HM X.K H mu → KontB X.K mu H Post Q → tW X e σ H Q
theorem pwW : PW X e (tW X e) := ⟨fun whole pins s _ _ _ I h => h whole pins s I⟩
theorem SW.mk {t : TT} {Post : Bool → Mu → Prop} (p : PW X e t) (r : ∀ σ H Q, DenG X.K H G σ → HM X.K H mu → KontB X.K mu H Post Q → t σ H Q) : SW X e G mu Post := fun σ H Q d m k whole pins s I => p.run whole pins s σ H Q I (r σ H Q d m k)
theorem st_of_w {P : Bool → Mu → Prop} (h : SW X e G mu P) : ST X e G mu P := ST.mk (PW.pt pwW) fun σ H Q d m k => h σ H Q d m k
theorem sw_and1 {P : Bool → Mu → Prop} (h : ST X a G mu P) : SW X (.BoolOp .And [a] pos) G mu P := SW.mk (pw_and1 ptT) fun σ H Q d m k => h σ H Q d m k
theorem sw_or1 {P : Bool → Mu → Prop} (h : ST X a G mu P) : SW X (.BoolOp .Or [a] pos) G mu P := SW.mk (pw_or1 ptT) fun σ H Q d m k => h σ H Q d m k
abbrev if2 (k : Bool) (A B : Prop) : Prop := match k with | true => A | false => B
theorem sw_and {P : Bool → Mu → Prop} {rest : List Expr} (h : ST X a G mu fun k mu1 => if2 k (SW X (.BoolOp .And (b :: rest) pos) G mu1 P) (P false mu1)) : SW X (.BoolOp .And (a :: b :: rest) pos) G mu P :=
  SW.mk (pw_and ptT pwW) fun σ H Q d m k => h σ H _ d m fun b mu1 H1 h1 c1 m1 => by
    cases b with
    | true => exact iteT (h1 σ H1 Q (c1.denG m d) m1 (k.step c1))
    | false => exact iteF (k _ _ _ h1 c1 m1)
theorem sw_or {P : Bool → Mu → Prop} {rest : List Expr} (h : ST X a G mu fun k mu1 => if2 k (P true mu1) (SW X (.BoolOp .Or (b :: rest) pos) G mu1 P)) : SW X (.BoolOp .Or (a :: b :: rest) pos) G mu P :=
  SW.mk (pw_or ptT pwW) fun σ H Q d m k => h σ H _ d m fun b mu1 H1 h1 c1 m1 => by
    cases b with
    | false => exact iteF (h1 σ H1 Q (c1.denG m d) m1 (k.step c1))
    | true => exact iteT (k _ _ _ h1 c1 m1)
/-! values: and, or, not, if else -/
abbrev bW (w : W) (A B : Prop) : Prop := match w with | .bl true => A | .bl false => B | _ => False
theorem bW_den {K : PySem.W.Frag} {H : Hp} {A B : Prop} {w : W} {v : V} (h : bW w A B) (d : Den K H w v) : ∃ k, v = .bl k ∧ w = .bl k ∧ if k = true then A else B := by
  cases w with
  | bl k => cases k with
    | true => exact ⟨true, d, rfl, iteT h⟩
    | false => exact ⟨false, d, rfl, iteF h⟩
  | _ => exact h.elim
theorem se_one {op} (h : SE X a G mu P) : SE X (.BoolOp op [a] pos) G mu P := SE.mk (pe_one peE) fun σ H Q d m k => h σ H Q d m k
theorem se_and {rest : List Expr} (h : SE X a G mu fun w mu1 => bW w (SE X (.BoolOp .And (b :: rest) pos) G mu1 P) (P (.bl false) mu1)) : SE X (.BoolOp .And (a :: b :: rest) pos) G mu P :=
  SE.mk (pe_and peE peE) fun σ H Q d m k => h σ H _ d m fun v w mu1 H1 h1 c1 d1 m1 => by
    obtain ⟨kk, e1, e2, q⟩ := bW_den h1 d1
    refine ⟨kk, e1, ?_⟩
    cases kk with
    | true => exact iteT ((show SE X _ G mu1 P from q) σ H1 Q (c1.denG m d) m1 (k.step c1))
    | false => exact iteF (k _ _ _ _ (show P (.bl false) mu1 from q) c1 rfl m1)
theorem se_or {rest : List Expr} (h : SE X a G mu fun w mu1 => bW w (P (.bl true) mu1) (SE X (.BoolOp .Or (b :: rest) pos) G mu1 P)) : SE X (.BoolOp .Or (a :: b :: rest) pos) G mu P :=
  SE.mk (pe_or peE peE) fun σ H Q d m k => h σ H _ d m fun v w mu1 H1 h1 c1 d1 m1 => by
    obtain ⟨kk, e1, e2, q⟩ := bW_den h1 d1
    refine ⟨kk, e1, ?_⟩
    cases kk with
    | false => exact iteF ((show SE X _ G mu1 P from q) σ H1 Q (c1.denG m d) m1 (k.step c1))
    | true => exact iteT (k _ _ _ _ (show P (.bl true) mu1 from q) c1 rfl m1)
theorem se_not (h : SE X a G mu (isB fun k mu1 => P (.bl !k) mu1)) : SE X (.UnaryOp .Not a pos) G mu P :=
  SE.mk (pe_not peE) fun σ H Q d m k => h σ H _ d m fun v w mu1 H1 h1 c1 d1 m1 => let ⟨kk, e1, e2, h4⟩ := isB_den h1 d1; ⟨kk, e2, k _ _ _ _ h4 c1 rfl m1⟩
theorem se_if (h : ST X c G mu fun k mu1 => if2 k (SE X a G mu1 P) (SE X b G mu1 P)) : SE X (.IfExp c a b pos) G mu P :=
  SE.mk (pe_ifExp ptT peE peE) fun σ H Q d m k => h σ H _ d m fun kk mu1 H1 h1 c1 m1 => by
    cases kk with
    | true => exact iteT (h1 σ H1 Q (c1.denG m d) m1 (k.step c1))
    | false => exact iteF (h1 σ H1 Q (c1.denG m d) m1 (k.step c1))
/-! two comparisons in a chain -/
theorem se_chain {op op' : CmpOp} {r r' : R2} {f f' : W → W → Mu → PW1 → Prop} (ho : OpR X (compareOp op) r) (hw : OpW X r f) (ho' : OpR X (compareOp op') r') (hw' : OpW X r' f')
    (h : SE X a G mu fun w1 mu1 => SE X b G mu1 fun w2 mu2 => f w1 w2 mu2 fun z mu3 => bW z (SE X c G mu3 fun w3 mu4 => f' w2 w3 mu4 P) (P (.bl false) mu3)) (hb : lastMarks [op, op'] [b, c] = false := by rfl) : SE X (.Compare a [op, op'] [b, c] pos) G mu P :=
  SE.mk (pe_chain ho ho' peE peE peE hb) fun σ H Q d m k => h σ H _ d m fun x w1 mu1 H1 h1 c1 d1 m1 => h1 σ H1 _ (c1.denG m d) m1 fun y w2 mu2 H2 h2 c2 d2 m2 =>
    hw _ _ _ _ _ _ _ _ (c2.den m1 d1) d2 m2 h2 fun v w mu3 H3 h3 c3 d3 m3 => by
      have c123 := (c1.trans c2).trans c3
      obtain ⟨kk, e1, e2, q⟩ := bW_den h3 d3
      refine ⟨kk, e1, ?_⟩
      cases kk with
      | true => exact iteT ((show SE X c G mu3 _ from q) σ H3 _ (c123.denG m d) m3 fun v w mu4 H4 h4 c4 d4 m4 => hw' _ _ _ _ _ _ _ _ (c4.den m3 (c3.den m2 d2)) d4 m4 h4 (k.step (c123.trans c4)))
      | false => exact iteF (k _ _ _ _ (show P (.bl false) mu3 from q) c123 rfl m3)
theorem st_chain {op op' : CmpOp} {r r' : R2} {f f' : W → W → Mu → PW1 → Prop} {P : Bool → Mu → Prop} (ho : OpR X (compareOp op) r) (hw : OpW X r f) (ho' : OpR X (compareOp op') r') (hw' : OpW X r' f')
    (h : SE X a G mu fun w1 mu1 => SE X b G mu1 fun w2 mu2 => f w1 w2 mu2 fun z mu3 => bW z (SE X c G mu3 fun w3 mu4 => f' w2 w3 mu4 (isB P)) (P false mu3)) (hb : lastMarks [op, op'] [b, c] = false := by rfl) : ST X (.Compare a [op, op'] [b, c] pos) G mu P :=
  ST.mk (pt_chain ho ho' peE peE peE hb) fun σ H Q d m k => h σ H _ d m fun x w1 mu1 H1 h1 c1 d1 m1 => h1 σ H1 _ (c1.denG m d) m1 fun y w2 mu2 H2 h2 c2 d2 m2 =>
    hw _ _ _ _ _ _ _ _ (c2.den m1 d1) d2 m2 h2 fun v w mu3 H3 h3 c3 d3 m3 => by
      have c123 := (c1.trans c2).trans c3
      obtain ⟨kk, e1, e2, q⟩ := bW_den h3 d3
      refine ⟨kk, e1, ?_⟩
      cases kk with
      | true => exact iteT ((show SE X c G mu3 _ from q) σ H3 _ (c123.denG m d) m3 fun v w mu4 H4 h4 c4 d4 m4 => hw' _ _ _ _ _ _ _ _ (c4.den m3 (c3.den m2 d2)) d4 m4 h4 fun v w mu5 H5 h5 c5 d5 m5 => let ⟨kk, e1, e2, h6⟩ := isB_den h5 d5; ⟨kk, e2, k _ _ _ h6 ((c123.trans c4).trans c5) m5⟩)
      | false => exact iteF ⟨false, rfl, k _ _ _ (show P false mu3 from q) c123 m3⟩

/-! ### statements -/
theorem sss_nil {E : WE} (h : E.nx G mu) : SSs X [] G mu E := SSs.mk pss_nil fun σ H D d m k => k.nx _ _ _ _ h Chg.refl d m
theorem sss_cons {E : WE} (h : SS X st G mu { E with nx := fun G1 mu1 => SSs X sts G1 mu1 E }) : SSs X (st :: sts) G mu E :=
  SSs.mk (pss_cons psS pssS) fun σ H D d m k => h σ H _ d m ⟨fun σ1 G1 mu1 H1 h1 c1 d1 m1 => h1 σ1 H1 D d1 m1 (k.step c1), k.rt, k.bk, k.ct⟩
theorem ss_ret {E : WE} (h : SE X e G mu E.rt) : SS X (.Return (some e) pos) G mu E := SS.mk (ps_ret peE) fun σ H D d m k => h σ H _ d m k.rt
theorem ss_pass {E : WE} (h : E.nx G mu) : SS X (.Pass pos) G mu E := SS.mk ps_pass fun σ H D d m k => k.nx _ _ _ _ h Chg.refl d m
theorem ss_expr {E : WE} (h : SE X e G mu fun _ mu1 => E.nx G mu1) (hs : swapsWith e none pos.line X.env = pure false := by rfl) : SS X (.Expr e pos) G mu E :=
  SS.mk (ps_expr peE hs) fun σ H D d m k => h σ H _ d m fun v w mu1 H1 h1 c1 d1 m1 => k.nx _ _ _ _ h1 c1 (c1.denG m d) m1
theorem ss_if {E : WE} {u t : List Stmt} (h : ST X c G mu fun k mu1 => if2 k (SSs X t G mu1 E) (SSs X u G mu1 E)) : SS X (.If c t u pos) G mu E :=
  SS.mk (ps_if ptT pssS pssS) fun σ H D d m k => h σ H _ d m fun kk mu1 H1 h1 c1 m1 => by
    cases kk with
    | true => exact iteT (h1 σ H1 D (c1.denG m d) m1 (k.step c1))
    | false => exact iteF (h1 σ H1 D (c1.denG m d) m1 (k.step c1))
theorem DenG.set {K : PySem.W.Frag} {H : Hp} {G : Gs} {σ : St} {i : Nat} {w : W} {v : V} (d : DenG K H G σ) (q : Den K H w v) : DenG K H (G.set i (some w)) (σ.set i (some v)) := by
  refine ⟨by rw [List.length_set, List.length_set]; exact d.1, fun j w' h => ?_⟩
  by_cases e : i = j
  · subst e
    by_cases hl : i < G.length
    · rw [List.getElem?_set_self hl] at h
      cases h
      exact ⟨v, List.getElem?_set_self (by rw [← d.1]; exact hl), q⟩
    · rw [List.getElem?_eq_none (by simpa using hl)] at h
      cases h
  · rw [List.getElem?_set_ne e] at h
    rw [List.getElem?_set_ne e]
    exact d.2 j w' h
/-! targets -/
def tG (X : Cx) (e : Expr) : TG := fun v σ H Q => ∀ (u : Value) pins s, RelV v u → Inv X pins σ H s → wpAny (model X.prog X.w) X.A (assign e X.env u) (fun _ s' => ∃ σ' H', Inv X pins σ' H' s' ∧ Q σ' H') X.xe s
def tGs (X : Cx) (es : List Expr) : TGs := fun vs σ H Q => ∀ (us : List Value) pins s, Vals vs us → Inv X pins σ H s → wpAny (model X.prog X.w) X.A (assignInOrder ((assignEach es X.env).map (·.2)) us) (fun _ s' => ∃ σ' H', Inv X pins σ' H' s' ∧ Q σ' H') X.xe s
theorem pgG : PG X e (tG X e) := ⟨fun pins s σ H v u Q I r h => h u pins s r I⟩
theorem pgsG : PGs X es (tGs X es) := ⟨fun pins s σ H v u Q I r h => h u pins s r I⟩
def SG (X : Cx) (e : Expr) (w : W) (G : Gs) (mu : Mu) (Post : Gs → Mu → Prop) : Prop := ∀ σ H v Q, DenG X.K H G σ → HM X.K H mu → Den X.K H w v → KontG X.K mu H Post Q → tG X e v σ H Q
def SGs (X : Cx) (es : List Expr) (ws : List W) (G : Gs) (mu : Mu) (Post : Gs → Mu → Prop) : Prop := ∀ σ H vs Q, DenG X.K H G σ → HM X.K H mu → DenAll X.K H ws vs → KontG X.K mu H Post Q → tGs X es vs σ H Q
theorem SG.mk {t : TG} {w : W} {Post : Gs → Mu → Prop} (p : PG X e t) (r : ∀ σ H v Q, DenG X.K H G σ → HM X.K H mu → Den X.K H w v → KontG X.K mu H Post Q → t v σ H Q) : SG X e w G mu Post :=
  fun σ H v Q d m dv k u pins s rv I => p.run pins s σ H v u Q I rv (r σ H v Q d m dv k)
theorem SGs.mk {t : TGs} {ws : List W} {Post : Gs → Mu → Prop} (p : PGs X es t) (r : ∀ σ H v Q, DenG X.K H G σ → HM X.K H mu → DenAll X.K H ws v → KontG X.K mu H Post Q → t v σ H Q) : SGs X es ws G mu Post :=
  fun σ H v Q d m dv k u pins s rv I => p.run pins s σ H v u Q I rv (r σ H v Q d m dv k)
theorem sg_name {i : Nat} {x : Str} {w : W} {Post : Gs → Mu → Prop} (h : Post (G.set i (some w)) mu) (hN : X.N.Nodup) (hi : X.N[i]? = some x := by rfl) (hx : Loc X.env.scope x := by first | exact .inl rfl | exact .inr rfl)
    (hf : X.fn x = true ∨ X.env.scope.names.lookup x = some .local := by first | exact .inl rfl | exact .inr rfl) : SG X (.Name x pos) w G mu Post :=
  SG.mk (pg_name hN hi hx hf) fun σ H v Q d m dv k => k _ _ _ _ h Chg.refl (DenG.set d dv) m
theorem sgs_nil {Post : Gs → Mu → Prop} (h : Post G mu) : SGs X [] [] G mu Post := SGs.mk pgs_nil fun σ H vs Q d m dv k => ⟨dv, k _ _ _ _ h Chg.refl d m⟩
theorem sgs_cons {w : W} {ws : List W} {Post : Gs → Mu → Prop} (h : SG X e w G mu fun G1 mu1 => SGs X es ws G1 mu1 Post) (ha : (assignEach (e :: es) X.env).map (·.2) = assign e X.env :: (assignEach es X.env).map (·.2) := by rfl) : SGs X (e :: es) (w :: ws) G mu Post :=
  SGs.mk (pgs_cons pgG pgsG ha) fun σ H vs Q d m dv k => by
    obtain ⟨v, r, e1, dv1, dr⟩ := dv
    exact ⟨v, r, e1, h σ H v _ d m dv1 fun σ1 G1 mu1 H1 h1 c1 d1 m1 => h1 σ1 H1 r Q d1 m1 (c1.denAll m dr) (k.step c1)⟩
theorem sg_tup {n : Nat} {kk : Nat} {ws : List W} {Post : Gs → Mu → Prop} (h : SGs X es ws G mu Post) (hc : X.calm = true := by rfl) (hn : ws.length = n := by rfl)
    (ht : ∀ {t : TGs}, PGs X es t → PG X (.Tuple es kk pos) (gTup X.K n t) := by exact fun h => pg_tup rfl h) : SG X (.Tuple es kk pos) (.tup ws) G mu Post :=
  SG.mk (ht pgsG) fun σ H v Q d m dv k => by
    obtain ⟨a, xs, e1, s1, dv1⟩ := dv
    exact ⟨a, xs, e1, s1, by rw [← dv1.length]; exact hn, h σ H xs Q d m dv1 k⟩
theorem ss_asg {tg : Expr} {E : WE} (h : SE X e G mu fun w mu1 => SG X tg w G mu1 E.nx) (hs : swapsWithSole [tg] e pos.line X.env = pure false := by rfl) (hw : swappedStores [tg] e X.env = pure none := by rfl)
    (ha : (assignEach [tg] X.env).map (·.2) = [assign tg X.env] := by rfl) : SS X (.Assign [tg] e pos) G mu E :=
  SS.mk (ps_asg peE pgG hs hw ha) fun σ H D d m k => h σ H _ d m fun v w mu1 H1 h1 c1 d1 m1 => h1 σ H1 v _ (c1.denG m d) m1 d1 (k.nx.step c1)
end
end Dv
set_option Elab.async false
set_option linter.all false
set_option maxRecDepth 100000
/-! Loops and comprehensions by values. -/
namespace Dv
open PySem L2

/-- what a for walks, by values: ws in turn, while Gm holds of the cells -/
def ItW (K : PySem.W.Frag) (J : It) (ws : List W) (Gm : Mu → Prop) (mu1 : Mu) (H1 : Hp) : Prop :=
  ∃ (Gh : Hp → Prop) (Y : Nat → Hp → V → Hp → Prop), Walk J ws.length Gh Y ∧ (∀ mu' H', Chg mu1 H1 mu' H' → HM K H' mu' → Gm mu' → Gh H') ∧
    ∀ i H x H' mu', i < ws.length → Chg mu1 H1 mu' H → HM K H mu' → Gm mu' → Y i H x H' → ∃ w, ws[i]? = some w ∧ Chg mu' H mu' H' ∧ HM K H' mu' ∧ Den K H' w x

section
variable {X : Cx} {e a b c : Expr} {es : List Expr} {st : Stmt} {sts : List Stmt} {G : Gs} {mu mu' : Mu} {pos : Pos} {P : PW1}
def tI (X : Cx) (tg iter : Expr) : TI := fun σ H R => ∀ pins s, Inv X pins σ H s → wpAny (model X.prog X.w) X.A (eval iter X.env) (fun v s1 => wpAny (model X.prog X.w) X.A (pyIter v) (PIE X pins σ tg R) X.xe s1) X.xe s
theorem piI {tg iter : Expr} : PI X tg iter (tI X tg iter) := ⟨fun pins s σ H R I h => h pins s I⟩
def SI (X : Cx) (tg iter : Expr) (G : Gs) (mu : Mu) (Post : List W → (Mu → Prop) → Mu → Prop) : Prop := ∀ σ H R, DenG X.K H G σ → HM X.K H mu →
  (∀ J ws Gm mu1 H1, Post ws Gm mu1 → Chg mu H mu1 H1 → HM X.K H1 mu1 → ItW X.K J ws Gm mu1 H1 → R J H1) → tI X tg iter σ H R
theorem SI.mk {tg iter : Expr} {wi : TI} {Post : List W → (Mu → Prop) → Mu → Prop} (p : PI X tg iter wi) (r : ∀ σ H R, DenG X.K H G σ → HM X.K H mu →
  (∀ J ws Gm mu1 H1, Post ws Gm mu1 → Chg mu H mu1 H1 → HM X.K H1 mu1 → ItW X.K J ws Gm mu1 H1 → R J H1) → wi σ H R) : SI X tg iter G mu Post := fun σ H R d m k pins s I => p.run pins s σ H R I (r σ H R d m k)

theorem itw_tup {K : PySem.W.Frag} {H : Hp} {mu : Mu} {a : Addr} {xs : List V} {ws : List W} (m : HM K H mu) (s : SqT K H a xs) (d : DenAll K H ws xs) : ItW K (Itt K a) ws (fun _ => True) mu H := by
  refine ⟨fun H' => SqT K H' a xs, YAt xs, by rw [d.length]; exact walk_tup, fun mu' H' c m' _ => c.sqt m a xs s, fun i H1 x H2 mu' hi c m' _ ⟨e, y⟩ => ?_⟩
  subst e
  obtain ⟨w, h1, h2⟩ := (c.denAll m d).get y
  exact ⟨w, h1, Chg.refl, m', h2⟩
theorem itw_lst {K : PySem.W.Frag} {H : Hp} {mu : Mu} {a : Addr} {ws : List W} (m : HM K H mu) (h : mu a = some (.lst ws)) : ItW K (Itl K a) ws (fun mu' => mu' a = some (.lst ws)) mu H := by
  obtain ⟨xs, hx, d⟩ := m a _ h
  refine ⟨fun H' => ∃ ys, SqL K H' a ys ∧ DenAll K H' ws ys, fun i H1 x H2 => H2 = H1 ∧ ∃ ys, DenAll K H1 ws ys ∧ ys[i]? = some x, ⟨fun i H' hi ⟨ys, s, d'⟩ => ?_, fun H' ⟨ys, s, d'⟩ => ?_, fun i H' x H'' hi ⟨ys, s, d'⟩ y => ?_⟩,
    fun mu' H' c m' g => ?_, fun i H1 x H2 mu' hi c m' _ ⟨e, ys, d', y⟩ => ?_⟩
  · have hl : i < ys.length := by rw [← d'.length]; exact hi
    exact ⟨ys, ys[i], s, by simp [hl]⟩
  · exact ⟨ys, s, by rw [d'.length]; exact Nat.le_refl _⟩
  · obtain ⟨e, y⟩ := y
    exact ⟨e, ys, d', y ys s⟩
  · obtain ⟨ys, h1, h2⟩ := m' a _ g
    exact ⟨ys, SqL.of h1, h2⟩
  · subst e
    obtain ⟨w, h1, h2⟩ := d'.get y
    exact ⟨w, h1, Chg.refl, m', h2⟩
/-- the items of a tuple or a list -/
abbrev itemsW (w : W) (mu : Mu) (P : List W → (Mu → Prop) → Mu → Prop) : Prop := match w with
  | .tup ws => P ws (fun _ => True) mu
  | .m a => ∃ ws, mu a = some (.lst ws) ∧ P ws (fun mu' => mu' a = some (.lst ws)) mu
  | _ => False
theorem si_tup {tg iter : Expr} {Post : List W → (Mu → Prop) → Mu → Prop} (h : SE X iter G mu fun w mu1 => match w with | .tup ws => Post ws (fun _ => True) mu1 | _ => False) : SI X tg iter G mu Post :=
  SI.mk (pi_tup peE) fun σ H R d m k => h σ H _ d m fun v w mu1 H1 h1 c1 d1 m1 => by
    cases w with
    | tup ws =>
      obtain ⟨a, xs, e, s, d2⟩ := d1
      exact ⟨a, e, ⟨xs, s⟩, k _ _ _ _ _ h1 c1 m1 (itw_tup m1 s d2)⟩
    | _ => exact h1.elim
theorem si_lst {tg iter : Expr} {Post : List W → (Mu → Prop) → Mu → Prop} (h : SE X iter G mu fun w mu1 => match w with | .m a => ∃ ws, mu1 a = some (.lst ws) ∧ Post ws (fun mu' => mu' a = some (.lst ws)) mu1 | _ => False) : SI X tg iter G mu Post :=
  SI.mk (pi_list peE) fun σ H R d m k => h σ H _ d m fun v w mu1 H1 h1 c1 d1 m1 => by
    cases w with
    | m a =>
      obtain ⟨ws, h2, h3⟩ := h1
      obtain ⟨xs, hx, d2⟩ := m1 a _ h2
      have d1 : v = .ref a := d1
      subst d1
      exact ⟨a, rfl, ⟨xs, SqL.of hx⟩, k _ _ _ _ _ h3 c1 m1 (itw_lst m1 h2)⟩
    | _ => exact h1.elim
theorem itw_range {K : PySem.W.Frag} {H : Hp} {mu : Mu} {n : Nat} : ItW K (Itr 0 n) ((List.range n).map fun i => W.int (i : Nat)) (fun _ => True) mu H := by
  refine ⟨fun _ => True, YFn fun i => .int (0 + i), by rw [List.length_map, List.length_range]; exact walk_range, fun _ _ _ _ _ => trivial, fun i H1 x H2 mu' hi c m' _ ⟨e, y⟩ => ?_⟩
  subst e
  rw [List.length_map, List.length_range] at hi
  refine ⟨.int (i : Nat), by simp [hi], Chg.refl, m', ?_⟩
  have y : x = .int (0 + (i : Nat)) := y
  show x = .int (i : Nat)
  rw [y]
  congr 1
  omega
theorem si_range {tg : Expr} {p : Pos} {Post : List W → (Mu → Prop) → Mu → Prop} (h : SE X a G mu fun w mu1 => match w with | .int j => -(2 ^ 62) ≤ j ∧ j < 2 ^ 62 ∧ Post ((List.range j.toNat).map fun i => W.int (i : Nat)) (fun _ => True) mu1 | _ => False)
    (hm : X.mg "range" = none) (hg : Gl X "range" := by rfl) (hs : starEach [a] X.env = [(false, eval a X.env)] := by rfl) : SI X tg (.Call (.Name "range" p) [a] [] pos) G mu Post :=
  SI.mk (pi_range1 hg hm (pa_cons peE pa_nil hs) hs) fun σ H R d m k => h σ H _ d m fun v w mu1 H1 h1 c1 d1 m1 => by
    cases w with
    | int j =>
      have d1 : v = .int j := d1
      subst d1
      exact ⟨j, rfl, h1.1, h1.2.1, k _ _ _ _ _ h1.2.2 c1 m1 itw_range⟩
    | _ => exact h1.elim

/-- for: I by the turn, the names, the cells -/
theorem ss_for {tg iter : Expr} {body : List Stmt} {E : WE} (hp : PassesOwn (model X.prog X.w) X.A X.env X.xe) (hc : X.calm = true) (hf : ∀ x, foldedSetIterable iter X.env x = pure x)
    (h : SI X tg iter G mu fun ws Gm mu1 => ∃ I : Nat → Gs → Mu → Prop, I 0 G mu1 ∧ (∀ i G' mu', i ≤ ws.length → I i G' mu' → Gm mu') ∧
      (∀ i w G' mu', ws[i]? = some w → I i G' mu' → SG X tg w G' mu' fun G2 mu2 => SSs X body G2 mu2 { E with nx := I (i + 1), ct := I (i + 1), bk := E.nx }) ∧ ∀ G' mu', I ws.length G' mu' → E.nx G' mu') : SS X (.For tg iter body [] pos) G mu E :=
  SS.mk (ps_for hp hc piI pgG pssS hf) fun σ H D d m k => h σ H _ d m fun J ws Gm mu1 H1 ⟨I, i0, ig, it, ie⟩ c1 m1 ⟨Gh, Y, wk, hg, hy⟩ =>
    for_it wk (fun i σ' H' => ∃ G' mu', I i G' mu' ∧ Chg mu1 H1 mu' H' ∧ DenG X.K H' G' σ' ∧ HM X.K H' mu') ⟨G, mu1, i0, Chg.refl, c1.denG m d, m1⟩
      (fun i σ' H' hi ⟨G', mu', q, c2, d2, m2⟩ => hg mu' H' c2 m2 (ig i G' mu' hi q))
      (fun i x σ' H' H'' hi ⟨G', mu', q, c2, d2, m2⟩ y => by
        obtain ⟨w, hw, c3, m3, d3⟩ := hy i H' x H'' mu' hi c2 m2 (ig i G' mu' (Nat.le_of_lt hi) q) y
        refine it i w G' mu' hw q σ' H'' x _ (c3.denG m2 d2) m3 d3 fun σ2 G2 mu2 H2 h2 c4 d4 m4 => ?_
        have cc := (c2.trans c3).trans c4
        exact h2 σ2 H2 _ d4 m4 ⟨fun σ3 G3 mu3 H3 h3 c5 d5 m5 => ⟨G3, mu3, h3, cc.trans c5, d5, m5⟩, k.rt.step (c1.trans cc), k.nx.step (c1.trans cc), fun σ3 G3 mu3 H3 h3 c5 d5 m5 => ⟨G3, mu3, h3, cc.trans c5, d5, m5⟩⟩)
      fun σ' H' ⟨G', mu', q, c2, d2, m2⟩ => k.nx _ _ _ _ (ie G' mu' q) (c1.trans c2) d2 m2

/-! ### targets of a comprehension -/
inductive Tg where
  | nm (i : Nat)
  | tp (ts : List Tg)
mutual
def gT (K : PySem.W.Frag) : Tg → TG
  | .nm i => gName i
  | .tp ts => gTup K ts.length (gTs K ts)
def gTs (K : PySem.W.Frag) : List Tg → TGs
  | [] => gNil
  | t :: ts => gCons (gT K t) (gTs K ts)
end
mutual
def Tg.bind : Tg → W → Gs → Option Gs
  | .nm i, w, G => some (G.set i (some w))
  | .tp ts, .tup ws, G => Tg.binds ts ws G
  | .tp _, _, _ => none
def Tg.binds : List Tg → List W → Gs → Option Gs
  | [], [], G => some G
  | t :: ts, w :: ws, G => (Tg.bind t w G).bind fun G1 => Tg.binds ts ws G1
  | _, _, _ => none
end
mutual
def Tg.all (p : Nat → Bool) : Tg → Bool
  | .nm i => p i
  | .tp ts => Tg.alls p ts
def Tg.alls (p : Nat → Bool) : List Tg → Bool
  | [] => true
  | t :: ts => Tg.all p t && Tg.alls p ts
end
def wipeG (G : Gs) : List Nat → Gs
  | [] => G
  | v :: vs => (wipeG G vs).set v none
theorem wipeG_den {K : PySem.W.Frag} {H : Hp} {G : Gs} {σ : St} (d : DenG K H G σ) : ∀ vs : List Nat, DenG K H (wipeG G vs) (wipe σ vs)
  | [] => d
  | v :: vs => by
    obtain ⟨hl, h⟩ := wipeG_den d vs
    refine ⟨by unfold wipeG wipe; rw [List.length_set, List.length_set]; exact hl, fun i w e => ?_⟩
    unfold wipeG at e
    unfold wipe
    by_cases q : v = i
    · subst q
      by_cases z : v < (wipeG G vs).length
      · rw [List.getElem?_set_self z] at e; cases e
      · rw [List.getElem?_eq_none (by simpa using z)] at e; cases e
    · rw [List.getElem?_set_ne q] at e
      rw [List.getElem?_set_ne q]
      exact h i w e
theorem wipe_set {σ : St} {i : Nat} {x : Option V} : ∀ {vs : List Nat}, i ∈ vs → wipe (σ.set i x) vs = wipe σ vs
  | v :: vs, h => by
    unfold wipe
    by_cases e : i ∈ vs
    · rw [wipe_set e]
    · have q : v = i := by
        rcases List.mem_cons.mp h with z | z
        · exact z.symm
        · exact absurd z e
      subst q
      have hn : ∀ us : List Nat, v ∉ us → wipe (σ.set v x) us = (wipe σ us).set v x := by
        intro us
        induction us with
        | nil => intro _; rfl
        | cons u us ih =>
          intro hu
          unfold wipe
          rw [ih fun z => hu (List.mem_cons_of_mem _ z)]
          exact List.set_comm _ _ fun z => hu (by rw [z]; exact List.mem_cons_self)
      rw [hn vs e, List.set_set]
mutual
theorem gT_run {K : PySem.W.Frag} {H : Hp} {vs : List Nat} {Q : St → Hp → Prop} : ∀ (T : Tg) {w : W} {v : V} {G G2 : Gs} {σ : St}, T.bind w G = some G2 → T.all (fun i => decide (i ∈ vs)) = true → DenG K H G σ → Den K H w v →
    (∀ σ2, DenG K H G2 σ2 → wipe σ2 vs = wipe σ vs → Q σ2 H) → gT K T v σ H Q
  | .nm i, w, v, G, G2, σ, hb, ha, d, dv, q => by
    simp only [Tg.bind, Option.some.injEq] at hb
    subst hb
    exact q _ (DenG.set d dv) (wipe_set (of_decide_eq_true ha))
  | .tp ts, .tup ws, v, G, G2, σ, hb, ha, d, dv, q => by
    obtain ⟨a, xs, e, s, dx⟩ := dv
    simp only [Tg.bind] at hb
    unfold Tg.all at ha
    unfold gT
    refine ⟨a, xs, e, s, ?_, gTs_run ts hb ha d dx q⟩
    rw [← dx.length]
    exact (binds_len ts hb).symm
  | .tp ts, .non, v, G, G2, σ, hb, ha, d, dv, q => by simp [Tg.bind] at hb
  | .tp ts, .bl _, v, G, G2, σ, hb, ha, d, dv, q => by simp [Tg.bind] at hb
  | .tp ts, .int _, v, G, G2, σ, hb, ha, d, dv, q => by simp [Tg.bind] at hb
  | .tp ts, .str _, v, G, G2, σ, hb, ha, d, dv, q => by simp [Tg.bind] at hb
  | .tp ts, .m _, v, G, G2, σ, hb, ha, d, dv, q => by simp [Tg.bind] at hb
theorem gTs_run {K : PySem.W.Frag} {H : Hp} {vs : List Nat} {Q : St → Hp → Prop} : ∀ (ts : List Tg) {ws : List W} {xs : List V} {G G2 : Gs} {σ : St}, Tg.binds ts ws G = some G2 → Tg.alls (fun i => decide (i ∈ vs)) ts = true → DenG K H G σ → DenAll K H ws xs →
    (∀ σ2, DenG K H G2 σ2 → wipe σ2 vs = wipe σ vs → Q σ2 H) → gTs K ts xs σ H Q
  | [], [], xs, G, G2, σ, hb, ha, d, dv, q => by
    simp only [Tg.binds, Option.some.injEq] at hb
    subst hb
    exact ⟨dv, q _ d rfl⟩
  | t :: ts, w :: ws, xs, G, G2, σ, hb, ha, d, dv, q => by
    obtain ⟨v, r, e, d1, d2⟩ := dv
    simp only [Tg.binds] at hb
    unfold Tg.alls at ha
    rw [Bool.and_eq_true] at ha
    cases hq : Tg.bind t w G with
    | none => rw [hq] at hb; simp at hb
    | some G1 =>
      rw [hq] at hb
      have hb : Tg.binds ts ws G1 = some G2 := hb
      unfold gTs
      exact ⟨v, r, e, gT_run t hq ha.1 d d1 fun σ1 d3 e3 => gTs_run ts hb ha.2 d3 d2 fun σ2 d4 e4 => q σ2 d4 (e4.trans e3)⟩
  | [], w :: ws, xs, G, G2, σ, hb, ha, d, dv, q => by simp [Tg.binds] at hb
  | t :: ts, [], xs, G, G2, σ, hb, ha, d, dv, q => by simp [Tg.binds] at hb
theorem binds_len : ∀ (ts : List Tg) {ws : List W} {G G2 : Gs}, Tg.binds ts ws G = some G2 → ts.length = ws.length
  | [], [], _, _, _ => rfl
  | t :: ts, w :: ws, G, G2, hb => by
    simp only [Tg.binds] at hb
    cases hq : Tg.bind t w G with
    | none => rw [hq] at hb; simp at hb
    | some G1 =>
      rw [hq] at hb
      have hb : Tg.binds ts ws G1 = some G2 := hb
      simp [binds_len ts hb]
  | [], w :: ws, G, G2, hb => by simp [Tg.binds] at hb
  | t :: ts, [], G, G2, hb => by simp [Tg.binds] at hb
end

theorem set_none_wipe {v : Nat} : ∀ {us : List Nat} {σ : St}, (wipe σ us).set v none = wipe (σ.set v none) us
  | [], σ => rfl
  | u :: us, σ => by
    unfold wipe
    rw [← set_none_wipe]
    by_cases h : u = v
    · subst h; rfl
    · exact List.set_comm _ _ h
theorem wipe_wipe {σ : St} : ∀ {us : List Nat}, wipe (wipe σ us) us = wipe σ us
  | [] => rfl
  | u :: us => by
    show (wipe ((wipe σ us).set u none) us).set u none = (wipe σ us).set u none
    rw [← set_none_wipe, wipe_wipe, List.set_set]
/-! ### comprehensions: I by the turn, what is made so far, the cells -/
/-- one turn's element: kept or not -/
abbrev tt0 : TT := tYes
theorem lc_rd {g : TG} {tt : TT} {te : TE} {tg iter : Expr} {vs : List Nat} {σ : St} {H : Hp} {Q : VK} {P : PW1} (d : DenG X.K H G σ) (m : HM X.K H mu) (k : Kont X.K mu H P Q)
    (h : SI X tg iter G mu fun ws Gm mu1 => ∀ D, mu1 D = none → ∃ I : Nat → List W → Mu → Prop, I 0 [] mu1 ∧ (∀ i acc mu', i ≤ ws.length → I i acc mu' → Gm mu') ∧
      (∀ i w acc mu', ws[i]? = some w → I i acc mu' → acc.length < sizeLine ∧ ∀ (σ' : St) (H' : Hp) (v : V) (R : Option V → Hp → Prop), DenG X.K H' (wipeG G vs) (wipe σ vs) → HM X.K H' mu' → Den X.K H' w v →
        (∀ r y mu4 H4, Chg mu' H' mu4 H4 → HM X.K H4 mu4 → Den X.K H4 r y → I (i + 1) (acc ++ [r]) mu4 → R (some y) H4) → (∀ mu4 H4, Chg mu' H' mu4 H4 → HM X.K H4 mu4 → I (i + 1) acc mu4 → R none H4) →
        g v (wipe σ vs) H' fun σ2 H2 => wipe σ2 vs = wipe σ vs ∧ tt σ2 H2 fun b H3 => if b = true then te σ2 H3 fun y H4 => R (some y) H4 else R none H3) ∧
      ∀ acc mu', I ws.length acc mu' → P (.m D) (setM mu' D (.lst acc))) : tLc (tI X tg iter) g tt te vs σ H Q := by
  refine h σ H _ d m fun J ws Gm mu1 H1 hI c1 m1 ⟨Gh, Y, wk, hg, hy⟩ D hD => ?_
  obtain ⟨I, i0, ig, it, ie⟩ := hI D (m1.dom hD)
  obtain ⟨c0, m0⟩ := laid (o := .lst []) m1 hD
  have dne : ∀ mu' H', Chg mu1 H1 mu' H' → ∀ b o, H1 b = some o → b ≠ D := fun _ _ _ b o e => ne_of_none e hD
  refine lc_it wk (fun i H' => ∃ acc mu' xs, I i acc mu' ∧ H' D = some (.lst xs) ∧ DenAll X.K H' acc xs ∧ mu' D = none ∧ HM X.K H' mu' ∧ Chg mu1 H1 mu' H') ⟨[], mu1, [], i0, upd_same, rfl, m1.dom hD, m0, c0⟩
    (fun i H' hi ⟨acc, mu', xs, q, _, _, _, m2, c2⟩ => hg mu' H' c2 m2 (ig i acc mu' hi q)) (fun i x H' H'' hi ⟨acc, mu', xs, q, hx, dx, nD, m2, c2⟩ y => ?_) fun H' ⟨acc, mu', xs, q, hx, dx, nD, m2, c2⟩ => ?_
  · obtain ⟨w, hw, c3, m3, d3⟩ := hy i H' x H'' mu' hi c2 m2 (ig i acc mu' (Nat.le_of_lt hi) q) y
    obtain ⟨hl, hh⟩ := it i w acc mu' hw q
    have dw : DenG X.K H'' (wipeG G vs) (wipe σ vs) := c3.denG m2 (c2.denG m1 (c1.denG m (wipeG_den d vs)))
    refine hh σ H'' x (fun oy H4 => match oy with
      | some y => ∃ acc', H4 D = some (.lst acc') ∧ acc'.length < sizeLine ∧ ∃ acc mu' xs, I (i + 1) acc mu' ∧ (upd H4 D (.lst (acc' ++ [y]))) D = some (.lst xs) ∧ DenAll X.K (upd H4 D (.lst (acc' ++ [y]))) acc xs ∧ mu' D = none ∧ HM X.K (upd H4 D (.lst (acc' ++ [y]))) mu' ∧ Chg mu1 H1 mu' (upd H4 D (.lst (acc' ++ [y])))
      | none => ∃ acc mu' xs, I (i + 1) acc mu' ∧ H4 D = some (.lst xs) ∧ DenAll X.K H4 acc xs ∧ mu' D = none ∧ HM X.K H4 mu' ∧ Chg mu1 H1 mu' H4) dw m3 d3 (fun r y mu4 H4 c4 m4 d4 q4 => ?_) fun mu4 H4 c4 m4 q4 => ?_
    · have hx3 := c3.keep _ _ hx nD
      have nD3 := nD
      have hx4 := c4.keep _ _ hx3 nD
      have nD4 := c4.new _ _ hx3 nD
      have dx4 := c4.denAll m3 (c3.denAll m2 dx)
      have sq0 : ∀ a ys, SqT X.K H4 a ys → SqT X.K (upd H4 D (.lst (xs ++ [y]))) a ys := fun a ys s => by
        rcases s with (s | ⟨o, s⟩) | s
        · exact .inl (.inl (by rw [upd_ne (ne_of s hx4 (by intro z; cases z))]; exact s))
        · exact .inl (.inr ⟨o, by rw [upd_ne (ne_of s hx4 (by intro z; cases z))]; exact s⟩)
        · exact .inr s
      have sq : Kps X.K H4 (upd H4 D (.lst (xs ++ [y]))) := ⟨sq0, fun a o u s => by rw [upd_ne (ne_of s hx4 (by intro z; cases z))]; exact s⟩
      refine ⟨xs, hx4, by rw [← dx4.length]; exact hl, acc ++ [r], mu4, xs ++ [y], q4, upd_same, DenAll.append (DenAll.mono sq _ dx4) ⟨y, [], rfl, Den.mono sq _ d4, rfl⟩, nD4, fun a cc ha => CellOk.mono sq (m4 a cc ha) (upd_ne fun z => by subst z; rw [nD4] at ha; cases ha), ?_⟩
      have cc := (c2.trans c3).trans c4
      exact ⟨fun b o e n => by rw [upd_ne (ne_of_none e hD)]; exact cc.keep b o e n, cc.old, cc.new⟩
    · have hx3 := c3.keep _ _ hx nD
      have hx4 := c4.keep _ _ hx3 nD
      exact ⟨acc, mu4, xs, q4, hx4, c4.denAll m3 (c3.denAll m2 dx), c4.new _ _ hx3 nD, m4, (c2.trans c3).trans c4⟩
  · refine k (.ref D) (.m D) (setM mu' D (.lst acc)) H' (ie acc mu' q) (c1.trans ⟨c2.keep, fun b cc e => ?_, fun b o e n => ?_⟩) rfl fun a cc ha => ?_
    · by_cases z : b = D
      · subst z; exact ⟨_, setM_same⟩
      · rw [setM_ne z]; exact c2.old b cc e
    · rw [setM_ne (ne_of_none e hD)]
      exact c2.new b o e n
    · by_cases z : a = D
      · subst z
        rw [setM_same] at ha
        cases ha
        exact ⟨xs, hx, dx⟩
      · rw [setM_ne z] at ha
        exact m2 a cc ha
/-- the element and the test of a block -/
structure Blk (X : Cx) (scope : Scope) (B : Cx → Prop) : Prop where
  all : ∀ (s : Shared) (H : Hp) (C : Addr) (cl : List (Str × Addr)) (fp : List Addr), B (X.blk s H scope (compEnvC scope cl C X.env) fp)
/-- what a comprehension without a test asks -/
abbrev lcPost (B : (Cx → Prop) → Prop) (T : Tg) (elt : Expr) (vs : List Nat) (G : Gs) (P : PW1) : List W → (Mu → Prop) → Mu → Prop := fun ws Gm mu1 => ∀ D, mu1 D = none → ∃ I : Nat → List W → Mu → Prop, I 0 [] mu1 ∧ (∀ i acc mu', i ≤ ws.length → I i acc mu' → Gm mu') ∧
  (∀ i w acc mu', ws[i]? = some w → I i acc mu' → acc.length < sizeLine ∧ ∃ G2, T.bind w (wipeG G vs) = some G2 ∧ B fun Y => SE Y elt G2 mu' fun r mu4 => I (i + 1) (acc ++ [r]) mu4) ∧ ∀ acc mu', I ws.length acc mu' → P (.m D) (setM mu' D (.lst acc))
abbrev lcPost1 (B : (Cx → Prop) → Prop) (T : Tg) (elt t : Expr) (vs : List Nat) (G : Gs) (P : PW1) : List W → (Mu → Prop) → Mu → Prop := fun ws Gm mu1 => ∀ D, mu1 D = none → ∃ I : Nat → List W → Mu → Prop, I 0 [] mu1 ∧ (∀ i acc mu', i ≤ ws.length → I i acc mu' → Gm mu') ∧
  (∀ i w acc mu', ws[i]? = some w → I i acc mu' → acc.length < sizeLine ∧ ∃ G2, T.bind w (wipeG G vs) = some G2 ∧ B fun Y => ST Y t G2 mu' fun b mu3 => if2 b (B fun Z => SE Z elt G2 mu3 fun r mu4 => I (i + 1) (acc ++ [r]) mu4) (I (i + 1) acc mu3)) ∧ ∀ acc mu', I ws.length acc mu' → P (.m D) (setM mu' D (.lst acc))
/-- in every block of a comprehension with this scope -/
def InBlk (X : Cx) (scope : Scope) (p : Cx → Prop) : Prop := ∀ (s : Shared) (H : Hp) (C : Addr) (cl : List (Str × Addr)) (fp : List Addr), p (X.blk s H scope (compEnvC scope cl C X.env) fp)
theorem lc_tur0 {scope : Scope} {own : List (Str × Nat)} {tg iter elt : Expr} (T : Tg) {P : PW1} {σ : St} {H : Hp} {Q : VK} (ha : T.all (fun i => decide (i ∈ own.map (·.2))) = true) (d : DenG X.K H G σ) (m : HM X.K H mu) (k : Kont X.K mu H P Q)
    (h : SI X tg iter G mu (lcPost (InBlk X scope) T elt (own.map (·.2)) G P)) :
    tLc (tI X tg iter) (gT X.K T) tYes (fun σ2 H2 Q2 => ∀ (s : Shared) (H : Hp) (C : Addr) (cl : List (Str × Addr)) (fp : List Addr), tE (X.blk s H scope (compEnvC scope cl C X.env) fp) elt σ2 H2 Q2) (own.map (·.2)) σ H Q := by
  refine lc_rd d m k (fun σ0 H0 R d0 m0 kk => h σ0 H0 R d0 m0 fun J ws Gm mu1 H1 hI c1 m1 iw => kk J ws Gm mu1 H1 (fun D hD => ?_) c1 m1 iw)
  obtain ⟨I, i0, ig, it, ie⟩ := hI D hD
  refine ⟨I, i0, ig, fun i w acc mu' hw q => ?_, ie⟩
  obtain ⟨hl, G2, hb, he⟩ := it i w acc mu' hw q
  refine ⟨hl, fun σ' H' v R dw m3 dv r1 r2 => gT_run T hb ha dw dv fun σ2 d2 e2 => ⟨e2.trans wipe_wipe, iteT (B := R none H') fun s Hs C cl fp => he s Hs C cl fp σ2 H' _ d2 m3 fun y r mu4 H4 q4 c4 d4 m4 => r1 r y mu4 H4 c4 m4 d4 q4⟩⟩
theorem lc_tur1 {scope : Scope} {own : List (Str × Nat)} {tg iter elt t : Expr} (T : Tg) {P : PW1} {σ : St} {H : Hp} {Q : VK} (ha : T.all (fun i => decide (i ∈ own.map (·.2))) = true) (d : DenG X.K H G σ) (m : HM X.K H mu) (k : Kont X.K mu H P Q)
    (h : SI X tg iter G mu (lcPost1 (InBlk X scope) T elt t (own.map (·.2)) G P)) :
    tLc (tI X tg iter) (gT X.K T) (fun σ2 H2 Q2 => ∀ (s : Shared) (H : Hp) (C : Addr) (cl : List (Str × Addr)) (fp : List Addr), tT (X.blk s H scope (compEnvC scope cl C X.env) fp) t σ2 H2 Q2)
      (fun σ2 H2 Q2 => ∀ (s : Shared) (H : Hp) (C : Addr) (cl : List (Str × Addr)) (fp : List Addr), tE (X.blk s H scope (compEnvC scope cl C X.env) fp) elt σ2 H2 Q2) (own.map (·.2)) σ H Q := by
  refine lc_rd d m k (fun σ0 H0 R d0 m0 kk => h σ0 H0 R d0 m0 fun J ws Gm mu1 H1 hI c1 m1 iw => kk J ws Gm mu1 H1 (fun D hD => ?_) c1 m1 iw)
  obtain ⟨I, i0, ig, it, ie⟩ := hI D hD
  refine ⟨I, i0, ig, fun i w acc mu' hw q => ?_, ie⟩
  obtain ⟨hl, G2, hb, he⟩ := it i w acc mu' hw q
  refine ⟨hl, fun σ' H' v R dw m3 dv r1 r2 => gT_run T hb ha dw dv fun σ2 d2 e2 => ⟨e2.trans wipe_wipe, fun s Hs C cl fp => he s Hs C cl fp σ2 H' _ d2 m3 fun b mu3 H3 hb3 c3 m3' => ?_⟩⟩
  cases b with
  | true => exact iteT (B := R none H3) fun s Hs C cl fp => (show InBlk X scope _ from hb3) s Hs C cl fp σ2 H3 _ (c3.denG m3 d2) m3' fun y r mu4 H4 q4 c4 d4 m4 => r1 r y mu4 H4 (c3.trans c4) m4 d4 q4
  | false => exact iteF (A := ∀ (s : Shared) (H : Hp) (C : Addr) (cl : List (Str × Addr)) (fp : List Addr), tE (X.blk s H scope (compEnvC scope cl C X.env) fp) elt σ2 H3 fun y H4 => R (some y) H4) (r2 mu3 H3 c3 m3' hb3)
theorem se_lc {scope : Scope} {own : List (Str × Nat)} {tg iter elt : Expr} (T : Tg) (hc : X.calm = true) (hN : X.N.Nodup) (ok : BlkOk X.N X.env.scope scope own) (ha : T.all (fun i => decide (i ∈ own.map (·.2))) = true)
    (hg : ∀ (s : Shared) (H : Hp) (C : Addr) (cl : List (Str × Addr)) (fp : List Addr), PG (X.blk s H scope (compEnvC scope cl C X.env) fp) tg (gT X.K T)) (hs : ∀ x, foldedSetIterable iter X.env x = pure x)
    (h : SI X tg iter G mu (lcPost (InBlk X scope) T elt (own.map (·.2)) G P)) : SE X (.ListComp elt [⟨tg, iter, [], 0⟩] scope pos) G mu P :=
  SE.mk (pe_lc hc hN piI ok hg (fun _ _ _ _ _ => pts_nil) (fun s H C cl fp => ⟨fun pins s' σ H' Q I h => h s H C cl fp pins s' I⟩) hs) fun σ H Q d m k => lc_tur0 T ha d m k h
theorem se_lc1 {scope : Scope} {own : List (Str × Nat)} {tg iter elt t : Expr} (T : Tg) (hc : X.calm = true) (hN : X.N.Nodup) (ok : BlkOk X.N X.env.scope scope own) (ha : T.all (fun i => decide (i ∈ own.map (·.2))) = true)
    (hg : ∀ (s : Shared) (H : Hp) (C : Addr) (cl : List (Str × Addr)) (fp : List Addr), PG (X.blk s H scope (compEnvC scope cl C X.env) fp) tg (gT X.K T)) (hs : ∀ x, foldedSetIterable iter X.env x = pure x)
    (h : SI X tg iter G mu (lcPost1 (InBlk X scope) T elt t (own.map (·.2)) G P)) : SE X (.ListComp elt [⟨tg, iter, [t], 0⟩] scope pos) G mu P :=
  SE.mk (pe_lc hc hN piI ok hg (fun s H C cl fp => pts_one ⟨fun pins s' σ H' Q I h => h s H C cl fp pins s' I⟩) (fun s H C cl fp => ⟨fun pins s' σ H' Q I h => h s H C cl fp pins s' I⟩) hs) fun σ H Q d m k => lc_tur1 T ha d m k h
theorem ss_setlc {E : WE} {i : Nat} {y : Str} {py spos : Pos} {scope : Scope} {own : List (Str × Nat)} {tg iter elt : Expr} (T : Tg) (hc : X.calm = true) (hN : X.N.Nodup) (hy : X.N[i]? = some y) (hyl : X.env.scope.names.lookup y = some .local)
    (hsw : swapsWith (.ListComp elt [⟨tg, iter, [], 0⟩] scope pos) (some (.Name y py)) spos.line X.env = pure true) (ok : BlkOk X.N X.env.scope scope own) (ha : T.all (fun i => decide (i ∈ own.map (·.2))) = true)
    (hg : ∀ (s : Shared) (H : Hp) (C : Addr) (cl : List (Str × Addr)) (fp : List Addr), PG (X.blk s H scope (compEnvC scope cl C X.env) fp) tg (gT X.K T)) (hs : ∀ x, foldedSetIterable iter X.env x = pure x)
    (h : SI X tg iter G mu (lcPost (InBlk X scope) T elt (own.map (·.2)) G fun w mu1 => E.nx (G.set i (some w)) mu1)) : SS X (.Assign [.Name y py] (.ListComp elt [⟨tg, iter, [], 0⟩] scope pos) spos) G mu E :=
  SS.mk (ps_setLc hc hN hy hyl hsw piI ok hg (fun _ _ _ _ _ => pts_nil) (fun s H C cl fp => ⟨fun pins s' σ H' Q I h => h s H C cl fp pins s' I⟩) hs) fun σ H D d m k =>
    lc_tur0 (P := fun w mu1 => E.nx (G.set i (some w)) mu1) T ha d m (fun v w mu1 H1 h1 c1 d1 m1 => k.nx _ _ _ _ h1 c1 (DenG.set (c1.denG m d) d1) m1) h
theorem ss_setlc1 {E : WE} {i : Nat} {y : Str} {py spos : Pos} {scope : Scope} {own : List (Str × Nat)} {tg iter elt t : Expr} (T : Tg) (hc : X.calm = true) (hN : X.N.Nodup) (hy : X.N[i]? = some y) (hyl : X.env.scope.names.lookup y = some .local)
    (hsw : swapsWith (.ListComp elt [⟨tg, iter, [t], 0⟩] scope pos) (some (.Name y py)) spos.line X.env = pure true) (ok : BlkOk X.N X.env.scope scope own) (ha : T.all (fun i => decide (i ∈ own.map (·.2))) = true)
    (hg : ∀ (s : Shared) (H : Hp) (C : Addr) (cl : List (Str × Addr)) (fp : List Addr), PG (X.blk s H scope (compEnvC scope cl C X.env) fp) tg (gT X.K T)) (hs : ∀ x, foldedSetIterable iter X.env x = pure x)
    (h : SI X tg iter G mu (lcPost1 (InBlk X scope) T elt t (own.map (·.2)) G fun w mu1 => E.nx (G.set i (some w)) mu1)) : SS X (.Assign [.Name y py] (.ListComp elt [⟨tg, iter, [t], 0⟩] scope pos) spos) G mu E :=
  SS.mk (ps_setLc hc hN hy hyl hsw piI ok hg (fun s H C cl fp => pts_one ⟨fun pins s' σ H' Q I h => h s H C cl fp pins s' I⟩) (fun s H C cl fp => ⟨fun pins s' σ H' Q I h => h s H C cl fp pins s' I⟩) hs) fun σ H D d m k =>
    lc_tur1 (P := fun w mu1 => E.nx (G.set i (some w)) mu1) T ha d m (fun v w mu1 H1 h1 c1 d1 m1 => k.nx _ _ _ _ h1 c1 (DenG.set (c1.denG m d) d1) m1) h
end
end Dv
set_option Elab.async false
set_option linter.all false
set_option maxRecDepth 100000
/-! Calls of defs and of built-ins by values; data. -/
namespace Dv
open PySem L2

/-! ### defs -/
/-- a def's promise by values -/
abbrev SpW := List W → Mu → PW1 → Prop
def spW (K : PySem.W.Frag) (S : SpW) : Sp := fun vs H Q _ => ∃ ws mu P, S ws mu P ∧ DenAll K H ws vs ∧ HM K H mu ∧ Kont K mu H P Q
def startW (N : List Str) (ws : List W) : Gs := ws.map some ++ List.replicate (N.length - ws.length) none
theorem start_den {K : PySem.W.Frag} {H : Hp} {N : List Str} {ws : List W} {vs : List V} (d : DenAll K H ws vs) : DenG K H (startW N ws) (L2.start N vs) := by
  have hl := d.length
  refine ⟨by unfold startW L2.start; simp [hl], fun i w h => ?_⟩
  unfold startW at h
  unfold L2.start
  by_cases z : i < ws.length
  · rw [List.getElem?_append_left (by simpa using z), List.getElem?_map] at h
    cases e : ws[i]? with
    | none => rw [e] at h; cases h
    | some w' =>
      rw [e] at h
      cases h
      obtain ⟨v, h1, h2⟩ := d.get' e
      exact ⟨v, by rw [List.getElem?_append_left (by simpa [← hl] using z), List.getElem?_map, h1]; rfl, h2⟩
  · rw [List.getElem?_append_right (by simpa using z)] at h
    rw [List.getElem?_replicate] at h
    split at h <;> simp at h
section
variable {P : Program} {w : World} {K : PySem.W.Frag} {mg : Str → Option Value} {base : Heap}
theorem okW {x qual : Str} {st : Stmt} {f : Addr} {fd : FuncData} {N ps : List Str} {k : Nat} {S : SpW} (F : Fun K x qual st f fd) (Sc : FnScope N ps (defScope st)) (len : ∀ ws mu P, S ws mu P → ws.length = ps.length)
    (body : ∀ (cdv : Value) (A : Around) (outer : List Env) (s : Shared) (H : Hp) (E : XK), Room k (A.deeper (PyProof.Rows.envOfC qual (defScope st) s.heap.objs.size f cdv)) → ∀ ws mu Pt, S ws mu Pt →
      SSs (cxOf CX0 P w K mg base N qual (defScope st) f cdv A outer s H E).nox (defBody st) (startW N ws) mu { nx := fun _ mu' => Pt .non mu', rt := Pt }) : FnOk P w K mg base CX0 (k + 1) f fd ps (spW K S) :=
  F.ok Sc (fun vs H Q E ⟨ws, mu, Pt, h, d, _, _⟩ => d.length ▸ len ws mu Pt h) fun cdv A outer s H vs Q E hr ⟨ws, mu, Pt, h, d, m, k⟩ =>
    ⟨_, pssS, body cdv A outer s H E hr ws mu Pt h _ _ _ (start_den d) m ⟨fun σ G mu' H' h' c d' m' => k .non .non mu' H' h' c rfl m', k, fun _ _ _ _ h => h.elim, fun _ _ _ _ h => h.elim⟩⟩
end
section
variable {X : Cx} {e a b c : Expr} {es : List Expr} {st : Stmt} {sts : List Stmt} {G : Gs} {mu mu' : Mu} {pos p : Pos} {P : PW1}
theorem se_call {k : Nat} {f : Addr} {fd : FuncData} {ps : List Str} {S : SpW} {x : Str} (F : FnOk X.prog X.w X.K X.mg X.base CX0 k f fd ps (spW X.K S)) (hr : Room k X.A) (hm : X.mg x = some (.ref f)) (hk : PySem.W.keepIn X.K (.ref f) = true) (hb : Binds X.K fd ps [])
    (h : SA X (e :: es) G mu fun ws mu1 => S ws mu1 P) (hg : Gl X x := by rfl) (hdb : (x == ("__debug__" : Str)) = false := by decide) (he : starEach (e :: es) X.env = (false, eval e X.env) :: starEach es X.env := by rfl) (hpl : (backTo pos (starEach es X.env)).any (·.1) = false := by rfl) :
    SE X (.Call (.Name x p) (e :: es) [] pos) G mu P :=
  SE.mk (pe_call F hr hg hm hk hb .nil pass0 paA hdb he hpl) fun σ H Q d m k => h σ H _ d m fun vs ws mu1 H1 h1 c1 d1 m1 => ⟨ws, mu1, P, h1, by rw [List.append_nil]; exact d1, m1, k.step c1⟩

/-! ### built-ins called by their name -/
/-- a built-in's rule by values -/
def CallW (X : Cx) (r : List V → Hp → VK → Prop) (f : List W → Mu → PW1 → Prop) : Prop := ∀ ws vs mu H P Q, DenAll X.K H ws vs → HM X.K H mu → f ws mu P → Kont X.K mu H P Q → r vs H Q
theorem se_blt {x : Str} {id : String} {r : List V → Hp → VK → Prop} {f : List W → Mu → PW1 → Prop} (hc : CallR X (.builtin id) r) (hw : CallW X r f) (hm : X.mg x = none) (h : SA X (e :: es) G mu fun ws mu1 => f ws mu1 P)
    (hv : bootBuiltins x = some (.builtin id) := by decide +kernel) (hg : Gl X x := by rfl) (hn : x ≠ "__name__" := by decide) (hdb : (x == ("__debug__" : Str)) = false := by decide)
    (he : starEach (e :: es) X.env = (false, eval e X.env) :: starEach es X.env := by rfl) (hpl : (backTo pos (starEach es X.env)).any (·.1) = false := by rfl) : SE X (.Call (.Name x p) (e :: es) [] pos) G mu P :=
  SE.mk (pe_callB hc hg hm hv paA hn hdb he hpl) fun σ H Q d m k => h σ H _ d m fun vs ws mu1 H1 h1 c1 d1 m1 => hw _ _ _ _ _ _ d1 m1 h1 (k.step c1)
theorem se_bty {x : Str} {T : String} {r : List V → Hp → VK → Prop} {f : List W → Mu → PW1 → Prop} (hc : CallR X (.type T) r) (hw : CallW X r f) (hm : X.mg x = none) (h : SA X (e :: es) G mu fun ws mu1 => f ws mu1 P)
    (hv : bootBuiltins x = some (.type T) := by decide +kernel) (hg : Gl X x := by rfl) (hn : x ≠ "__name__" := by decide) (hdb : (x == ("__debug__" : Str)) = false := by decide)
    (he : starEach (e :: es) X.env = (false, eval e X.env) :: starEach es X.env := by rfl) (hpl : (backTo pos (starEach es X.env)).any (·.1) = false := by rfl) : SE X (.Call (.Name x p) (e :: es) [] pos) G mu P :=
  SE.mk (pe_callTy hc hg hm hv paA hn hdb he hpl) fun σ H Q d m k => h σ H _ d m fun vs ws mu1 H1 h1 c1 d1 m1 => hw _ _ _ _ _ _ d1 m1 h1 (k.step c1)
/-- a built-in's name as a value (a class for isinstance) -/
abbrev lenW (ws : List W) (mu : Mu) (P : PW1) : Prop := match ws with
  | [.str s] => s.length ≤ sizeLine ∧ P (.int s.length) mu
  | [.tup ws] => P (.int ws.length) mu
  | [.m a] => ∃ ws, mu a = some (.lst ws) ∧ P (.int ws.length) mu
  | _ => False
theorem DenAll.one {K : PySem.W.Frag} {H : Hp} {w : W} {vs : List V} (d : DenAll K H [w] vs) : ∃ v, vs = [v] ∧ Den K H w v := by
  obtain ⟨v, r, e, d1, d2⟩ := d
  have d2 : r = [] := d2
  subst d2
  exact ⟨v, e, d1⟩
theorem DenAll.two {K : PySem.W.Frag} {H : Hp} {w w' : W} {vs : List V} (d : DenAll K H [w, w'] vs) : ∃ v v', vs = [v, v'] ∧ Den K H w v ∧ Den K H w' v' := by
  obtain ⟨v, r, e, d1, d2⟩ := d
  obtain ⟨v', e2, d3⟩ := DenAll.one d2
  subst e2
  exact ⟨v, v', e, d1, d3⟩
theorem len_w : CallW X (fun xs H Q => ∃ x n, xs = [x] ∧ LenV X.K x H n ∧ Q (.int n) H) lenW := fun ws vs mu H P Q d m h k => by
  unfold lenW at h
  split at h
  · rename_i s
    obtain ⟨v, rfl, dv⟩ := d.one
    have dv : v = .str s := dv
    subst dv
    exact ⟨_, s.length, rfl, ⟨h.1, rfl⟩, k.now h.2 rfl m⟩
  · rename_i ws
    obtain ⟨v, rfl, a, xs, rfl, s, dx⟩ := d.one
    exact ⟨_, ws.length, rfl, .inr ⟨xs, s, dx.length⟩, k.now h rfl m⟩
  · rename_i a
    obtain ⟨ws, h1, h2⟩ := h
    obtain ⟨v, rfl, dv⟩ := d.one
    have dv : v = .ref a := dv
    subst dv
    obtain ⟨xs, hx, dx⟩ := m a _ h1
    exact ⟨_, ws.length, rfl, .inl ⟨xs, SqL.of hx, dx.length⟩, k.now h2 rfl m⟩
  · exact h.elim
theorem se_len (h : SE X e G mu fun w mu1 => lenW [w] mu1 P) (hm : X.mg "len" = none) (hg : Gl X "len" := by rfl) (hs : starEach [e] X.env = [(false, eval e X.env)] := by rfl) (hpl : (backTo pos (starEach [] X.env)).any (·.1) = false := by rfl) : SE X (.Call (.Name "len" p) [e] [] pos) G mu P :=
  se_blt call_len len_w hm (sa_cons (fun σ H Q d m k => h σ H Q d m fun v w mu1 H1 h1 c1 d1 m1 => k v w mu1 H1 (fun σ2 H2 Q2 d2 m2 k2 => sa_nil h1 σ2 H2 Q2 d2 m2 k2) c1 d1 m1) hs) PySem.boot_len hg (by decide) (by decide) hs hpl
/-- one argument, as a call's arguments -/
theorem sa_one {P : List W → Mu → Prop} (h : SE X e G mu fun w mu1 => P [w] mu1) (hs : starEach [e] X.env = [(false, eval e X.env)] := by rfl) : SA X [e] G mu P :=
  sa_cons (fun σ H Q d m k => h σ H Q d m fun v w mu1 H1 h1 c1 d1 m1 => k v w mu1 H1 (sa_nil h1) c1 d1 m1) hs
theorem sa_two {P : List W → Mu → Prop} (h : SE X a G mu fun w mu1 => SE X b G mu1 fun w2 mu2 => P [w, w2] mu2) (hs : starEach [a, b] X.env = (false, eval a X.env) :: starEach [b] X.env := by rfl) (hs2 : starEach [b] X.env = [(false, eval b X.env)] := by rfl) : SA X [a, b] G mu P :=
  sa_cons (fun σ H Q d m k => h σ H Q d m fun v w mu1 H1 h1 c1 d1 m1 => k v w mu1 H1 (sa_one h1 hs2) c1 d1 m1) hs
/-! all, any of a list of bools -/
theorem denAll_bl {K : PySem.W.Frag} {H : Hp} : ∀ {bs : List Bool} {vs : List V}, DenAll K H (bs.map W.bl) vs → vs = bs.map V.bl
  | [], _, d => d
  | b :: bs, _, ⟨v, r, e, d1, d2⟩ => by
    have d1 : v = .bl b := d1
    subst e d1
    rw [denAll_bl d2]
    rfl
theorem denAll_str {K : PySem.W.Frag} {H : Hp} : ∀ {bs : List Str} {vs : List V}, DenAll K H (bs.map W.str) vs → vs = bs.map V.str
  | [], _, d => d
  | b :: bs, _, ⟨v, r, e, d1, d2⟩ => by
    have d1 : v = .str b := d1
    subst e d1
    rw [denAll_str d2]
    rfl
abbrev allW (ws : List W) (mu : Mu) (P : PW1) : Prop := match ws with | [.m a] => ∃ bs : List Bool, mu a = some (.lst (bs.map W.bl)) ∧ P (.bl (bs.all id)) mu | _ => False
abbrev anyW (ws : List W) (mu : Mu) (P : PW1) : Prop := match ws with | [.m a] => ∃ bs : List Bool, mu a = some (.lst (bs.map W.bl)) ∧ P (.bl (bs.any id)) mu | _ => False
theorem all_w : CallW X (rAll X.K) allW := fun ws vs mu H P Q d m h k => by
  unfold allW at h
  split at h
  · rename_i a
    obtain ⟨bs, h1, h2⟩ := h
    obtain ⟨v, rfl, dv⟩ := d.one
    have dv : v = .ref a := dv
    subst dv
    obtain ⟨xs, hx, dx⟩ := m a _ h1
    rw [denAll_bl dx] at hx
    exact ⟨a, bs, rfl, SqL.of hx, k.now h2 rfl m⟩
  · exact h.elim
theorem any_w : CallW X (rAny X.K) anyW := fun ws vs mu H P Q d m h k => by
  unfold anyW at h
  split at h
  · rename_i a
    obtain ⟨bs, h1, h2⟩ := h
    obtain ⟨v, rfl, dv⟩ := d.one
    have dv : v = .ref a := dv
    subst dv
    obtain ⟨xs, hx, dx⟩ := m a _ h1
    rw [denAll_bl dx] at hx
    exact ⟨a, bs, rfl, SqL.of hx, k.now h2 rfl m⟩
  · exact h.elim
/-! tuple(list) -/
abbrev tupleW (ws : List W) (mu : Mu) (P : PW1) : Prop := match ws with | [.m a] => ∃ ws, mu a = some (.lst ws) ∧ P (.tup ws) mu | [.tup ws] => P (.tup ws) mu | _ => False
theorem tuple_w : CallW X (fun xs H Q => ∃ p ys, xs = [.ref p] ∧ ((SqL X.K H p ys ∧ ∀ l, H l = none → Q (.ref l) (upd H l (.tup ys))) ∨ (SqT X.K H p ys ∧ Q (.ref p) H))) tupleW := fun ws vs mu H P Q d m h k => by
  unfold tupleW at h
  split at h
  · rename_i a
    obtain ⟨ws, h1, h2⟩ := h
    obtain ⟨v, rfl, dv⟩ := d.one
    have dv : v = .ref a := dv
    subst dv
    obtain ⟨xs, hx, dx⟩ := m a _ h1
    refine ⟨a, xs, rfl, .inl ⟨SqL.of hx, fun l hl => ?_⟩⟩
    obtain ⟨c2, m2⟩ := laid (o := .tup xs) m hl
    exact k _ _ mu _ h2 c2 ⟨l, xs, rfl, SqT.of upd_same, c2.denAll m dx⟩ m2
  · rename_i ws
    obtain ⟨v, rfl, a, xs, rfl, s, dx⟩ := d.one
    exact ⟨a, xs, rfl, .inr ⟨s, k.now h ⟨a, xs, rfl, s, dx⟩ m⟩⟩
  · exact h.elim
/-! list(list or tuple) -/
abbrev listW (ws : List W) (mu : Mu) (P : PW1) : Prop := match ws with
  | [.m a] => ∃ ws, mu a = some (.lst ws) ∧ ∀ p, mu p = none → P (.m p) (setM mu p (.lst ws))
  | [.tup ws] => ∀ p, mu p = none → P (.m p) (setM mu p (.lst ws))
  | _ => False
theorem list_w : CallW X (fun xs H Q => ∃ p ys, xs = [.ref p] ∧ (SqL X.K H p ys ∨ SqT X.K H p ys) ∧ ∀ l, H l = none → Q (.ref l) (upd H l (.lst ys))) listW := fun ws vs mu H P Q d m h k => by
  unfold listW at h
  split at h
  · rename_i a
    obtain ⟨ws, h1, h2⟩ := h
    obtain ⟨v, rfl, dv⟩ := d.one
    have dv : v = .ref a := dv
    subst dv
    obtain ⟨xs, hx, dx⟩ := m a _ h1
    refine ⟨a, xs, rfl, .inl (SqL.of hx), fun l hl => ?_⟩
    obtain ⟨c2, m2⟩ := laidC (o := .lst xs) (c := .lst ws) m hl (newLst dx)
    exact k _ _ _ _ (h2 l (m.dom hl)) c2 rfl m2
  · rename_i ws
    obtain ⟨v, rfl, a, xs, rfl, s, dx⟩ := d.one
    refine ⟨a, xs, rfl, .inr s, fun l hl => ?_⟩
    obtain ⟨c2, m2⟩ := laidC (o := .lst xs) (c := .lst ws) m hl (newLst dx)
    exact k _ _ _ _ (h l (m.dom hl)) c2 rfl m2
  · exact h.elim
/-! isinstance -/
def tyN (mu : Mu) : W → Option String
  | .non => some "NoneType"
  | .bl _ => some "bool"
  | .int _ => some "int"
  | .str _ => some "str"
  | .tup _ => some "tuple"
  | .m a => match mu a with
    | some (.lst _) => some "list"
    | some (.dic _) => some "dict"
    | _ => none
  | .fl _ => some "list"
  | .fd _ _ => some "dict"
theorem tyN_ok {K : PySem.W.Frag} {H : Hp} {w : W} {v : V} {n : String} (d : Den K H w v) (m : HM K H mu) (h : tyN mu w = some n) : TyX K H v (.type n) := by
  cases w with
  | non => cases h; have d : v = .non := d; subst d; exact .base .non
  | bl b => cases h; have d : v = .bl b := d; subst d; exact .base (.bl b)
  | int b => cases h; have d : v = .int b := d; subst d; exact .base (.int b)
  | str b => cases h; have d : v = .str b := d; subst d; exact .base (.str b)
  | tup ws =>
    cases h
    obtain ⟨a, xs, rfl, s, dx⟩ := d
    rcases s with (s | ⟨o, s⟩) | ⟨o, its, n, s, hc, _⟩
    · exact .base (.tup s)
    · exact .fTuple s
    · exact .kTuple s hc
  | fl ws =>
    cases h
    obtain ⟨a, o, xs, rfl, s, dx⟩ := d
    exact .base (.frz s)
  | fd ks ws =>
    cases h
    obtain ⟨a, o, kvs, rfl, s, _⟩ := d
    exact .fDict s
  | m a =>
    have d : v = .ref a := d
    subst d
    have h : (match mu a with | some (.lst _) => some "list" | some (.dic _) => some "dict" | _ => none) = some n := h
    cases e : mu a with
    | none => rw [e] at h; cases h
    | some c =>
      rw [e] at h
      cases c with
      | lst ws => cases h; obtain ⟨xs, hx, _⟩ := m a _ e; exact .base (.lst hx)
      | dic ws => cases h; obtain ⟨xs, hx, _⟩ := m a _ e; exact .base (.dK hx)
      | ins Cl fs => cases h
theorem se_isi {q : Pos} {x : Str} {T : String} (h : SE X e G mu fun w mu1 => ∃ n r, tyN mu1 w = some n ∧ kitB n T = some r ∧ P (.bl r) mu1) (hm : X.mg "isinstance" = none) (hmx : X.mg x = none) (hv : bootBuiltins x = some (.type T) := by decide +kernel)
    (hg : Gl X "isinstance" := by rfl) (hgx : Gl X x := by rfl) (hnx : x ≠ "__name__" := by decide) (hdx : (x == ("__debug__" : Str)) = false := by decide) (hs : starEach [e, .Name x q] X.env = (false, eval e X.env) :: starEach [.Name x q] X.env := by rfl)
    (hs2 : starEach [.Name x q] X.env = [(false, eval (.Name x q) X.env)] := by rfl) (hpl : (backTo pos (starEach [.Name x q] X.env)).any (·.1) = false := by rfl) : SE X (.Call (.Name "isinstance" p) [e, .Name x q] [] pos) G mu P :=
  SE.mk (pe_callB call_isi hg hm (by decide +kernel) (pa_cons peE (pa_cons (pe_bltn (v := .ty T) hgx hmx hv rfl hnx hdx) pa_nil hs2) hs) (by decide) (by decide) hs hpl) fun σ H Q d m k =>
    h σ H _ d m fun v w mu1 H1 ⟨n, r, h1, h2, h3⟩ c1 d1 m1 => ⟨v, .ty T, .type n, .type T, r, rfl, .ty T, tyN_ok d1 m1 h1, kit_ty h2, k _ _ _ _ h3 c1 rfl m1⟩
end
end Dv
set_option Elab.async false
set_option linter.all false
set_option maxRecDepth 100000
/-! Data: comparisons, membership, order; subscripts and slices; zip. -/
namespace Dv
open PySem L2
mutual
def dat : W → PyData
  | .non => .none
  | .bl b => .bool b
  | .int i => .int i
  | .str x => .str x
  | .tup ws => .tuple (dats ws)
  | .m _ => .none
  | .fl ws => .list (dats ws)
  | .fd ks ws => .dict ((ks.map PyData.str).zip (dats ws))
def dats : List W → List PyData
  | [] => []
  | w :: ws => dat w :: dats ws
end
mutual
def plW : W → Bool
  | .m _ => false
  | .tup ws => plsW ws
  | .fl ws => plsW ws
  | .fd _ _ => false
  | _ => true
def plsW : List W → Bool
  | [] => true
  | w :: ws => plW w && plsW ws
end
section
variable {K : PySem.W.Frag} {H : Hp}
mutual
theorem Den.dp : ∀ (w : W) {v : V}, plW w = true → Den K H w v → Dp K H v (dat w)
  | .non, _, _, d => by have d : _ = _ := d; subst d; exact .non
  | .bl b, _, _, d => by have d : _ = _ := d; subst d; exact .bl b
  | .int b, _, _, d => by have d : _ = _ := d; subst d; exact .int b
  | .str b, _, _, d => by have d : _ = _ := d; subst d; exact .str b
  | .tup ws, _, p, ⟨a, xs, e, s, dx⟩ => by subst e; unfold dat; exact .tup s (DenAll.dp ws (by unfold plW at p; exact p) dx)
  | .fl ws, _, p, ⟨a, o, xs, e, s, dx⟩ => by subst e; unfold dat; exact .lst (.inl (.inr ⟨o, s⟩)) (DenAll.dp ws (by unfold plW at p; exact p) dx)
  | .fd _ _, _, p, _ => by unfold plW at p; cases p
  | .m _, _, p, _ => by unfold plW at p; cases p
theorem DenAll.dp : ∀ (ws : List W) {vs : List V}, plsW ws = true → DenAll K H ws vs → DpAll K H vs (dats ws)
  | [], _, _, d => by have d : _ = _ := d; subst d; exact .nil
  | w :: ws, _, p, ⟨v, r, e, d1, d2⟩ => by
    subst e
    unfold plsW at p
    rw [Bool.and_eq_true] at p
    unfold dats
    exact .cons (Den.dp w p.1 d1) (DenAll.dp ws p.2 d2)
end
end
/-- data that may be compared: no references, not too deep -/
def okD (w : W) : Bool := plW w && SeqAt.shaped (dat w)
section
variable {X : Cx} {e a b c : Expr} {es : List Expr} {st : Stmt} {sts : List Stmt} {G : Gs} {mu mu' : Mu} {pos p : Pos} {P : PW1}
/-- a list cell of plW data, or plW data -/
def asD (mu : Mu) : W → Option PyData
  | .m a => match mu a with
    | some (.lst ws) => if plsW ws then some (.list (dats ws)) else none
    | _ => none
  | w => if plW w then some (dat w) else none
theorem asD_ok {K : PySem.W.Frag} {H : Hp} {w : W} {v : V} {d : PyData} (m : HM K H mu) (dv : Den K H w v) (h : asD mu w = some d) : Dp K H v d := by
  have pl : ∀ w, (if plW w = true then some (dat w) else none) = some d → Den K H w v → Dp K H v d := fun w h dv => by
    by_cases q : plW w = true
    · rw [if_pos q] at h
      cases h
      exact Den.dp w q dv
    · rw [if_neg q] at h
      cases h
  cases w with
  | m a =>
    have dv : v = .ref a := dv
    subst dv
    have h : (match mu a with | some (.lst ws) => if plsW ws = true then some (PyData.list (dats ws)) else none | _ => none) = some d := h
    cases e : mu a with
    | none => rw [e] at h; cases h
    | some c =>
      rw [e] at h
      cases c with
      | lst ws =>
        have h : (if plsW ws = true then some (PyData.list (dats ws)) else none) = some d := h
        by_cases q : plsW ws = true
        · rw [if_pos q] at h
          cases h
          obtain ⟨xs, hx, dx⟩ := m a _ e
          exact .lst (SqL.of hx) (DenAll.dp ws q dx)
        · rw [if_neg q] at h; cases h
      | dic _ => cases h
      | ins _ _ => cases h
  | non => exact pl .non h dv
  | bl b => exact pl (.bl b) h dv
  | int b => exact pl (.int b) h dv
  | str b => exact pl (.str b) h dv
  | tup b => exact pl (.tup b) h dv
  | fl b => exact pl (.fl b) h dv
  | fd b c => exact pl (.fd b c) h dv
abbrev eqW (w1 w2 : W) (mu : Mu) (P : PW1) : Prop := ∃ d1 d2, asD mu w1 = some d1 ∧ asD mu w2 = some d2 ∧ SeqAt.shaped d1 = true ∧ SeqAt.shaped d2 = true ∧ P (.bl (PyData.eqv d1 d2)) mu
abbrev neW (w1 w2 : W) (mu : Mu) (P : PW1) : Prop := ∃ d1 d2, asD mu w1 = some d1 ∧ asD mu w2 = some d2 ∧ SeqAt.shaped d1 = true ∧ SeqAt.shaped d2 = true ∧ P (.bl (!PyData.eqv d1 d2)) mu
theorem eq_w : OpW X (rEqD X.K) eqW := fun w1 w2 x y mu H P Q dx dy m ⟨d1, d2, h1, h2, s1, s2, h⟩ k => ⟨d1, d2, asD_ok m dx h1, asD_ok m dy h2, s1, s2, k.now h rfl m⟩
theorem ne_w : OpW X (rNeD X.K) neW := fun w1 w2 x y mu H P Q dx dy m ⟨d1, d2, h1, h2, s1, s2, h⟩ k => ⟨d1, d2, asD_ok m dx h1, asD_ok m dy h2, s1, s2, k.now h rfl m⟩
/-! in -/
def rInT (K : PySem.W.Frag) (ng : Bool) : R2 := fun x y H Q => ∃ d ds, Dp K H x d ∧ (Dp K H y (.tuple ds) ∨ Dp K H y (.list ds)) ∧ SeqAt.shaped d = true ∧ PyData.canLayAll0 ds = true ∧ Q (.bl (ng != ds.any fun z => PyData.eqv z d)) H
theorem roomy {d : PyData} {n k : Nat} (h : SeqAt.shaped d = true) (hu : n + 65 < cLine) : n + 1 + min k d.depth < cLine := by
  unfold SeqAt.shaped at h
  rw [Bool.and_eq_true, decide_eq_true_eq] at h
  have := h.2
  omega
theorem op_inT (hu : X.A.units + 65 < cLine) : OpR X (compareOp .In) (rInT X.K false) := by
  intro pins s σ H x y v u Q I rx ry ⟨d, ds, hd, he, sd, se, q⟩
  obtain ⟨as, r1⟩ := Dp.reads I d x v hd rx
  have hl : d.canLay0 = true := by unfold SeqAt.shaped at sd; rw [Bool.and_eq_true] at sd; exact sd.1
  rcases he with he | he
  · obtain ⟨bs, r2⟩ := Dp.reads I _ y u he ry
    exact SeqAt.in_tuple_reads r2 r1 se hl (roomy sd hu) ⟨.bl _, H, I, by show Value.bool _ = Value.bool _; simp, q⟩
  · obtain ⟨bs, r2⟩ := Dp.reads I _ y u he ry
    exact SeqAt.in_list_reads r2 r1 se hl (roomy sd hu) ⟨.bl _, H, I, by show Value.bool _ = Value.bool _; simp, q⟩
theorem op_notInT (hu : X.A.units + 65 < cLine) : OpR X (compareOp .NotIn) (rInT X.K true) := by
  intro pins s σ H x y v u Q I rx ry ⟨d, ds, hd, he, sd, se, q⟩
  obtain ⟨as, r1⟩ := Dp.reads I d x v hd rx
  have hl : d.canLay0 = true := by unfold SeqAt.shaped at sd; rw [Bool.and_eq_true] at sd; exact sd.1
  rcases he with he | he
  · obtain ⟨bs, r2⟩ := Dp.reads I _ y u he ry
    exact SeqAt.notIn_tuple_reads r2 r1 se hl (roomy sd hu) ⟨.bl _, H, I, by show Value.bool _ = Value.bool _; simp, q⟩
  · obtain ⟨bs, r2⟩ := Dp.reads I _ y u he ry
    exact SeqAt.notIn_list_reads r2 r1 se hl (roomy sd hu) ⟨.bl _, H, I, by show Value.bool _ = Value.bool _; simp, q⟩
/-- the items of plW data that is walked or looked through -/
def itD (mu : Mu) : W → Option (List PyData)
  | .tup ws => if plsW ws then some (dats ws) else none
  | .fl ws => if plsW ws then some (dats ws) else none
  | .m a => match mu a with
    | some (.lst ws) => if plsW ws then some (dats ws) else none
    | _ => none
  | _ => none
theorem itD_ok {K : PySem.W.Frag} {H : Hp} {w : W} {v : V} {ds : List PyData} (m : HM K H mu) (dv : Den K H w v) (h : itD mu w = some ds) : Dp K H v (.tuple ds) ∨ Dp K H v (.list ds) := by
  cases w with
  | tup ws =>
    have h : (if plsW ws = true then some (dats ws) else none) = some ds := h
    by_cases q : plsW ws = true
    · rw [if_pos q] at h
      cases h
      have := Den.dp (.tup ws) (by unfold plW; exact q) dv
      unfold dat at this
      exact .inl this
    · rw [if_neg q] at h; cases h
  | fl ws =>
    have h : (if plsW ws = true then some (dats ws) else none) = some ds := h
    by_cases q : plsW ws = true
    · rw [if_pos q] at h
      cases h
      have := Den.dp (.fl ws) (by unfold plW; exact q) dv
      unfold dat at this
      exact .inr this
    · rw [if_neg q] at h; cases h
  | m a =>
    have dv : v = .ref a := dv
    subst dv
    have h : (match mu a with | some (.lst ws) => if plsW ws = true then some (dats ws) else none | _ => none) = some ds := h
    cases e : mu a with
    | none => rw [e] at h; cases h
    | some c =>
      rw [e] at h
      cases c with
      | lst ws =>
        have h : (if plsW ws = true then some (dats ws) else none) = some ds := h
        by_cases q : plsW ws = true
        · rw [if_pos q] at h
          cases h
          obtain ⟨xs, hx, dx⟩ := m a _ e
          exact .inr (.lst (SqL.of hx) (DenAll.dp ws q dx))
        · rw [if_neg q] at h; cases h
      | dic _ => cases h
      | ins _ _ => cases h
  | _ => cases h
abbrev inW (ng : Bool) (w1 w2 : W) (mu : Mu) (P : PW1) : Prop := plW w1 = true ∧ SeqAt.shaped (dat w1) = true ∧ ∃ ds, itD mu w2 = some ds ∧ PyData.canLayAll0 ds = true ∧ P (.bl (ng != ds.any fun z => PyData.eqv z (dat w1))) mu
theorem in_w (ng : Bool) : OpW X (rInT X.K ng) (inW ng) := fun w1 w2 x y mu H P Q dx dy m ⟨h1, s1, ds, h2, s2, h⟩ k => ⟨_, ds, Den.dp w1 h1 dx, itD_ok m dy h2, s1, s2, k.now h rfl m⟩
/-! in, of texts: one sign -/
abbrev inSW (w1 w2 : W) (mu : Mu) (P : PW1) : Prop := match w1, w2 with | .str i, .str j => P (.bl (!(Builtin.Str.occurrences j i 0 j.length 1).isEmpty)) mu | _, _ => False
theorem inS_w : OpW X (fun x y H Q => ∃ i j, x = .str i ∧ y = .str j ∧ Q (.bl (!(Builtin.Str.occurrences j i 0 j.length 1).isEmpty)) H) inSW := fun w1 w2 x y mu H P Q dx dy m h k => by
  unfold inSW at h
  split at h
  · rename_i i j
    exact ⟨i, j, dx, dy, k.now h rfl m⟩
  · exact h.elim
/-! <, of alike data -/
def rLtD (K : PySem.W.Frag) : R2 := fun x y H Q => ∃ d e, Dp K H x d ∧ Dp K H y e ∧ PySem.W.alike d e = true ∧ d ≠ .none ∧ d.depth ≤ 64 ∧ Q (.bl (PySem.W.dataLt d e)) H
theorem op_ltD (hu : X.A.units + 65 < cLine) : OpR X (compareOp .Lt) (rLtD X.K) := by
  intro pins s σ H x y v u Q I rx ry ⟨d, e, hd, he, al, nn, dp, q⟩
  obtain ⟨as, r1⟩ := Dp.reads I d x v hd rx
  obtain ⟨bs, r2⟩ := Dp.reads I e y u he ry
  exact PySem.W.rcLt_alike d e X.A s v u as bs r1 r2 al nn (by omega) X.prog X.w X.xe _ ⟨.bl _, H, I, rfl, q⟩
abbrev ltW (w1 w2 : W) (mu : Mu) (P : PW1) : Prop := plW w1 = true ∧ plW w2 = true ∧ PySem.W.alike (dat w1) (dat w2) = true ∧ dat w1 ≠ .none ∧ (dat w1).depth ≤ 64 ∧ P (.bl (PySem.W.dataLt (dat w1) (dat w2))) mu
theorem lt_w : OpW X (rLtD X.K) ltW := fun w1 w2 x y mu H P Q dx dy m ⟨h1, h2, al, nn, dp, h⟩ k => ⟨_, _, Den.dp w1 h1 dx, Den.dp w2 h2 dy, al, nn, dp, k.now h rfl m⟩
/-! ints -/
abbrev cmpI (g : Int → Int → Bool) (w1 w2 : W) (mu : Mu) (P : PW1) : Prop := match w1, w2 with | .int i, .int j => P (.bl (g i j)) mu | _, _ => False
theorem cmpI_w {g : Int → Int → Bool} : OpW X (rI0 fun i j => V.bl (g i j)) (cmpI g) := fun w1 w2 x y mu H P Q dx dy m h k => by
  unfold cmpI at h
  split at h
  · rename_i i j
    exact ⟨i, j, dx, dy, k.now h rfl m⟩
  · exact h.elim
end
end Dv
set_option Elab.async false
set_option linter.all false
set_option maxRecDepth 100000
/-! Subscripts, slices, zip, enumerate, fields, methods of lists, while, stores. -/
namespace Dv
open PySem L2
section
variable {X : Cx} {e a b c : Expr} {es : List Expr} {st : Stmt} {sts : List Stmt} {G : Gs} {mu mu' : Mu} {pos p : Pos} {P : PW1}
/-! x[i] -/
abbrev ixW (w1 w2 : W) (mu : Mu) (P : PW1) : Prop := match w1, w2 with
  | .tup ws, .int i => ∃ w, atI ws i = some w ∧ P w mu
  | .m a, .int i => ∃ ws w, mu a = some (.lst ws) ∧ atI ws i = some w ∧ P w mu
  | .str z, .int i => ∃ c, z.length ≤ sizeLine ∧ atI z.cps.toList i = some c ∧ P (.str ⟨#[c]⟩) mu
  | _, _ => False
theorem atI_den {K : PySem.W.Frag} {H : Hp} {ws : List W} {xs : List V} {i : Int} {w : W} (d : DenAll K H ws xs) (h : atI ws i = some w) : ∃ v, atI xs i = some v ∧ Den K H w v := by
  unfold atI at h ⊢
  rw [d.length] at h
  cases e : ixN xs.length i with
  | none => rw [e] at h; cases h
  | some j =>
    rw [e] at h
    have h : ws[j]? = some w := h
    obtain ⟨v, h1, h2⟩ := d.get' h
    exact ⟨v, h1, h2⟩
theorem se_ix (h : SE X a G mu fun w1 mu1 => SE X b G mu1 fun w2 mu2 => ixW w1 w2 mu2 P) (hs : PlainIx b := by exact fun _ _ => rfl) : SE X (.Subscript a b pos) G mu P :=
  SE.mk (pe_ix ix_seq peE peE hs) fun σ H Q d m k => h σ H _ d m fun x w1 mu1 H1 h1 c1 d1 m1 => h1 σ H1 _ (c1.denG m d) m1 fun y w2 mu2 H2 h2 c2 d2 m2 => by
    have d1 := c2.den m1 d1
    have k := k.step (c1.trans c2)
    cases w1 with
    | tup ws =>
      cases w2 with
      | int i =>
        obtain ⟨w, e, q⟩ := h2
        obtain ⟨aa, xs, rfl, s, dx⟩ := d1
        obtain ⟨v, e2, dv⟩ := atI_den dx e
        exact .inr (.inl ⟨aa, xs, i, v, rfl, d2, s, e2, k.now q dv m2⟩)
      | _ => exact False.elim h2
    | m aa =>
      cases w2 with
      | int i =>
        obtain ⟨ws, w, e0, e, q⟩ := h2
        have d1 : x = .ref aa := d1
        subst d1
        obtain ⟨xs, hx, dx⟩ := m2 aa _ e0
        obtain ⟨v, e2, dv⟩ := atI_den dx e
        exact .inl ⟨aa, xs, i, v, rfl, d2, SqL.of hx, e2, k.now q dv m2⟩
      | _ => exact False.elim h2
    | str z =>
      cases w2 with
      | int i =>
        obtain ⟨cc, hz, e, q⟩ := h2
        exact .inr (.inr ⟨z, i, cc, d1, d2, hz, e, k.now q rfl m2⟩)
      | _ => exact False.elim h2
    | _ => cases w2 <;> exact False.elim h2
/-! x[lo:hi] -/
def cutW (xs : List W) (lo hi : Option Int) : List W := (xs.drop (HT.sIx xs.length 0 lo)).take (HT.sIx xs.length xs.length hi - HT.sIx xs.length 0 lo)
theorem cut_den {K : PySem.W.Frag} {H : Hp} {ws : List W} {xs : List V} (lo hi : Option Int) (d : DenAll K H ws xs) : DenAll K H (cutW ws lo hi) (cutV xs lo hi) := by
  unfold cutW cutV
  rw [d.length]
  exact (d.drop _).take _
abbrev slW (w : W) (lo hi : Option Int) (mu : Mu) (P : PW1) : Prop := match w with
  | .tup ws => P (.tup (cutW ws lo hi)) mu
  | .m a => ∃ ws, mu a = some (.lst ws) ∧ ∀ p, mu p = none → P (.m p) (setM mu p (.lst (cutW ws lo hi)))
  | .str z => z.length ≤ sizeLine ∧ P (.str (cutS z lo hi)) mu
  | _ => False
theorem cut_whole {xs : List V} {lo hi : Option Int} (h : HT.sIx xs.length 0 lo = 0 ∧ HT.sIx xs.length xs.length hi = xs.length) : cutV xs lo hi = xs := by
  unfold cutV
  rw [h.1, h.2]
  simp
theorem sl_rd {w : W} {x : V} {lo hi : Option Int} {mu : Mu} {H : Hp} {Q : VK} (d : Den X.K H w x) (m : HM X.K H mu) (h : slW w lo hi mu P) (k : Kont X.K mu H P Q) : rSlL X.K x lo hi H Q ∨ rSlA X.K x lo hi H Q ∨ rSlS x lo hi H Q := by
  unfold slW at h
  split at h
  · rename_i ws
    obtain ⟨aa, xs, rfl, s, dx⟩ := d
    have dc := cut_den lo hi dx
    refine .inr (.inl ⟨aa, xs, rfl, s, fun q => ?_, fun q p hp => ?_⟩)
    · rw [cut_whole q] at dc
      exact k.now h ⟨aa, xs, rfl, s, dc⟩ m
    · obtain ⟨c2, m2⟩ := laid (o := .tup (cutV xs lo hi)) m hp
      exact k _ _ mu _ h c2 ⟨p, _, rfl, SqT.of upd_same, c2.denAll m dc⟩ m2
  · rename_i aa
    obtain ⟨ws, e, h⟩ := h
    have d : x = .ref aa := d
    subst d
    obtain ⟨xs, hx, dx⟩ := m aa _ e
    refine .inl ⟨aa, xs, rfl, SqL.of hx, fun p hp => ?_⟩
    obtain ⟨c2, m2⟩ := laidC (o := .lst (cutV xs lo hi)) (c := .lst (cutW ws lo hi)) m hp (newLst (cut_den lo hi dx))
    exact k _ _ _ _ (h p (m.dom hp)) c2 rfl m2
  · rename_i z
    exact .inr (.inr ⟨z, d, h.1, k.now h.2 rfl m⟩)
  · exact h.elim
theorem sl_all : SlR X fun x l u H Q => rSlL X.K x l u H Q ∨ rSlA X.K x l u H Q ∨ rSlS x l u H Q := SlR.or sl_list (SlR.or sl_tupA sl_str)
abbrev isI (w : W) (P : Int → Prop) : Prop := match w with | .int i => P i | _ => False
theorem isI_den {K : PySem.W.Frag} {H : Hp} {w : W} {v : V} {P : Int → Prop} (h : isI w P) (d : Den K H w v) : ∃ i, v = .int i ∧ P i := by
  cases w with
  | int i => exact ⟨i, d, h⟩
  | _ => exact h.elim
theorem se_slFrom {p2 : Pos} (h : SE X a G mu fun w1 mu1 => SE X b G mu1 fun w2 mu2 => isI w2 fun i => slW w1 (some i) none mu2 P) : SE X (.Subscript a (.Slice (some b) none none p2) pos) G mu P :=
  SE.mk (pe_slice sl_all peE (po_some peE) po_none) fun σ H Q d m k => h σ H _ d m fun x w1 mu1 H1 h1 c1 d1 m1 => h1 σ H1 _ (c1.denG m d) m1 fun y w2 mu2 H2 h2 c2 d2 m2 => by
    obtain ⟨i, e, q⟩ := isI_den h2 d2
    exact ⟨i, e, sl_rd (c2.den m1 d1) m2 q (k.step (c1.trans c2))⟩
theorem se_slTo {p2 : Pos} (h : SE X a G mu fun w1 mu1 => SE X b G mu1 fun w2 mu2 => isI w2 fun i => slW w1 none (some i) mu2 P) : SE X (.Subscript a (.Slice none (some b) none p2) pos) G mu P :=
  SE.mk (pe_slice sl_all peE po_none (po_some peE)) fun σ H Q d m k => h σ H _ d m fun x w1 mu1 H1 h1 c1 d1 m1 => h1 σ H1 _ (c1.denG m d) m1 fun y w2 mu2 H2 h2 c2 d2 m2 => by
    obtain ⟨i, e, q⟩ := isI_den h2 d2
    exact ⟨i, e, sl_rd (c2.den m1 d1) m2 q (k.step (c1.trans c2))⟩
theorem se_slMid {p2 : Pos} (h : SE X a G mu fun w1 mu1 => SE X b G mu1 fun w2 mu2 => isI w2 fun i => SE X c G mu2 fun w3 mu3 => isI w3 fun j => slW w1 (some i) (some j) mu3 P) : SE X (.Subscript a (.Slice (some b) (some c) none p2) pos) G mu P :=
  SE.mk (pe_slice sl_all peE (po_some peE) (po_some peE)) fun σ H Q d m k => h σ H _ d m fun x w1 mu1 H1 h1 c1 d1 m1 => h1 σ H1 _ (c1.denG m d) m1 fun y w2 mu2 H2 h2 c2 d2 m2 => by
    obtain ⟨i, e, q⟩ := isI_den h2 d2
    refine ⟨i, e, (show SE X c G mu2 _ from q) σ H2 _ ((c1.trans c2).denG m d) m2 fun z w3 mu3 H3 h3 c3 d3 m3 => ?_⟩
    obtain ⟨j, e3, q3⟩ := isI_den h3 d3
    exact ⟨j, e3, sl_rd (c3.den m2 (c2.den m1 d1)) m3 q3 (k.step ((c1.trans c2).trans c3))⟩
/-! zip -/
theorem zip_itw {K : PySem.W.Frag} {J : It} {ws us : List W} {xs ys : List V} {mu : Mu} {H : Hp} {Gh : Hp → Prop} {Gm : Mu → Prop} (m : HM K H mu) (dx : DenAll K H ws xs) (dy : DenAll K H us ys)
    (wk : Walk J (min xs.length ys.length) Gh (YPair (fun i => xs[i]?) fun i => ys[i]?)) (hg : ∀ mu' H', Chg mu H mu' H' → HM K H' mu' → Gm mu' → Gh H') : ItW K J ((ws.zip us).map fun q => W.tup [q.1, q.2]) Gm mu H := by
  refine ⟨Gh, _, by rw [List.length_map, List.length_zip, dx.length, dy.length]; exact wk, hg, fun i H1 x H2 mu' hi c m' _ y => ?_⟩
  obtain ⟨T, x1, y1, rfl, hT, rfl, e1, e2⟩ := y
  obtain ⟨w1, f1, g1⟩ := dx.get e1
  obtain ⟨w2, f2, g2⟩ := dy.get e2
  obtain ⟨c2, m2⟩ := laid (o := .tup [x1, y1]) m' hT
  refine ⟨.tup [w1, w2], ?_, c2, m2, T, _, rfl, SqT.of upd_same, x1, [y1], rfl, c2.den m' (c.den m g1), y1, [], rfl, c2.den m' (c.den m g2), rfl⟩
  rw [List.getElem?_map]
  have : (ws.zip us)[i]? = some (w1, w2) := by rw [List.getElem?_zip_eq_some]; exact ⟨f1, f2⟩
  rw [this]
  rfl
theorem walk_zipT {K : PySem.W.Frag} {a b : Addr} {xs ys : List V} {n : Nat} (hn : n = min xs.length ys.length) : Walk (RZ.ItzT K a b) n (fun H => SqT K H a xs ∧ SqT K H b ys) (YPair (fun i => xs[i]?) fun i => ys[i]?) := by
  subst hn
  refine ⟨fun i H hi q => ?_, fun H q => ⟨xs, ys, q.1, q.2, by omega⟩, fun i H v H' hi q y => ?_⟩
  · have h1 : i < xs.length := by omega
    have h2 : i < ys.length := by omega
    exact ⟨xs, ys, xs[i], ys[i], q.1, q.2, by simp [h1], by simp [h2]⟩
  · obtain ⟨T, x, y, h1, h2, h3, h4, h5⟩ := y
    exact ⟨T, x, y, h1, h2, h3, h4 _ q.1, h5 _ q.2⟩
theorem zipL_itw {K : PySem.W.Frag} {a b : Addr} {ws us : List W} {mu : Mu} {H : Hp} (m : HM K H mu) : ItW K (Itz K a b) ((ws.zip us).map fun q => W.tup [q.1, q.2]) (fun mu' => mu' a = some (.lst ws) ∧ mu' b = some (.lst us)) mu H := by
  refine ⟨fun H' => ∃ xs ys, SqL K H' a xs ∧ SqL K H' b ys ∧ DenAll K H' ws xs ∧ DenAll K H' us ys,
    fun i H1 v H2 => ∃ T x y w1 w2, v = .ref T ∧ H1 T = none ∧ H2 = upd H1 T (.tup [x, y]) ∧ ws[i]? = some w1 ∧ us[i]? = some w2 ∧ Den K H1 w1 x ∧ Den K H1 w2 y, ⟨fun i H' hi q => ?_, fun H' q => ?_, fun i H' x H'' hi q y => ?_⟩, fun mu' H' c m' g => ?_, fun i H1 v H2 mu' hi c m' g y => ?_⟩
  · obtain ⟨xs, ys, s1, s2, d1, d2⟩ := q
    rw [List.length_map, List.length_zip, d1.length, d2.length] at hi
    have h1 : i < xs.length := by omega
    have h2 : i < ys.length := by omega
    exact ⟨xs, ys, xs[i], ys[i], s1, s2, by simp [h1], by simp [h2]⟩
  · obtain ⟨xs, ys, s1, s2, d1, d2⟩ := q
    refine ⟨xs, ys, s1, s2, ?_⟩
    rw [List.length_map, List.length_zip, d1.length, d2.length]
    omega
  · obtain ⟨xs, ys, s1, s2, d1, d2⟩ := q
    obtain ⟨T, x1, y1, h1, h2, h3, h4, h5⟩ := y
    obtain ⟨w1, f1, g1⟩ := d1.get (h4 xs s1)
    obtain ⟨w2, f2, g2⟩ := d2.get (h5 ys s2)
    exact ⟨T, x1, y1, w1, w2, h1, h2, h3, f1, f2, g1, g2⟩
  · obtain ⟨xs, h1, d1⟩ := m' a _ g.1
    obtain ⟨ys, h2, d2⟩ := m' b _ g.2
    exact ⟨xs, ys, SqL.of h1, SqL.of h2, d1, d2⟩
  · obtain ⟨T, x1, y1, w1, w2, rfl, hT, rfl, f1, f2, g1, g2⟩ := y
    obtain ⟨c2, m2⟩ := laid (o := .tup [x1, y1]) m' hT
    refine ⟨.tup [w1, w2], ?_, c2, m2, T, _, rfl, SqT.of upd_same, x1, [y1], rfl, c2.den m' g1, y1, [], rfl, c2.den m' g2, rfl⟩
    rw [List.getElem?_map]
    have : (ws.zip us)[i]? = some (w1, w2) := by rw [List.getElem?_zip_eq_some]; exact ⟨f1, f2⟩
    rw [this]
    rfl
abbrev zipW (w1 w2 : W) (mu : Mu) (Post : List W → (Mu → Prop) → Mu → Prop) : Prop := match w1, w2 with
  | .tup ws, .tup us => Post ((ws.zip us).map fun q => W.tup [q.1, q.2]) (fun _ => True) mu
  | .m a, .m b => ∃ ws us, mu a = some (.lst ws) ∧ mu b = some (.lst us) ∧ Post ((ws.zip us).map fun q => W.tup [q.1, q.2]) (fun mu' => mu' a = some (.lst ws) ∧ mu' b = some (.lst us)) mu
  | _, _ => False
theorem si_zip {elts : List Expr} {kk : Nat} {tpos : Pos} {Post : List W → (Mu → Prop) → Mu → Prop} (h : SE X a G mu fun w1 mu1 => SE X b G mu1 fun w2 mu2 => zipW w1 w2 mu2 Post) (hm : X.mg "zip" = none) (hg : Gl X "zip" := by rfl)
    (hs : starEach [a, b] X.env = (false, eval a X.env) :: starEach [b] X.env := by rfl) (hs2 : starEach [b] X.env = [(false, eval b X.env)] := by rfl) (hpl : (backTo pos (starEach [b] X.env)).any (·.1) = false := by rfl) :
    SI X (.Tuple elts kk tpos) (.Call (.Name "zip" p) [a, b] [] pos) G mu Post :=
  SI.mk (RZ.pi_zipA hg hm (pa_cons peE (pa_cons peE pa_nil hs2) hs) hs hpl) fun σ H R d m k => h σ H _ d m fun x w1 mu1 H1 h1 c1 d1 m1 => h1 σ H1 _ (c1.denG m d) m1 fun y w2 mu2 H2 h2 c2 d2 m2 => by
    have d1 := c2.den m1 d1
    have c12 := c1.trans c2
    cases w1 with
    | tup ws =>
      cases w2 with
      | tup us =>
        obtain ⟨a1, xs, rfl, s1, dx⟩ := d1
        obtain ⟨a2, ys, rfl, s2, dy⟩ := d2
        exact ⟨a1, a2, xs, ys, rfl, .inr ⟨s1, s2, k _ _ _ _ _ h2 c12 m2 (zip_itw m2 dx dy (walk_zipT rfl) fun mu' H' c m' _ => ⟨c.sqt m2 _ _ s1, c.sqt m2 _ _ s2⟩)⟩⟩
      | _ => exact False.elim h2
    | m a1 =>
      cases w2 with
      | m a2 =>
        obtain ⟨ws, us, e1, e2, h3⟩ := h2
        have d1 : x = .ref a1 := d1
        have d2 : y = .ref a2 := d2
        subst d1 d2
        obtain ⟨xs, hx, dx⟩ := m2 a1 _ e1
        obtain ⟨ys, hy, dy⟩ := m2 a2 _ e2
        exact ⟨a1, a2, xs, ys, rfl, .inl ⟨SqL.of hx, SqL.of hy, k _ _ _ _ _ h3 c12 m2 (zipL_itw m2)⟩⟩
      | _ => exact False.elim h2
    | _ => cases w2 <;> exact False.elim h2
end
end Dv
set_option Elab.async false
set_option linter.all false
set_option maxRecDepth 100000
/-! Methods of lists, stores, dicts, fields, while, parallel stores. -/
namespace Dv
open PySem L2
section
variable {X : Cx} {e a b c : Expr} {es : List Expr} {st : Stmt} {sts : List Stmt} {G : Gs} {mu mu' : Mu} {pos p apos cpos : Pos} {P : PW1}
/-! a list's methods with one argument -/
abbrev MtW (X : Cx) (r : V → List V → Hp → VK → Prop) (f : W → List W → Mu → PW1 → Prop) : Prop := ∀ w ws v vs mu H P Q, Den X.K H w v → DenAll X.K H ws vs → HM X.K H mu → f w ws mu P → Kont X.K mu H P Q → r v vs H Q
theorem se_lm {name : Str} {id : String} {r : V → List V → Hp → VK → Prop} {f : W → List W → Mu → PW1 → Prop} (hs : Slot "list" name id) (ht : typeOf (Value.builtin id) = pure (Value.type "method_descriptor")) (hr : MtR X id r) (hw : MtW X r f)
    (h : SE X a G mu fun w mu1 => match w with | .m aa => (∃ ws, mu1 aa = some (.lst ws)) ∧ SA X (e :: es) G mu1 fun ws mu2 => f (.m aa) ws mu2 P | _ => False)
    (hb : attributeBase a name X.env (eval a X.env) = eval a X.env := by rfl) (hq : (((backTo cpos (starEach (e :: es) X.env)).all fun x => !x.1) && (backToKw cpos (keywordEach [] X.env)).all (fun x => x.1.isSome) && decide (((e :: es).length + ([] : List Keyword).length + if ([] : List Keyword).isEmpty = true then 0 else 1) < 30)) = true := by rfl)
    (hl : (apos.endLine == cpos.line) = true := by rfl) (he : starEach (e :: es) X.env = (false, eval e X.env) :: starEach es X.env := by rfl) (hpl : (backTo cpos (starEach es X.env)).any (·.1) = false := by rfl) : SE X (.Call (.Attribute a name apos) (e :: es) [] cpos) G mu P :=
  SE.mk (pe_bm PySem.F.plainAttrs_list hs ht hr peE paA hb hq hl he hpl) fun σ H Q d m k => h σ H _ d m fun v w mu1 H1 h1 c1 d1 m1 => by
    cases w with
    | m aa =>
      obtain ⟨⟨ws, e0⟩, h2⟩ := h1
      have d1 : v = .ref aa := d1
      subst d1
      obtain ⟨xs, hx, dx⟩ := m1 aa _ e0
      exact ⟨.inl ⟨rfl, xs, SqL.of hx⟩, h2 σ H1 _ (c1.denG m d) m1 fun vs ws' mu2 H2 h3 c2 d2 m2 => hw (.m aa) _ _ _ _ _ _ _ rfl d2 m2 h3 (k.step (c1.trans c2))⟩
    | _ => exact False.elim h1
abbrev appW (w : W) (ws : List W) (mu : Mu) (P : PW1) : Prop := match w, ws with | .m a, [y] => ∃ us, mu a = some (.lst us) ∧ us.length < sizeLine ∧ P .non (setM mu a (.lst (us ++ [y]))) | _, _ => False
theorem app_w : MtW X rAppend appW := fun w ws v vs mu H P Q dv dvs m h k => by
  unfold appW at h
  split at h
  · rename_i aa y
    obtain ⟨us, e, hl, q⟩ := h
    obtain ⟨y', rfl, dy⟩ := dvs.one
    have dv : v = .ref aa := dv
    subst dv
    obtain ⟨xs, hx, dx⟩ := m aa _ e
    obtain ⟨c2, m2⟩ := wrote (o := .lst (xs ++ [y'])) (c := .lst (us ++ [y])) m e (newLst (DenAll.append dx ⟨y', [], rfl, dy, rfl⟩))
    exact ⟨aa, xs, y', rfl, rfl, hx, by rw [← dx.length]; exact hl, k _ _ _ _ q c2 rfl m2⟩
  · exact h.elim
theorem se_append (h : SE X a G mu fun w mu1 => match w with | .m aa => (∃ ws, mu1 aa = some (.lst ws)) ∧ SA X [e] G mu1 fun ws mu2 => appW (.m aa) ws mu2 P | _ => False)
    (hb : attributeBase a "append" X.env (eval a X.env) = eval a X.env := by rfl) (hq : (((backTo cpos (starEach [e] X.env)).all fun x => !x.1) && (backToKw cpos (keywordEach [] X.env)).all (fun x => x.1.isSome) && decide (([e].length + ([] : List Keyword).length + if ([] : List Keyword).isEmpty = true then 0 else 1) < 30)) = true := by rfl)
    (hl : (apos.endLine == cpos.line) = true := by rfl) (he : starEach [e] X.env = (false, eval e X.env) :: starEach [] X.env := by rfl) (hpl : (backTo cpos (starEach [] X.env)).any (·.1) = false := by rfl) : SE X (.Call (.Attribute a "append" apos) [e] [] cpos) G mu P :=
  se_lm PySem.F.slot_list_append PySem.F.type_list_append mt_append app_w h hb hq hl he hpl
abbrev extW (w : W) (ws : List W) (mu : Mu) (P : PW1) : Prop := match w, ws with | .m a, [.m b] => ∃ us zs, mu a = some (.lst us) ∧ mu b = some (.lst zs) ∧ us.length + zs.length ≤ sizeLine ∧ P .non (setM mu a (.lst (us ++ zs))) | _, _ => False
theorem ext_w : MtW X rExtend extW := fun w ws v vs mu H P Q dv dvs m h k => by
  unfold extW at h
  split at h
  · rename_i aa bb
    obtain ⟨us, zs, e, e2, hl, q⟩ := h
    obtain ⟨y', rfl, dy⟩ := dvs.one
    have dv : v = .ref aa := dv
    have dy : y' = .ref bb := dy
    subst dv dy
    obtain ⟨xs, hx, dx⟩ := m aa _ e
    obtain ⟨ys, hy, dy⟩ := m bb _ e2
    obtain ⟨c2, m2⟩ := wrote (o := .lst (xs ++ ys)) (c := .lst (us ++ zs)) m e (newLst (DenAll.append dx dy))
    exact ⟨aa, bb, xs, ys, rfl, rfl, hx, hy, by rw [← dx.length, ← dy.length]; exact hl, k _ _ _ _ q c2 rfl m2⟩
  · exact h.elim
theorem se_extend (h : SE X a G mu fun w mu1 => match w with | .m aa => (∃ ws, mu1 aa = some (.lst ws)) ∧ SA X [e] G mu1 fun ws mu2 => extW (.m aa) ws mu2 P | _ => False)
    (hb : attributeBase a "extend" X.env (eval a X.env) = eval a X.env := by rfl) (hq : (((backTo cpos (starEach [e] X.env)).all fun x => !x.1) && (backToKw cpos (keywordEach [] X.env)).all (fun x => x.1.isSome) && decide (([e].length + ([] : List Keyword).length + if ([] : List Keyword).isEmpty = true then 0 else 1) < 30)) = true := by rfl)
    (hl : (apos.endLine == cpos.line) = true := by rfl) (he : starEach [e] X.env = (false, eval e X.env) :: starEach [] X.env := by rfl) (hpl : (backTo cpos (starEach [] X.env)).any (·.1) = false := by rfl) : SE X (.Call (.Attribute a "extend" apos) [e] [] cpos) G mu P :=
  se_lm PySem.F.slot_list_extend PySem.F.type_list_extend mt_extend ext_w h hb hq hl he hpl
abbrev popW (w : W) (ws : List W) (mu : Mu) (P : PW1) : Prop := match w, ws with | .m a, [.int i] => ∃ us k y, mu a = some (.lst us) ∧ -(2 ^ 63) ≤ i ∧ i < 2 ^ 63 ∧ seqIndex? i us.length = some k ∧ us[k]? = some y ∧ P y (setM mu a (.lst (us.eraseIdx k))) | _, _ => False
theorem DenAll.erase {K : PySem.W.Frag} {H : Hp} : ∀ {ws : List W} {vs : List V} (i : Nat), DenAll K H ws vs → DenAll K H (ws.eraseIdx i) (vs.eraseIdx i)
  | [], _, i, d => by have d : _ = _ := d; subst d; simp [DenAll]
  | w :: ws, _, 0, ⟨v, r, e, d1, d2⟩ => by subst e; exact d2
  | w :: ws, _, i + 1, ⟨v, r, e, d1, d2⟩ => by subst e; exact ⟨v, _, rfl, d1, DenAll.erase i d2⟩
theorem pop_w : MtW X rPopAt popW := fun w ws v vs mu H P Q dv dvs m h k => by
  unfold popW at h
  split at h
  · rename_i aa i
    obtain ⟨us, kk, y, e, l1, l2, hk, hy, q⟩ := h
    obtain ⟨y', rfl, dy⟩ := dvs.one
    have dv : v = .ref aa := dv
    have dy : y' = .int i := dy
    subst dv dy
    obtain ⟨xs, hx, dx⟩ := m aa _ e
    obtain ⟨v, hv, dv⟩ := dx.get' hy
    obtain ⟨c2, m2⟩ := wrote (o := .lst (xs.eraseIdx kk)) (c := .lst (us.eraseIdx kk)) m e (newLst (dx.erase kk))
    exact ⟨aa, xs, i, kk, v, rfl, rfl, hx, l1, l2, by rw [← dx.length]; exact hk, hv, k _ _ _ _ q c2 (c2.den m dv) m2⟩
  · exact h.elim
theorem se_pop (h : SE X a G mu fun w mu1 => match w with | .m aa => (∃ ws, mu1 aa = some (.lst ws)) ∧ SA X [e] G mu1 fun ws mu2 => popW (.m aa) ws mu2 P | _ => False)
    (hb : attributeBase a "pop" X.env (eval a X.env) = eval a X.env := by rfl) (hq : (((backTo cpos (starEach [e] X.env)).all fun x => !x.1) && (backToKw cpos (keywordEach [] X.env)).all (fun x => x.1.isSome) && decide (([e].length + ([] : List Keyword).length + if ([] : List Keyword).isEmpty = true then 0 else 1) < 30)) = true := by rfl)
    (hl : (apos.endLine == cpos.line) = true := by rfl) (he : starEach [e] X.env = (false, eval e X.env) :: starEach [] X.env := by rfl) (hpl : (backTo cpos (starEach [] X.env)).any (·.1) = false := by rfl) : SE X (.Call (.Attribute a "pop" apos) [e] [] cpos) G mu P :=
  se_lm PySem.F.slot_list_pop PySem.F.type_list_pop mt_popAt pop_w h hb hq hl he hpl
/-! xs[i] = e -/
abbrev stW (o i w : W) (G : Gs) (mu : Mu) (N : Gs → Mu → Prop) : Prop := match o, i with | .m a, .int k => ∃ us j, mu a = some (.lst us) ∧ ixN us.length k = some j ∧ N G (setM mu a (.lst (us.set j w))) | _, _ => False
theorem ss_stL {E : WE} {tpos : Pos} (h : SE X e G mu fun w mu1 => SE X a G mu1 fun o mu2 => SE X b G mu2 fun i mu3 => stW o i w G mu3 E.nx)
    (ha0 : ∀ v, assign (.Subscript a b tpos) X.env v = (do
      let ov ← holding [v] (eval a X.env)
      let iv ← holding [v, ov] (eval b X.env)
      standAt tpos
      holding [v, ov, iv] (setItem ov iv v)
      release [v, ov, iv] []) := by intro _; rfl)
    (hs : swapsWithSole [.Subscript a b tpos] e pos.line X.env = pure false := by rfl) (hw : swappedStores [.Subscript a b tpos] e X.env = pure none := by rfl)
    (ha : (assignEach [.Subscript a b tpos] X.env).map (·.2) = [assign (.Subscript a b tpos) X.env] := by rfl) : SS X (.Assign [.Subscript a b tpos] e pos) G mu E :=
  SS.mk (ps_asg peE (pg_sub peE peE set_list ha0) hs hw ha) fun σ H D d m k => h σ H _ d m fun v w mu1 H1 h1 c1 d1 m1 => h1 σ H1 _ (c1.denG m d) m1 fun ov o mu2 H2 h2 c2 d2 m2 => h2 σ H2 _ ((c1.trans c2).denG m d) m2 fun iv i mu3 H3 h3 c3 d3 m3 => by
    have d2 := c3.den m2 d2
    have d1 := c3.den m2 (c2.den m1 d1)
    have cc := (c1.trans c2).trans c3
    cases o with
    | m aa =>
      cases i with
      | int kk =>
        obtain ⟨us, j, e0, hj, q⟩ := h3
        have d2 : ov = .ref aa := d2
        subst d2
        obtain ⟨xs, hx, dx⟩ := m3 aa _ e0
        obtain ⟨c4, m4⟩ := wrote (o := .lst (xs.set j v)) (c := .lst (us.set j w)) m3 e0 (newLst (dx.set j d1))
        exact ⟨aa, xs, kk, j, rfl, d3, hx, by rw [← dx.length]; exact hj, k.nx _ _ _ _ q (cc.trans c4) (c4.denG m3 (cc.denG m d)) m4⟩
      | _ => exact False.elim h3
    | _ => cases i <;> exact False.elim h3
/-! while -/
theorem ss_while {body : List Stmt} {E : WE} (hp : PassesOwn (model X.prog X.w) X.A X.env X.xe) (I : Nat → Gs → Mu → Prop) (h0 : ∃ n, I n G mu)
    (ht : ∀ n G' mu', I n G' mu' → ST X c G' mu' fun kk mu2 => if2 kk (SSs X body G' mu2 { E with nx := fun G3 mu3 => ∃ n', n' < n ∧ I n' G3 mu3, ct := fun G3 mu3 => ∃ n', n' < n ∧ I n' G3 mu3, bk := E.nx }) (E.nx G' mu2)) : SS X (.While c body [] pos) G mu E :=
  SS.mk (ps_while hp ptT pssS) fun σ H D d m k => by
    refine ⟨fun n σ' H' => ∃ G' mu', I n G' mu' ∧ Chg mu H mu' H' ∧ DenG X.K H' G' σ' ∧ HM X.K H' mu', ?_, fun n σ' H' ⟨G', mu', q, c1, d1, m1⟩ => ?_⟩
    · obtain ⟨n, q⟩ := h0
      exact ⟨n, G, mu, q, Chg.refl, d, m⟩
    · refine ht n G' mu' q σ' H' _ d1 m1 fun kk mu2 H2 h2 c2 m2 => ?_
      have c12 := c1.trans c2
      cases kk with
      | true => exact iteT ⟨fun σ3 H3 => ∃ n', n' < n ∧ ∃ G' mu', I n' G' mu' ∧ Chg mu H mu' H3 ∧ DenG X.K H3 G' σ3 ∧ HM X.K H3 mu', fun σ3 H3 ⟨n', l, q⟩ => ⟨n', l, q⟩,
          h2 σ' H2 _ (c2.denG m1 d1) m2 ⟨fun σ4 G4 mu4 H4 ⟨n', l, q⟩ c4 d4 m4 => ⟨n', l, G4, mu4, q, c12.trans c4, d4, m4⟩, k.rt.step c12, k.nx.step c12, fun σ4 G4 mu4 H4 ⟨n', l, q⟩ c4 d4 m4 => ⟨n', l, G4, mu4, q, c12.trans c4, d4, m4⟩⟩⟩
      | false => exact iteF (k.nx _ _ _ _ h2 c12 (c2.denG m1 d1) m2)
/-! a, b = x, y -/
theorem ss_par {i j : Nat} {x y : Str} {px py pt : Pos} {kt k2 : Nat} {pt2 : Pos} {E : WE} (h : SE X a G mu fun w mu1 => SE X b G mu1 fun w2 mu2 => E.nx ((G.set i (some w)).set j (some w2)) mu2) (hc : X.calm = true) (hN : X.N.Nodup) (hij : i ≠ j)
    (hsw : swappedStores [.Tuple [.Name x px, .Name y py] kt pt] (.Tuple [a, b] k2 pt2) X.env = pure (some [x, y])) (hi : X.N[i]? = some x := by rfl) (hj : X.N[j]? = some y := by rfl) (hx : X.env.scope.names.lookup x = some .local := by rfl) (hy : X.env.scope.names.lookup y = some .local := by rfl)
    (hs : starEach [a, b] X.env = (false, eval a X.env) :: starEach [b] X.env := by rfl) (hs2 : starEach [b] X.env = [(false, eval b X.env)] := by rfl) (hso : swapsWithSole [.Tuple [.Name x px, .Name y py] kt pt] (.Tuple [a, b] k2 pt2) pos.line X.env = pure false := by rfl) :
    SS X (.Assign [.Tuple [.Name x px, .Name y py] kt pt] (.Tuple [a, b] k2 pt2) pos) G mu E :=
  SS.mk (ps_par hc hN hi hj hij hx hy (pa_cons peE (pa_cons peE pa_nil hs2) hs) hsw hso) fun σ H D d m k => h σ H _ d m fun v w mu1 H1 h1 c1 d1 m1 => h1 σ H1 _ (c1.denG m d) m1 fun v2 w2 mu2 H2 h2 c2 d2 m2 =>
    ⟨v, v2, rfl, k.nx _ _ _ _ h2 (c1.trans c2) (DenG.set (DenG.set ((c1.trans c2).denG m d) (c2.den m1 d1)) d2) m2⟩
end
end Dv
set_option Elab.async false
set_option linter.all false
set_option maxRecDepth 100000
/-! Dicts by values; fields of instances. -/
namespace Dv
open PySem L2
def kW : Key → W
  | .inl i => .int i
  | .inr x => .str x
section
variable {K : PySem.W.Frag} {H : Hp} {κ : Type} [DecidableEq κ]
theorem kW_den {k : Key} {v : V} (d : Den K H (kW k) v) : v = kV k := by
  cases k with
  | inl i => exact d
  | inr x => exact d
theorem kV_den {k : Key} : Den K H (kW k) (kV k) := by
  cases k with
  | inl i => rfl
  | inr x => rfl
/-- what pairs hold at a key -/
def valW (kvs : List (κ × W)) (k : κ) : Option W := match kvs with
  | [] => none
  | (j, w) :: r => if j = k then some w else valW r k
def putW (kvs : List (κ × W)) (k : κ) (w : W) : List (κ × W) := match kvs with
  | [] => [(k, w)]
  | (j, u) :: r => if j = k then (j, w) :: r else (j, u) :: putW r k w
abbrev DKV (K : PySem.W.Frag) (H : Hp) (kvs : List (κ × W)) (vs : List (κ × V)) : Prop := kvs.map (·.1) = vs.map (·.1) ∧ DenAll K H (kvs.map (·.2)) (vs.map (·.2))
theorem DKV.cons {j : κ} {w : W} {r : List (κ × W)} {vs : List (κ × V)} (d : DKV K H ((j, w) :: r) vs) : ∃ v vs', vs = (j, v) :: vs' ∧ Den K H w v ∧ DKV K H r vs' := by
  obtain ⟨h1, v, xs, e, d1, d2⟩ := d
  cases vs with
  | nil => cases h1
  | cons q vs' =>
    obtain ⟨j', v'⟩ := q
    simp only [List.map_cons, List.cons.injEq] at h1 e
    obtain ⟨rfl, h1⟩ := h1
    obtain ⟨rfl, rfl⟩ := e
    exact ⟨v', vs', rfl, d1, h1, d2⟩
theorem DKV.nil {vs : List (κ × V)} (d : DKV K H [] vs) : vs = [] := by
  cases vs with
  | nil => rfl
  | cons q r => cases d.1
theorem DKV.mk {j : κ} {w : W} {v : V} {r : List (κ × W)} {vs : List (κ × V)} (d : Den K H w v) (t : DKV K H r vs) : DKV K H ((j, w) :: r) ((j, v) :: vs) := ⟨by simp [t.1], v, _, rfl, d, t.2⟩
theorem DKV.get : ∀ {kvs : List (κ × W)} {vs : List (κ × V)} {k : κ} {w : W}, DKV K H kvs vs → valW kvs k = some w → ∃ v, valV vs k = some v ∧ Den K H w v
  | [], _, k, w, d, h => by cases h
  | (j, u) :: r, _, k, w, d, h => by
    obtain ⟨v, vs', rfl, d1, d2⟩ := d.cons
    unfold valW at h
    by_cases e : j = k
    · rw [if_pos e] at h
      cases h
      refine ⟨v, ?_, d1⟩
      unfold valV
      simp [e]
    · rw [if_neg e] at h
      obtain ⟨v', h1, h2⟩ := DKV.get d2 h
      refine ⟨v', ?_, h2⟩
      unfold valV at h1 ⊢
      simp only [List.find?, e, decide_false]
      exact h1
theorem DKV.getN : ∀ {kvs : List (κ × W)} {vs : List (κ × V)} {k : κ}, DKV K H kvs vs → valW kvs k = none → valV vs k = none
  | [], _, k, d, h => by rw [d.nil]; rfl
  | (j, u) :: r, _, k, d, h => by
    obtain ⟨v, vs', rfl, d1, d2⟩ := d.cons
    unfold valW at h
    by_cases e : j = k
    · rw [if_pos e] at h; cases h
    · rw [if_neg e] at h
      have h1 := DKV.getN d2 h
      unfold valV at h1 ⊢
      simp only [List.find?, e, decide_false]
      exact h1
theorem putK_cons (j : κ) (u : V) (r : List (κ × V)) (k : κ) (v : V) (hn : j = k → ∀ q ∈ r, q.1 ≠ k) : putK ((j, u) :: r) k v = if j = k then (j, v) :: r else (j, u) :: putK r k v := by
  unfold putK
  by_cases e : j = k
  · rw [if_pos e, if_pos (by simp [e])]
    simp only [List.map_cons, e, if_true]
    congr 1
    have : ∀ q ∈ r, (if q.1 = k then (q.1, v) else q) = q := fun q hq => if_neg (hn e q hq)
    conv => rhs; rw [← List.map_id r]
    exact List.map_congr_left this
  · rw [if_neg e]
    by_cases z : (r.any fun kv => decide (kv.1 = k)) = true
    · rw [if_pos (by simp only [List.any_cons, e, decide_false, Bool.false_or]; exact z), if_pos z]
      simp [e]
    · rw [if_neg (by simp only [List.any_cons, e, decide_false, Bool.false_or]; exact z), if_neg z]
      rfl
theorem DKV.put : ∀ {kvs : List (κ × W)} {vs : List (κ × V)} {k : κ} {w : W} {v : V}, (kvs.map (·.1)).Nodup → DKV K H kvs vs → Den K H w v → DKV K H (putW kvs k w) (putK vs k v)
  | [], _, k, w, v, _, d, dv => by
    rw [d.nil]
    exact DKV.mk dv ⟨rfl, rfl⟩
  | (j, u) :: r, _, k, w, v, hn, d, dv => by
    obtain ⟨v', vs', rfl, d1, d2⟩ := d.cons
    rw [List.map_cons, List.nodup_cons] at hn
    rw [putK_cons j v' vs' k v fun e q hq z => hn.1 (by rw [d2.1]; exact List.mem_map.mpr ⟨q, hq, z.trans e.symm⟩)]
    unfold putW
    by_cases e : j = k
    · rw [if_pos e, if_pos e]
      exact DKV.mk dv d2
    · rw [if_neg e, if_neg e]
      exact DKV.mk d1 (DKV.put hn.2 d2 dv)
theorem putW_keys : ∀ {kvs : List (κ × W)} {k : κ} {w : W}, (putW kvs k w).map (·.1) = if k ∈ kvs.map (·.1) then kvs.map (·.1) else kvs.map (·.1) ++ [k]
  | [], k, w => by simp [putW]
  | (j, u) :: r, k, w => by
    unfold putW
    by_cases e : j = k
    · simp [e]
    · rw [if_neg e]
      simp only [List.map_cons, putW_keys (kvs := r), List.mem_cons]
      have : ¬ k = j := fun z => e z.symm
      simp only [this, false_or]
      split <;> rfl
theorem putW_nodup {kvs : List (κ × W)} {k : κ} {w : W} (h : (kvs.map (·.1)).Nodup) : ((putW kvs k w).map (·.1)).Nodup := by
  rw [putW_keys]
  split
  · exact h
  · rename_i hk
    rw [List.nodup_append]
    exact ⟨h, by simp, fun a ha b hb => by simp at hb; subst hb; exact fun z => hk (z ▸ ha)⟩
theorem valW_put : ∀ {kvs : List (κ × W)} {k j : κ} {w : W}, valW (putW kvs k w) j = if k = j then some w else valW kvs j
  | [], k, j, w => by simp [putW, valW]
  | (i, u) :: r, k, j, w => by
    unfold putW
    by_cases e : i = k
    · subst e
      rw [if_pos rfl]
      simp only [valW]
      split <;> rfl
    · rw [if_neg e]
      simp only [valW, valW_put (kvs := r)]
      by_cases z : i = j
      · subst z
        have : ¬ k = i := fun q => e q.symm
        simp [this]
      · simp [z]
end
section
variable {X : Cx} {e a b c : Expr} {es : List Expr} {st : Stmt} {sts : List Stmt} {G : Gs} {mu mu' : Mu} {pos p apos cpos : Pos} {P : PW1}
/-- a dict cell whose keys differ -/
abbrev isDic (mu : Mu) (a : Addr) (kvs : List (Key × W)) : Prop := mu a = some (.dic kvs) ∧ (kvs.map (·.1)).Nodup
theorem newDic {K : PySem.W.Frag} {H : Hp} {p : Addr} {vs : List (Key × V)} {kvs : List (Key × W)} (d : DKV K H kvs vs) : ∀ H', Kps K H H' → H' p = some (.dK vs) → CellOk K H' p (.dic kvs) := fun H' st h => ⟨vs, h, d.1, DenAll.mono st _ d.2⟩
theorem se_dnew (h : ∀ p, mu p = none → P (.m p) (setM mu p (.dic []))) : SE X (.Dict [] [] pos) G mu P :=
  SE.mk pe_dnewK fun σ H Q d m k => fun p hp => by
    obtain ⟨c2, m2⟩ := laidC (o := .dK []) (c := .dic []) m hp (newDic (kvs := []) ⟨rfl, rfl⟩)
    exact k _ _ _ _ (h p (m.dom hp)) c2 rfl m2
/-- a key as a value -/
def keyOf : W → Option Key
  | .int i => some (.inl i)
  | .str x => some (.inr x)
  | _ => none
theorem keyOf_den {K : PySem.W.Frag} {H : Hp} {w : W} {v : V} {k : Key} (h : keyOf w = some k) (d : Den K H w v) : v = kV k := by
  cases w with
  | int i => cases h; exact d
  | str i => cases h; exact d
  | _ => cases h
abbrev dgW (w1 w2 : W) (mu : Mu) (P : PW1) : Prop := ∃ a kvs k w, w1 = .m a ∧ mu a = some (.dic kvs) ∧ keyOf w2 = some k ∧ valW kvs k = some w ∧ P w mu
theorem se_dget (hu : X.A.units + 1 < cLine) (h : SE X a G mu fun w1 mu1 => SE X b G mu1 fun w2 mu2 => dgW w1 w2 mu2 P) (hs : NoSl b := by exact fun _ _ => rfl) : SE X (.Subscript a b pos) G mu P :=
  SE.mk (pe_dget hu peE peE hs) fun σ H Q d m k => h σ H _ d m fun x w1 mu1 H1 h1 c1 d1 m1 => h1 σ H1 _ (c1.denG m d) m1 fun y w2 mu2 H2 h2 c2 d2 m2 => by
    obtain ⟨aa, kvs, kk, w, rfl, e, hk, hv, q⟩ := h2
    have d1 : x = .ref aa := d1
    subst d1
    obtain ⟨vs, hx, dk⟩ := m2 aa _ e
    obtain ⟨v, h1, h2⟩ := DKV.get (K := X.K) (H := H2) dk hv
    have e2 := keyOf_den hk d2
    subst e2
    exact ⟨aa, v, rfl, h1 ▸ DGet.k hx, k _ _ _ _ q (c1.trans c2) h2 m2⟩
abbrev dpW (w1 w2 w : W) (G : Gs) (mu : Mu) (N : Gs → Mu → Prop) : Prop := ∃ a kvs k, w1 = .m a ∧ isDic mu a kvs ∧ keyOf w2 = some k ∧ kvs.length < sizeLine ∧ N G (setM mu a (.dic (putW kvs k w)))
theorem ss_dput {E : WE} {pos' : Pos} (hu : X.A.units + 1 < cLine) (h : SE X e G mu fun w mu1 => SE X a G mu1 fun w1 mu2 => SE X b G mu2 fun w2 mu3 => dpW w1 w2 w G mu3 E.nx)
    (hs : swapsWith e (some (.Subscript a b pos')) pos.line X.env = pure false := by rfl) : SS X (.Assign [.Subscript a b pos'] e pos) G mu E :=
  SS.mk (ps_dput hu peE peE peE hs) fun σ H D d m k => h σ H _ d m fun v w mu1 H1 h1 c1 d1 m1 => h1 σ H1 _ (c1.denG m d) m1 fun x w1 mu2 H2 h2 c2 d2 m2 => h2 σ H2 _ ((c1.trans c2).denG m d) m2 fun y w2 mu3 H3 h3 c3 d3 m3 => by
    obtain ⟨aa, kvs, kk, rfl, ⟨e, hn⟩, hk, hl, q⟩ := h3
    have d2 : x = .ref aa := d2
    subst d2
    have d1 := c3.den m2 (c2.den m1 d1)
    obtain ⟨vs, hx, dk⟩ := m3 aa _ e
    have e2 := keyOf_den hk d3
    subst e2
    have dk : DKV X.K H3 kvs vs := dk
    obtain ⟨c4, m4⟩ := wrote (o := .dK (putK vs kk v)) (c := .dic (putW kvs kk w)) m3 e (newDic (dk.put hn d1))
    have cc := (c1.trans c2).trans c3
    refine ⟨aa, _, rfl, DPut.k hx ?_, k.nx _ _ _ _ q (cc.trans c4) (c4.denG m3 (cc.denG m d)) m4⟩
    have := congrArg List.length dk.1
    simp only [List.length_map] at this
    omega
/-! a display of a dict with texts as keys -/
def trsX (X : Cx) : List (Option Expr) → List Expr → List (TE × TE)
  | some k :: ks, v :: vs => (tE X k, tE X v) :: trsX X ks vs
  | _, _ => []
def SPs (X : Cx) : List (Option Expr) → List Expr → Gs → Mu → (List (W × W) → Mu → Prop) → Prop
  | some k :: ks, v :: vs, G, mu, Post => SE X k G mu fun w mu1 => SE X v G mu1 fun u mu2 => SPs X ks vs G mu2 fun ps mu3 => Post ((w, u) :: ps) mu3
  | [], [], G, mu, Post => Post [] mu
  | _, _, _, _, _ => False
theorem pps_all : ∀ (ks : List (Option Expr)) (vs : List Expr), (ks.all fun x => x.isSome) = true → ks.length = vs.length → PPs X pos ks vs (trsX X ks vs)
  | [], [], _, _ => pps_nil
  | some k :: ks, v :: vs, h, hl => pps_cons peE peE (pps_all ks vs (by simpa using h) (by simpa using hl))
  | none :: ks, v :: vs, h, hl => by simp at h
  | [], v :: vs, h, hl => by simp at hl
  | k :: ks, [], h, hl => by simp at hl
abbrev DPs (K : PySem.W.Frag) (H : Hp) (ws : List (W × W)) (ps : List (V × V)) : Prop := DenAll K H (ws.map (·.1)) (ps.map (·.1)) ∧ DenAll K H (ws.map (·.2)) (ps.map (·.2)) ∧ ws.length = ps.length
theorem sps_rd : ∀ (ks : List (Option Expr)) (vs : List Expr) {G : Gs} {mu : Mu} {Post : List (W × W) → Mu → Prop} {σ : St} {H : Hp} {Q : List (V × V) → Hp → Prop}, SPs X ks vs G mu Post → DenG X.K H G σ → HM X.K H mu →
    (∀ ws ps mu' H', Post ws mu' → Chg mu H mu' H' → DPs X.K H' ws ps → HM X.K H' mu' → Q ps H') → tPairs (trsX X ks vs) σ H Q
  | [], [], G, mu, Post, σ, H, Q, h, d, m, k => k [] [] mu H h Chg.refl ⟨rfl, rfl, rfl⟩ m
  | some kk :: ks, v :: vs, G, mu, Post, σ, H, Q, h, d, m, k => by
    unfold SPs at h
    show tE X kk σ H _
    refine h σ H _ d m fun x w mu1 H1 h1 c1 d1 m1 => h1 σ H1 _ (c1.denG m d) m1 fun y u mu2 H2 h2 c2 d2 m2 => ?_
    refine sps_rd ks vs h2 ((c1.trans c2).denG m d) m2 fun ws ps mu3 H3 h3 c3 d3 m3 => k _ _ _ _ h3 ((c1.trans c2).trans c3) ⟨⟨x, _, rfl, c3.den m2 (c2.den m1 d1), d3.1⟩, ⟨y, _, rfl, c3.den m2 d2, d3.2.1⟩, by simp [d3.2.2]⟩ m3
  | none :: ks, v :: vs, G, mu, Post, σ, H, Q, h, d, m, k => by unfold SPs at h; exact h.elim
  | [], v :: vs, G, mu, Post, σ, H, Q, h, d, m, k => by unfold SPs at h; exact h.elim
  | some kk :: ks, [], G, mu, Post, σ, H, Q, h, d, m, k => by unfold SPs at h; exact h.elim
  | none :: ks, [], G, mu, Post, σ, H, Q, h, d, m, k => by unfold SPs at h; exact h.elim
theorem dps_keys {K : PySem.W.Frag} {H : Hp} : ∀ {kvs : List (Key × W)} {ps : List (V × V)}, DPs K H (kvs.map fun q => (kW q.1, q.2)) ps → ∃ vs : List (Key × V), ps = vs.map (fun kv => (kV kv.1, kv.2)) ∧ DKV K H kvs vs
  | [], ps, d => by
    cases ps with
    | nil => exact ⟨[], rfl, rfl, rfl⟩
    | cons q r => cases d.2.2
  | (kk, w) :: r, ps, d => by
    cases ps with
    | nil => cases d.2.2
    | cons q ps =>
      obtain ⟨x, y⟩ := q
      obtain ⟨⟨v1, r1, e1, a1, t1⟩, ⟨v2, r2, e2, a2, t2⟩, hl⟩ := d
      simp only [List.map_cons, List.cons.injEq] at e1 e2
      obtain ⟨rfl, rfl⟩ := e1
      obtain ⟨rfl, rfl⟩ := e2
      obtain ⟨vs, rfl, dk⟩ := dps_keys (kvs := r) (ps := ps) ⟨t1, t2, by simpa using hl⟩
      have e3 := kW_den a1
      exact ⟨(kk, y) :: vs, by simp [e3], DKV.mk a2 dk⟩
theorem mergeK_new : ∀ (vs acc : List (Key × V)), ((acc ++ vs).map (·.1)).Nodup → mergeK acc vs = acc ++ vs
  | [], acc, _ => by simp [mergeK]
  | (kk, v) :: vs, acc, h => by
    have hn : valV acc kk = none := by
      unfold valV
      rw [Option.map_eq_none_iff, List.find?_eq_none]
      intro q hq z
      have z := of_decide_eq_true z
      rw [List.map_append, List.nodup_append] at h
      exact h.2.2 q.1 (List.mem_map.mpr ⟨q, hq, rfl⟩) kk (by simp) z
    show mergeK (putK acc kk v) vs = _
    rw [putK_new _ hn, mergeK_new vs _ (by simpa using h)]
    simp
theorem se_disp {keys : List (Option Expr)} {values : List Expr} (h : SPs X keys values G mu fun ws mu1 => ∃ kvs : List (Key × W), ws = kvs.map (fun q => (kW q.1, q.2)) ∧ (kvs.map (·.1)).Nodup ∧ kvs.length ≤ 15 ∧ ∀ p, mu1 p = none → P (.m p) (setM mu1 p (.dic kvs)))
    (h1 : (keys.all fun x => x.isSome) = true := by rfl) (h2 : keys.length = values.length := by rfl) (h3 : keys ≠ [] := by exact fun z => by cases z) (h4 : keys.length ≤ 15 := by decide) : SE X (.Dict keys values pos) G mu P :=
  SE.mk (pe_disp (pps_all keys values h1 h2) h1 h2 h3 h4) fun σ H Q d m k => fun p hp => by
    obtain ⟨c0, m0⟩ := laid (o := .dK []) m hp
    refine sps_rd keys values h (c0.denG m d) m0 fun ws ps mu1 H1 ⟨kvs, e, hn, hl, q⟩ c1 d1 m1 => ?_
    have hp1 : H1 p = some (.dK []) := c1.keep _ _ upd_same (m.dom hp)
    have np : mu1 p = none := c1.new _ _ upd_same (m.dom hp)
    subst e
    obtain ⟨vs, rfl, dk⟩ := dps_keys d1
    refine ⟨hp1, vs, rfl, ?_, ?_⟩
    · have := congrArg List.length dk.1
      simp only [List.length_map] at this
      omega
    · have em : mergeK [] vs = vs := by rw [mergeK_new vs [] (by rw [List.nil_append, ← dk.1]; exact hn)]; rfl
      rw [em]
      have sq0 : ∀ a xs, SqT X.K H1 a xs → SqT X.K (upd H1 p (.dK vs)) a xs := fun a xs s => by
        rcases s with (s | ⟨o, s⟩) | s
        · exact .inl (.inl (by rw [upd_ne (ne_of s hp1 (by intro z; cases z))]; exact s))
        · exact .inl (.inr ⟨o, by rw [upd_ne (ne_of s hp1 (by intro z; cases z))]; exact s⟩)
        · exact .inr s
      have sq : Kps X.K H1 (upd H1 p (.dK vs)) := ⟨sq0, fun a o u s => by rw [upd_ne (ne_of s hp1 (by intro z; cases z))]; exact s⟩
      refine k (.ref p) (.m p) (setM mu1 p (.dic kvs)) _ (q p np) ⟨fun b o hb n => ?_, fun b cc hb => ?_, fun b o hb n => ?_⟩ rfl fun a cc ha => ?_
      · rw [upd_ne (ne_of_none hb hp)]
        exact (c0.trans c1).keep b o hb n
      · by_cases z : b = p
        · subst z; exact ⟨_, setM_same⟩
        · rw [setM_ne z]; exact (c0.trans c1).old b cc hb
      · rw [setM_ne (ne_of_none hb hp)]
        exact (c0.trans c1).new b o hb n
      · by_cases z : a = p
        · subst z
          rw [setM_same] at ha
          cases ha
          exact ⟨vs, upd_same, dk.1, DenAll.mono sq _ dk.2⟩
        · rw [setM_ne z] at ha
          exact CellOk.mono sq (m1 a cc ha) (upd_ne z)
/-! fields -/
abbrev fldW (K : PySem.W.Frag) (f : Str) (w : W) (mu : Mu) (P : PW1) : Prop := ∃ a Cl fs u, w = .m a ∧ mu a = some (.ins Cl fs) ∧ Cls K Cl ∧ NoAttr K Cl f ∧ valW fs f = some u ∧ P u mu
theorem lookup_valV : ∀ (vs : List (Str × V)) (f : Str), List.lookup f vs = valV vs f
  | [], f => rfl
  | (j, v) :: r, f => by
    by_cases e : j = f
    · subst e
      simp [List.lookup, valV]
    · have h1 : (f == j) = false := by simpa using fun z => e z.symm
      rw [List.lookup, h1, lookup_valV r f]
      unfold valV
      simp only [List.find?, e, decide_false]
theorem se_fld {f : Str} (h : SE X a G mu fun w mu1 => fldW X.K f w mu1 P) (hb : attributeBase a f X.env (eval a X.env) = eval a X.env := by rfl) : SE X (.Attribute a f pos) G mu P :=
  SE.mk (pe_fld peE hb) fun σ H Q d m k => h σ H _ d m fun x w mu1 H1 ⟨aa, Cl, fs, u, e, hm, hc, hn, hv, q⟩ c1 d1 m1 => by
    subst e
    have d1 : x = .ref aa := d1
    subst d1
    obtain ⟨dx, vs, hx, dk⟩ := m1 aa _ hm
    obtain ⟨v, h1, h2⟩ := DKV.get (K := X.K) (H := H1) dk hv
    exact ⟨aa, Cl, dx, vs, v, rfl, hx, hc, hn, (lookup_valV vs f).trans h1, k _ _ _ _ q c1 h2 m1⟩
end
end Dv
set_option Elab.async false
set_option linter.all false
set_option maxRecDepth 100000
/-! Pure defs: their result is a function of the arguments, old cells stay. -/
namespace Dv
open PySem L2
def Ext (mu mu' : Mu) : Prop := ∀ a c, mu a = some c → mu' a = some c
theorem Ext.refl {mu : Mu} : Ext mu mu := fun _ _ h => h
theorem Ext.trans {mu mu' mu'' : Mu} (a : Ext mu mu') (b : Ext mu' mu'') : Ext mu mu'' := fun c d h => b c d (a c d h)
theorem Ext.set {mu mu' : Mu} {p : Addr} {c : C} (e : Ext mu mu') (h : mu p = none) : Ext mu (setM mu' p c) := fun a d ha => by
  rw [setM_ne fun z => by rw [z, h] at ha; cases ha]
  exact e a d ha
theorem Ext.none {mu mu' : Mu} {p : Addr} (e : Ext mu mu') (h : mu' p = none) : mu p = none := by
  cases q : mu p with
  | none => rfl
  | some c => rw [e p c q] at h; cases h
theorem bW_split {k : Bool} {A B : Prop} (ht : k = true → A) (hf : k = false → B) : bW (.bl k) A B := by
  cases k with
  | true => exact ht rfl
  | false => exact hf rfl
theorem if2_split {k : Bool} {A B : Prop} (ht : k = true → A) (hf : k = false → B) : if2 k A B := by
  cases k with
  | true => exact ht rfl
  | false => exact hf rfl
theorem bW_t {k : Bool} {A B : Prop} (h : k = true) (a : A) : bW (.bl k) A B := by subst h; exact a
theorem bW_f {k : Bool} {A B : Prop} (h : k = false) (a : B) : bW (.bl k) A B := by subst h; exact a
theorem if2_t {k : Bool} {A B : Prop} (h : k = true) (a : A) : if2 k A B := by subst h; exact a
theorem if2_f {k : Bool} {A B : Prop} (h : k = false) (a : B) : if2 k A B := by subst h; exact a
/-- a pure def's promise -/
def spF (f : List W → Option W) : SpW := fun ws mu P => ∃ r, f ws = some r ∧ ∀ mu', Ext mu mu' → P r mu'
section
variable {X : Cx} {e a b c elt t : Expr} {G : Gs} {mu mu1 : Mu} {P : PW1}
theorem lc_pure {B : (Cx → Prop) → Prop} {T : Tg} {vs : List Nat} {ws : List W} {Gm : Mu → Prop} (g : W → W) (hG : ∀ mu', Ext mu1 mu' → Gm mu') (hl : ws.length ≤ sizeLine)
    (hs : ∀ w mu', w ∈ ws → Ext mu1 mu' → ∃ G2, T.bind w (wipeG G vs) = some G2 ∧ B fun Y => SE Y elt G2 mu' fun r mu4 => r = g w ∧ Ext mu' mu4)
    (hB : ∀ {p q : Cx → Prop}, (∀ Y, p Y → q Y) → B p → B q)
    (hd : ∀ D mu', mu1 D = none → Ext mu1 mu' → Ext mu1 (setM mu' D (.lst (ws.map g))) → P (.m D) (setM mu' D (.lst (ws.map g)))) : lcPost B T elt vs G P ws Gm mu1 := by
  intro D hD
  refine ⟨fun i acc mu' => acc = (ws.take i).map g ∧ Ext mu1 mu', ⟨rfl, Ext.refl⟩, fun i acc mu' _ q => hG mu' q.2, fun i w acc mu' hw q => ?_, fun acc mu' q => ?_⟩
  · obtain ⟨rfl, q⟩ := q
    have hi : i < ws.length := (List.getElem?_eq_some_iff.mp hw).1
    refine ⟨by rw [List.length_map, List.length_take]; omega, ?_⟩
    obtain ⟨G2, hb, he⟩ := hs w mu' (List.mem_of_getElem? hw) q
    refine ⟨G2, hb, hB (fun Y h σ H Q d m k => h σ H Q d m fun v r mu4 H4 h4 => k v r mu4 H4 ⟨?_, q.trans h4.2⟩) he⟩
    rw [List.take_add_one, hw, List.map_append, h4.1]
    rfl
  · obtain ⟨rfl, q⟩ := q
    rw [List.take_length]
    exact hd D mu' hD q (q.set hD)
/-- all of a comprehension whose items all give True -/
theorem lc_all_t {B : (Cx → Prop) → Prop} {T : Tg} {vs : List Nat} {ws : List W} {Gm : Mu → Prop} (hG : ∀ mu', Ext mu1 mu' → Gm mu') (hl : ws.length ≤ sizeLine) (hB : ∀ {p q : Cx → Prop}, (∀ Y, p Y → q Y) → B p → B q)
    (hs : ∀ w mu', w ∈ ws → Ext mu1 mu' → ∃ G2, T.bind w (wipeG G vs) = some G2 ∧ B fun Y => SE Y elt G2 mu' fun r mu4 => r = .bl true ∧ Ext mu' mu4)
    (hd : ∀ mu', Ext mu1 mu' → P (.bl true) mu') : lcPost B T elt vs G (fun w mu2 => allW [w] mu2 P) ws Gm mu1 :=
  lc_pure (fun _ => .bl true) hG hl hs hB fun D mu' hD he he2 => ⟨ws.map fun _ => true, by rw [setM_same, List.map_map]; rfl, by
    have : (ws.map fun _ => true).all id = true := by simp
    rw [this]
    exact hd _ he2⟩
/-- any, all of a comprehension by a function of the items -/
theorem lc_any_g {B : (Cx → Prop) → Prop} {T : Tg} {vs : List Nat} {ws : List W} {Gm : Mu → Prop} (g : W → Bool) (hG : ∀ mu', Ext mu1 mu' → Gm mu') (hl : ws.length ≤ sizeLine) (hB : ∀ {p q : Cx → Prop}, (∀ Y, p Y → q Y) → B p → B q)
    (hs : ∀ w mu', w ∈ ws → Ext mu1 mu' → ∃ G2, T.bind w (wipeG G vs) = some G2 ∧ B fun Y => SE Y elt G2 mu' fun r mu4 => r = .bl (g w) ∧ Ext mu' mu4)
    (hd : ∀ mu', Ext mu1 mu' → P (.bl (ws.any g)) mu') : lcPost B T elt vs G (fun w mu2 => anyW [w] mu2 P) ws Gm mu1 :=
  lc_pure (fun w => .bl (g w)) hG hl hs hB fun D mu' hD he he2 => ⟨ws.map g, by rw [setM_same, List.map_map]; rfl, by
    have : (ws.map g).any id = ws.any g := by rw [List.any_map]; rfl
    rw [this]
    exact hd _ he2⟩
theorem lc_all_g {B : (Cx → Prop) → Prop} {T : Tg} {vs : List Nat} {ws : List W} {Gm : Mu → Prop} (g : W → Bool) (hG : ∀ mu', Ext mu1 mu' → Gm mu') (hl : ws.length ≤ sizeLine) (hB : ∀ {p q : Cx → Prop}, (∀ Y, p Y → q Y) → B p → B q)
    (hs : ∀ w mu', w ∈ ws → Ext mu1 mu' → ∃ G2, T.bind w (wipeG G vs) = some G2 ∧ B fun Y => SE Y elt G2 mu' fun r mu4 => r = .bl (g w) ∧ Ext mu' mu4)
    (hd : ∀ mu', Ext mu1 mu' → P (.bl (ws.all g)) mu') : lcPost B T elt vs G (fun w mu2 => allW [w] mu2 P) ws Gm mu1 :=
  lc_pure (fun w => .bl (g w)) hG hl hs hB fun D mu' hD he he2 => ⟨ws.map g, by rw [setM_same, List.map_map]; rfl, by
    have : (ws.map g).all id = ws.all g := by rw [List.all_map]; rfl
    rw [this]
    exact hd _ he2⟩
theorem InBlk.mono {scope : Scope} {p q : Cx → Prop} (h : ∀ Y, p Y → q Y) (hp : InBlk X scope p) : InBlk X scope q := fun s H C cl fp => h _ (hp s H C cl fp)
/-- weaken what is wanted -/
theorem SE.imp {P Q : PW1} (h : SE X e G mu P) (f : ∀ w mu', P w mu' → Q w mu') : SE X e G mu Q := fun σ H R d m k => h σ H R d m fun v w mu' H' q => k v w mu' H' (f w mu' q)
/-- a comprehension with a test -/
theorem lc_filter {B : (Cx → Prop) → Prop} {T : Tg} {vs : List Nat} {ws : List W} {Gm : Mu → Prop} (p : W → Bool) (g : W → W) (hG : ∀ mu', Ext mu1 mu' → Gm mu') (hl : ws.length ≤ sizeLine)
    (hs : ∀ w mu', w ∈ ws → Ext mu1 mu' → ∃ G2, T.bind w (wipeG G vs) = some G2 ∧ B fun Y => ST Y t G2 mu' fun b mu3 => b = p w ∧ Ext mu' mu3 ∧ (p w = true → B fun Z => SE Z elt G2 mu3 fun r mu4 => r = g w ∧ Ext mu' mu4))
    (hB : ∀ {p q : Cx → Prop}, (∀ Y, p Y → q Y) → B p → B q)
    (hd : ∀ D mu', mu1 D = none → Ext mu1 mu' → Ext mu1 (setM mu' D (.lst ((ws.filter p).map g))) → P (.m D) (setM mu' D (.lst ((ws.filter p).map g)))) : lcPost1 B T elt t vs G P ws Gm mu1 := by
  intro D hD
  refine ⟨fun i acc mu' => acc = ((ws.take i).filter p).map g ∧ Ext mu1 mu', ⟨rfl, Ext.refl⟩, fun i acc mu' _ q => hG mu' q.2, fun i w acc mu' hw q => ?_, fun acc mu' q => ?_⟩
  · obtain ⟨rfl, q⟩ := q
    have hi : i < ws.length := (List.getElem?_eq_some_iff.mp hw).1
    refine ⟨?_, ?_⟩
    · rw [List.length_map]
      have h1 := List.length_filter_le p (ws.take i)
      rw [List.length_take] at h1
      omega
    obtain ⟨G2, hb, he⟩ := hs w mu' (List.mem_of_getElem? hw) q
    refine ⟨G2, hb, hB (fun Y h σ H Q d m k => h σ H Q d m fun b mu3 H3 h3 => k b mu3 H3 ?_) he⟩
    obtain ⟨e1, e2, e3⟩ := h3
    have tk : ws.take (i + 1) = ws.take i ++ [w] := by rw [List.take_add_one, hw]; rfl
    cases b with
    | true =>
      refine hB (fun Z h4 => SE.imp h4 fun r mu4 h5 => ⟨?_, q.trans h5.2⟩) (e3 e1.symm)
      rw [tk, List.filter_append, List.map_append, h5.1]
      simp [← e1]
    | false =>
      show _ ∧ _
      refine ⟨?_, q.trans e2⟩
      rw [tk, List.filter_append, List.map_append]
      simp [← e1]
  · obtain ⟨rfl, q⟩ := q
    rw [List.take_length]
    exact hd D mu' hD q (q.set hD)
end
/-! ### defs as they stand behind the top -/
structure Dfn (K : PySem.W.Frag) (mg : Str → Option Value) (x : Str) (st : Stmt) (ps : List Str) : Prop where
  ex : ∃ f fd, Fun K x x st f fd ∧ mg x = some (.ref f) ∧ Binds K fd ps []
structure DefOk (P : Program) (w : World) (K : PySem.W.Frag) (mg : Str → Option Value) (base : Heap) (x : Str) (ps : List Str) (k : Nat) (S : SpW) : Prop where
  ex : ∃ f fd, FnOk P w K mg base CX0 k f fd ps (spW K S) ∧ mg x = some (.ref f) ∧ PySem.W.keepIn K (.ref f) = true ∧ Binds K fd ps []
section
variable {P : Program} {w : World} {K : PySem.W.Frag} {mg : Str → Option Value} {base : Heap}
theorem dfnOk {x : Str} {st : Stmt} {N ps : List Str} {k : Nat} {S : SpW} (D : Dfn K mg x st ps) (Sc : FnScope N ps (defScope st)) (len : ∀ ws mu P, S ws mu P → ws.length = ps.length)
    (body : ∀ (f : Addr) (cdv : Value) (A : Around) (outer : List Env) (s : Shared) (H : Hp) (E : XK), Room k (A.deeper (PyProof.Rows.envOfC x (defScope st) s.heap.objs.size f cdv)) → ∀ ws mu Pt, S ws mu Pt →
      SSs (cxOf CX0 P w K mg base N x (defScope st) f cdv A outer s H E).nox (defBody st) (startW N ws) mu { nx := fun _ mu' => Pt .non mu', rt := Pt }) : DefOk P w K mg base x ps (k + 1) S := by
  obtain ⟨f, fd, F, hm, hb⟩ := D.ex
  exact ⟨f, fd, okW F Sc len (body f), hm, F.kp, hb⟩
end
section
variable {X : Cx} {e : Expr} {es : List Expr} {G : Gs} {mu : Mu} {pos p : Pos} {P : PW1}
theorem se_callD {x : Str} {ps : List Str} {k : Nat} {S : SpW} (D : DefOk X.prog X.w X.K X.mg X.base x ps k S) (hr : Room k X.A) (h : SA X (e :: es) G mu fun ws mu1 => S ws mu1 P)
    (hg : Gl X x := by rfl) (hdb : (x == ("__debug__" : Str)) = false := by decide) (he : starEach (e :: es) X.env = (false, eval e X.env) :: starEach es X.env := by rfl) (hpl : (backTo pos (starEach es X.env)).any (·.1) = false := by rfl) : SE X (.Call (.Name x p) (e :: es) [] pos) G mu P := by
  obtain ⟨f, fd, F, hm, hk, hb⟩ := D.ex
  exact se_call F hr hm hk hb h hg hdb he hpl
theorem se_all (h : SE X e G mu fun w mu1 => allW [w] mu1 P) (hm : X.mg "all" = none) (hc : X.calm = true := by rfl) (hg : Gl X "all" := by rfl) (he : starEach [e] X.env = [(false, eval e X.env)] := by rfl) (hpl : (backTo pos (starEach [] X.env)).any (·.1) = false := by rfl) :
    SE X (.Call (.Name "all" p) [e] [] pos) G mu P := se_blt (cr_all hc) all_w hm (sa_one h he) (by decide +kernel) hg (by decide) (by decide) he hpl
theorem se_any (h : SE X e G mu fun w mu1 => anyW [w] mu1 P) (hm : X.mg "any" = none) (hc : X.calm = true := by rfl) (hg : Gl X "any" := by rfl) (he : starEach [e] X.env = [(false, eval e X.env)] := by rfl) (hpl : (backTo pos (starEach [] X.env)).any (·.1) = false := by rfl) :
    SE X (.Call (.Name "any" p) [e] [] pos) G mu P := se_blt (cr_any hc) any_w hm (sa_one h he) (by decide +kernel) hg (by decide) (by decide) he hpl
theorem se_tupleC (h : SE X e G mu fun w mu1 => tupleW [w] mu1 P) (hm : X.mg "tuple" = none) (hg : Gl X "tuple" := by rfl) (he : starEach [e] X.env = [(false, eval e X.env)] := by rfl) (hpl : (backTo pos (starEach [] X.env)).any (·.1) = false := by rfl) :
    SE X (.Call (.Name "tuple" p) [e] [] pos) G mu P := se_bty call_tuple_of tuple_w hm (sa_one h he) (by decide +kernel) hg (by decide) (by decide) he hpl
/-! a text's signs -/
theorem itw_str {K : PySem.W.Frag} {H : Hp} {mu : Mu} {z : Str} : ItW K (Its z) (z.cps.toList.map fun c => W.str ⟨#[c]⟩) (fun _ => True) mu H := by
  refine ⟨fun _ => True, fun i H v H' => H' = H ∧ ∃ c, z.cps[i]? = some c ∧ v = .str ⟨#[c]⟩, by rw [List.length_map]; exact walk_str (z := z), fun _ _ _ _ _ => trivial, fun i H1 x H2 mu' hi c m' _ ⟨e, cc, h1, h2⟩ => ?_⟩
  subst e h2
  refine ⟨.str ⟨#[cc]⟩, ?_, Chg.refl, m', rfl⟩
  rw [List.getElem?_map, Array.getElem?_toList, h1]
  rfl
theorem si_str {tg iter : Expr} {Post : List W → (Mu → Prop) → Mu → Prop} (h : SE X iter G mu fun w mu1 => match w with | .str z => Post (z.cps.toList.map fun c => W.str ⟨#[c]⟩) (fun _ => True) mu1 | _ => False) : SI X tg iter G mu Post :=
  SI.mk (pi_str peE) fun σ H R d m k => h σ H _ d m fun v w mu1 H1 h1 c1 d1 m1 => by
    cases w with
    | str z => exact ⟨z, d1, k _ _ _ _ _ h1 c1 m1 itw_str⟩
    | _ => exact False.elim h1
theorem si_items {tg : Expr} {i : Nat} {x : Str} {w : W} {pos : Pos} {Post : List W → (Mu → Prop) → Mu → Prop} (hG : G[i]? = some (some w)) (h : itemsW w mu Post) (hN : X.N[i]? = some x := by rfl) (hv : Vis X.env.scope x := by first | exact Or.inl rfl | exact Or.inr (Or.inl rfl) | exact Or.inr (Or.inr rfl))
    (hd : (x == ("__debug__" : Str)) = false := by decide) (hcd : (x == ("__classdict__" : Str)) = false := by decide) : SI X tg (.Name x pos) G mu Post := by
  cases w with
  | tup ws => exact si_tup (se_var hG h hN hv hd hcd)
  | m a => exact si_lst (se_var hG h hN hv hd hcd)
  | _ => exact False.elim h
/-! x *= e -/
theorem ip_mulS : PIp X .Mult (fun x y H Q => ∃ i j, x = .int i ∧ y = .int j ∧ CMulW i j ∧ Q (.int (i * j)) H) := by
  intro pins s σ H x y v u Q I r1 r2 ⟨i, j, e1, e2, hc, q⟩
  subst e1 e2
  obtain ⟨t, rfl⟩ := r1
  obtain ⟨t', rfl⟩ := r2
  exact PyProof.Rows.imul_int ⟨.int _, H, I.tok _, ⟨_, rfl⟩, q⟩ hc.ok
theorem ss_augMul {i : Nat} {x : Str} {E : WE} {pos' : Pos} {w : W} (hG : G[i]? = some (some w)) (h : SE X e G mu fun w2 mu1 => match w, w2 with | .int a, .int b => CMulW a b ∧ E.nx (G.set i (some (.int (a * b)))) mu1 | _, _ => False) (hN : X.N.Nodup) (hi : X.N[i]? = some x := by rfl) (hx : Loc X.env.scope x := by first | exact .inl rfl | exact .inr rfl)
    (hf : X.fn x = true ∨ X.env.scope.names.lookup x = some .local := by first | exact .inl rfl | exact .inr rfl) : SS X (.AugAssign (.Name x pos') .Mult e pos) G mu E :=
  SS.mk (ps_aug hN hi hx peE ip_mulS hf) fun σ H D d m k => by
    obtain ⟨v, hv, dv⟩ := d.2 i w hG
    refine ⟨v, hv, h σ H _ d m fun y w2 mu1 H1 h1 c1 d1 m1 => ?_⟩
    have dv := c1.den m dv
    cases w with
    | int a =>
      cases w2 with
      | int b => exact ⟨a, b, dv, d1, h1.1, k.nx _ _ _ _ h1.2 c1 (DenG.set (c1.denG m d) rfl) m1⟩
      | _ => exact False.elim h1
    | _ => cases w2 <;> exact False.elim h1
abbrev inCW (w1 w2 : W) (mu : Mu) (P : PW1) : Prop := ∃ c z, w1 = .str ⟨#[c]⟩ ∧ w2 = .str z ∧ P (.bl (decide (c ∈ z.cps.toList))) mu
theorem inC_w : OpW X (fun x y H Q => ∃ (c : Nat) (z : Str), x = .str ⟨#[c]⟩ ∧ y = .str z ∧ Q (.bl (decide (c ∈ z.cps.toList))) H) inCW := fun w1 w2 x y mu H P Q dx dy m ⟨c, z, e1, e2, h⟩ k => by
  subst e1 e2
  exact ⟨c, z, dx, dy, k.now h rfl m⟩
end
end Dv
set_option Elab.async false
set_option linter.all false
set_option maxRecDepth 100000
/-! Worlds as plW data, and what is asked of them. -/
namespace K1
open PySem L2 Dv
abbrev Slot := Str × Str × List Str
abbrev Pat := List (Str × Str)
abbrev Lap := Str × Pat × Pat
structure Wd where
  houses : List Str
  slots : List Slot
  bears : List Pat
  never : List Pat
  lapses : List Lap
/-- small letters -/
def NmOk (z : Str) : Prop := 1 ≤ z.length ∧ z.length ≤ 8 ∧ ∀ c ∈ z.cps.toList, 97 ≤ c ∧ c ≤ 122
def stW (ns : List Str) : List W := ns.map W.str
def nmW (ns : List Str) : W := .tup (stW ns)
def slW1 (s : Slot) : W := .tup [.str s.1, .str s.2.1, nmW s.2.2]
def slsW (ss : List Slot) : W := .tup (ss.map slW1)
def prW (q : Str × Str) : W := .tup [.str q.1, .str q.2]
def ptW (p : Pat) : W := .tup (p.map prW)
def ptsW (ps : List Pat) : W := .tup (ps.map ptW)
def lpW (l : Lap) : W := .tup [.str l.1, ptW l.2.1, ptW l.2.2]
def lpsW (ls : List Lap) : W := .tup (ls.map lpW)
theorem nm_len {z : Str} (h : NmOk z) : z.length ≤ sizeLine := Nat.le_trans h.2.1 (by decide)
theorem nm_ok {z : Str} (h : NmOk z) : PyData.canLay0 (.str z) = true := by
  unfold PyData.canLay0
  show (z.cps.all fun c => decide (c < 0x110000)) = true
  rw [← Array.all_toList, List.all_eq_true]
  intro c hc
  have := h.2.2 c hc
  simp
  omega
theorem dats_map {α : Type} (f : α → W) : ∀ xs : List α, dats (xs.map f) = xs.map fun x => dat (f x)
  | [] => by simp [dats]
  | x :: xs => by simp [dats, dats_map f xs]
theorem plains_map {α : Type} (f : α → W) (h : ∀ x, plW (f x) = true) : ∀ xs : List α, plsW (xs.map f) = true
  | [] => by simp [plsW]
  | x :: xs => by simp [plsW, h x, plains_map f h xs]
theorem plains_all : ∀ {ws : List W}, (∀ w ∈ ws, plW w = true) → plsW ws = true
  | [], _ => by simp [plsW]
  | w :: ws, h => by simp [plsW, h w (by simp), plains_all (ws := ws) fun v hv => h v (by simp [hv])]
theorem plain_str (z : Str) : plW (.str z) = true := by simp [plW]
theorem plain_pr (q : Str × Str) : plW (prW q) = true := by simp [prW, plW, plsW]
theorem plain_pt (p : Pat) : plW (ptW p) = true := by unfold ptW plW; exact plains_map _ plain_pr p
theorem plain_nm (ns : List Str) : plW (nmW ns) = true := by unfold nmW stW plW; exact plains_map _ plain_str ns
theorem lay_all {α : Type} (f : α → PyData) : ∀ {xs : List α}, (∀ x ∈ xs, (f x).canLay0 = true) → PyData.canLayAll0 (xs.map f) = true
  | [], _ => by simp [PyData.canLayAll0]
  | x :: xs, h => by simp [PyData.canLayAll0, h x (by simp), lay_all f (xs := xs) fun y hy => h y (by simp [hy])]
theorem depth_all {α : Type} (f : α → PyData) {n : Nat} : ∀ {xs : List α}, (∀ x ∈ xs, (f x).depth ≤ n) → PyData.depthAll (xs.map f) ≤ n
  | [], _ => by simp [PyData.depthAll]
  | x :: xs, h => by
    have h1 := h x (by simp)
    have h2 := depth_all f (n := n) (xs := xs) fun y hy => h y (by simp [hy])
    simp only [List.map_cons, PyData.depthAll]
    omega
theorem eqv_str (x y : Str) : PyData.eqv (.str x) (.str y) = decide (x = y) := by
  unfold PyData.eqv
  by_cases h : x = y
  · simp [h]
  · simp [h]
theorem any_str (ns : List Str) (h : Str) : ((dats (stW ns)).any fun z => PyData.eqv z (dat (.str h))) = decide (h ∈ ns) := by
  unfold stW
  rw [dats_map]
  induction ns with
  | nil => simp
  | cons n ns ih =>
    simp only [List.map_cons, List.any_cons, dat, eqv_str, ih] at ih ⊢
    by_cases e : n = h
    · simp [e]
    · have : ¬ h = n := fun z => e z.symm
      simp [e, this]
/-! data of one kind -/
def ltD (q : W × W) : Bool := PySem.W.dataLt (dat q.1) (dat q.2)
def rising (us : List W) : Bool := (us.zip us.tail).all ltD
def okUs (us : List W) : Prop := us.length ≤ sizeLine ∧ ∀ u ∈ us, plW u = true ∧ dat u ≠ .none ∧ (dat u).depth ≤ 64 ∧ ∀ v ∈ us, PySem.W.alike (dat u) (dat v) = true
theorem okUs_st {ns : List Str} (h : ns.length ≤ sizeLine) : okUs (stW ns) := by
  refine ⟨by rw [stW, List.length_map]; exact h, fun u hu => ?_⟩
  obtain ⟨n, hn, rfl⟩ := List.mem_map.mp hu
  refine ⟨plain_str n, by simp [dat], by simp [dat, PyData.depth], fun v hv => ?_⟩
  obtain ⟨n', hn', rfl⟩ := List.mem_map.mp hv
  simp [dat, PySem.W.alike]
theorem alike_pr (p q : Str × Str) : PySem.W.alike (dat (prW p)) (dat (prW q)) = true := by simp [prW, dat, dats, PySem.W.alike, PySem.W.alikeAll]
theorem alikeAll_prs : ∀ ps qs : List (Str × Str), PySem.W.alikeAll (dats (ps.map prW)) (dats (qs.map prW)) = true
  | [], _ => by simp [dats, PySem.W.alikeAll]
  | p :: ps, [] => by simp [dats, PySem.W.alikeAll]
  | p :: ps, q :: qs => by simp only [List.map_cons, dats, PySem.W.alikeAll, alike_pr, alikeAll_prs ps qs, Bool.and_self]
theorem alike_pt (p q : Pat) : PySem.W.alike (dat (ptW p)) (dat (ptW q)) = true := by
  unfold ptW
  simp only [dat, PySem.W.alike]
  exact alikeAll_prs p q
theorem depth_pr (q : Str × Str) : (dat (prW q)).depth ≤ 1 := by simp [prW, dat, dats, PyData.depth, PyData.depthAll]
theorem depth_pt (p : Pat) : (dat (ptW p)).depth ≤ 2 := by
  unfold ptW
  simp only [dat, PyData.depth]
  rw [dats_map]
  have := depth_all (fun q => dat (prW q)) (n := 1) (xs := p) fun q _ => depth_pr q
  omega
theorem okUs_pt {ps : List Pat} (h : ps.length ≤ sizeLine) : okUs (ps.map ptW) := by
  refine ⟨by rw [List.length_map]; exact h, fun u hu => ?_⟩
  obtain ⟨p, hp, rfl⟩ := List.mem_map.mp hu
  refine ⟨plain_pt p, by simp [ptW, dat], Nat.le_trans (depth_pt p) (by decide), fun v hv => ?_⟩
  obtain ⟨q, hq, rfl⟩ := List.mem_map.mp hv
  exact alike_pt p q
/-! what worlds ask -/
structure HsOk (hs : List Str) : Prop where
  lo : 1 ≤ hs.length
  hi : hs.length ≤ 4
  nm : ∀ h ∈ hs, NmOk h
  up : rising (stW hs) = true
structure SlOk (hs : List Str) (s : Slot) : Prop where
  nm : NmOk s.1
  home : s.2.1 ∈ hs
  lo : 2 ≤ s.2.2.length
  hi : s.2.2.length ≤ 4
  wm : ∀ w ∈ s.2.2, NmOk w
  nd : s.2.2.Nodup
def PrOk (ss : List Slot) (q : Str × Str) : Prop := ∃ s ∈ ss, s.1 = q.1 ∧ q.2 ∈ s.2.2
structure PtOk (ss : List Slot) (p : Pat) : Prop where
  pr : ∀ q ∈ p, PrOk ss q
  up : rising (stW (p.map (·.1))) = true
  len : p.length ≤ 6
/-- names of slots and words -/
structure SsNm (ss : List Slot) : Prop where
  len : ss.length ≤ 6
  nm : ∀ s ∈ ss, NmOk s.1 ∧ NmOk s.2.1 ∧ s.2.2.length ≤ 4 ∧ ∀ w ∈ s.2.2, NmOk w
theorem SsNm.filter {ss : List Slot} (h : SsNm ss) (p : Slot → Bool) : SsNm (ss.filter p) :=
  ⟨Nat.le_trans (List.length_filter_le _ _) h.len, fun s hs => h.nm s (List.mem_filter.mp hs).1⟩
/-- what is asked of lists of names to be compared -/
theorem in_names {P : PW1} {mu : Mu} {ng : Bool} {ns : List Str} {h : Str} (hh : NmOk h) (hn : ∀ n ∈ ns, NmOk n) (k : P (.bl (ng != decide (h ∈ ns))) mu) : inW ng (.str h) (nmW ns) mu P := by
  refine ⟨plain_str h, ?_, dats (stW ns), ?_, ?_, ?_⟩
  · unfold SeqAt.shaped
    simp only [dat, PyData.depth]
    have := nm_ok hh
    simp [this]
  · show (if plsW (stW ns) = true then some (dats (stW ns)) else none) = _
    rw [if_pos (show plsW (stW ns) = true from plains_map _ plain_str ns)]
  · unfold stW
    rw [dats_map]
    exact lay_all _ fun n h' => nm_ok (hn n h')
  · rw [any_str]
    exact k
theorem eq_strs {P : PW1} {mu : Mu} {x y : Str} (hx : NmOk x) (hy : NmOk y) (k : P (.bl (decide (x = y))) mu) : eqW (.str x) (.str y) mu P := by
  have sh : ∀ {z : Str}, NmOk z → SeqAt.shaped (.str z) = true := fun h => by
    unfold SeqAt.shaped
    have := nm_ok h
    simp [this, PyData.depth]
  refine ⟨.str x, .str y, ?_, ?_, sh hx, sh hy, ?_⟩
  · simp [asD, plW, dat]
  · simp [asD, plW, dat]
  · rw [eqv_str]; exact k
end K1
set_option Elab.async false
set_option linter.all false
set_option maxRecDepth 100000
namespace K1
open PySem L2 Dv
def top (i : Nat) : Stmt := PySem.Challenge.pw_unlikekeys_k70_histories_of_any_value.main.body.getD i (.Pass ⟨0, 0, 0, 0⟩)
/-- what the names of built-ins hold -/
structure Bl (mg : Str → Option Value) : Prop where
  isinstance : mg "isinstance" = none
  tuple : mg "tuple" = none
  list : mg "list" = none
  str : mg "str" = none
  len : mg "len" = none
  all : mg "all" = none
  any : mg "any" = none
  zip : mg "zip" = none
  set : mg "set" = none
  range : mg "range" = none
  sorted : mg "sorted" = none
  int : mg "int" = none
  abs : mg "abs" = none
  min : mg "min" = none
  max : mg "max" = none
  enumerate : mg "enumerate" = none
  dict : mg "dict" = none
  repr : mg "repr" = none
  letters : ∃ t, mg "LETTERS" = some (.str "abcdefghijklmnopqrstuvwxyz" t)
section
variable {P : Program} {w : World} {K : PySem.W.Frag} {mg : Str → Option Value} {base : Heap}

abbrev s_is_tuple : Stmt := top 4
theorem sc_is_tuple : FnScope ["value", "least", "most"] ["value", "least", "most"] (defScope s_is_tuple) := ⟨rfl, rfl, rfl, by decide +kernel, rfl, by decide +kernel, by decide +kernel⟩
def S_is_tuple : SpW := fun ws mu P => ∃ us a b, ws = [.tup us, .int a, .int b] ∧ ∀ r mu', r = (decide (a ≤ (us.length : Int)) && decide ((us.length : Int) ≤ b)) → Ext mu mu' → P (.bl r) mu'
theorem d_is_tuple (D : Dfn K mg "is_tuple" s_is_tuple ["value", "least", "most"]) (B : Bl mg) : DefOk P w K mg base "is_tuple" ["value", "least", "most"] 1 S_is_tuple := by
  refine dfnOk D sc_is_tuple (fun ws mu P ⟨us, a, b, e, _⟩ => by rw [e]; rfl) (fun f cdv A outer s H E hr ws mu Pt ⟨us, a, b, e, h⟩ => ?_)
  subst e
  refine sss_cons (ss_ret ?_)
  refine se_and (se_isi (T := "tuple") ?_ B.isinstance B.tuple)
  refine se_var (i := 0) rfl ?_
  refine ⟨"tuple", true, rfl, by decide +kernel, ?_⟩
  refine se_one (se_chain op_le cmpI_w op_le cmpI_w ?_)
  refine se_var (i := 1) rfl ?_
  refine se_len ?_ B.len
  refine se_var (i := 0) rfl ?_
  refine bW_split (fun e1 => ?_) (fun e1 => ?_) <;> dsimp only at e1
  · refine se_var (i := 2) rfl ?_
    exact h _ _ (by simp [e1]) Ext.refl
  · exact h _ _ (by simp [e1]) Ext.refl
abbrev s_is_rising : Stmt := top 5
theorem sc_is_rising : FnScope ["values", "low", "high"] ["values"] (defScope s_is_rising) := ⟨rfl, rfl, rfl, by decide +kernel, rfl, by decide +kernel, by decide +kernel⟩
def S_is_rising : SpW := fun ws mu P => ∃ us v, ws = [v] ∧ (v = .tup us ∨ ∃ a, v = .m a ∧ mu a = some (.lst us)) ∧ okUs us ∧ ∀ r mu', r = rising us → Ext mu mu' → P (.bl r) mu'
theorem cut1 (us : List W) : cutW us (some 1) none = us.tail := by
  unfold cutW HT.sIx
  cases us with
  | nil => rfl
  | cons x r =>
    have : min (1 : Int).toNat (x :: r).length = 1 := by simp
    simp [this]
theorem d_is_rising (D : Dfn K mg "is_rising" s_is_rising ["values"]) (B : Bl mg) : DefOk P w K mg base "is_rising" ["values"] 1 S_is_rising := by
  refine dfnOk D sc_is_rising (fun ws mu P ⟨us, v, e, _⟩ => by rw [e]; rfl) (fun f cdv A outer s H E hr ws mu Pt ⟨us, v, e, hv, ok, h⟩ => ?_)
  subst e
  have hu : (A.deeper (PyProof.Rows.envOfC "is_rising" (defScope s_is_rising) s.heap.objs.size f cdv)).units + 65 < cLine := by have := hr.un; omega
  refine sss_cons (ss_ret ?_)
  refine se_blt (cr_all rfl) all_w B.all (sa_one ?_)
  refine se_lc (own := [("low", 1), ("high", 2)]) (.tp [(.nm 1), (.nm 2)]) rfl sc_is_rising.nd (blkOk_by (N := ["values", "low", "high"]) (sc := defScope s_is_rising) (by decide +kernel)) rfl (fun _ _ _ _ _ => (pg_tup rfl (pgs_cons (pg_name (i := 1) sc_is_rising.nd rfl (Or.inl rfl)) (pgs_cons (pg_name (i := 2) sc_is_rising.nd rfl (Or.inl rfl)) pgs_nil)))) (by intro _; rfl) ?_
  refine si_zip ?_ B.zip
  refine se_var (i := 0) rfl ?_
  refine se_slFrom ?_
  refine se_var (i := 0) rfl ?_
  refine se_int ?_
  rcases hv with rfl | ⟨a, rfl, ha⟩
  · dsimp only [isI, slW, zipW]
    rw [cut1]
    refine lc_pure (fun q => match q with | .tup [x, y] => .bl (ltD (x, y)) | _ => .non) (fun _ _ => trivial) ?_ ?_ InBlk.mono ?_
    · rw [List.length_map, List.length_zip]; have := ok.1; omega
    · intro w mu' hw he
      obtain ⟨⟨x, y⟩, hq, rfl⟩ := List.mem_map.mp hw
      refine ⟨_, rfl, fun s H C cl fp => ?_⟩
      refine se_cmp (op_ltD hu) lt_w (nomark _) ?_
      refine se_var (i := 1) rfl ?_
      refine se_var (i := 2) rfl ?_
      have hx := List.of_mem_zip hq
      obtain ⟨p1, n1, dp1, al⟩ := ok.2 x hx.1
      have hy : y ∈ us := List.mem_of_mem_tail hx.2
      exact ⟨p1, (ok.2 y hy).1, al y hy, n1, dp1, rfl, Ext.refl⟩
    · intro D mu' hD he he2
      refine ⟨(us.zip us.tail).map ltD, ?_, h _ _ ?_ he2⟩
      · rw [setM_same, List.map_map, List.map_map]
        rfl
      · unfold rising
        rw [List.all_map]
        rfl
  · dsimp only [isI, slW, zipW]
    refine ⟨us, ha, fun p np => ?_⟩
    rw [cut1]
    have e0 : Ext mu (setM mu p (.lst us.tail)) := Ext.refl.set np
    refine ⟨us, us.tail, e0 _ _ ha, setM_same, ?_⟩
    refine lc_pure (fun q => match q with | .tup [x, y] => .bl (ltD (x, y)) | _ => .non) (fun mu' e => ⟨e _ _ (e0 _ _ ha), e _ _ setM_same⟩) ?_ ?_ InBlk.mono ?_
    · rw [List.length_map, List.length_zip]; have := ok.1; omega
    · intro w mu' hw he
      obtain ⟨⟨x, y⟩, hq, rfl⟩ := List.mem_map.mp hw
      refine ⟨_, rfl, fun s H C cl fp => ?_⟩
      refine se_cmp (op_ltD hu) lt_w (nomark _) ?_
      refine se_var (i := 1) rfl ?_
      refine se_var (i := 2) rfl ?_
      have hx := List.of_mem_zip hq
      obtain ⟨p1, n1, dp1, al⟩ := ok.2 x hx.1
      have hy : y ∈ us := List.mem_of_mem_tail hx.2
      exact ⟨p1, (ok.2 y hy).1, al y hy, n1, dp1, rfl, Ext.refl⟩
    · intro D mu' hD he he2
      refine ⟨(us.zip us.tail).map ltD, ?_, h _ _ ?_ (e0.trans he2)⟩
      · rw [setM_same, List.map_map, List.map_map]
        rfl
      · unfold rising
        rw [List.all_map]
        rfl
abbrev s_is_name : Stmt := top 3
theorem sc_is_name : FnScope ["value", "letter"] ["value"] (defScope s_is_name) := ⟨rfl, rfl, rfl, by decide +kernel, rfl, by decide +kernel, by decide +kernel⟩
/-- of what is as it should be: True -/
def S_t (pre : List W → Mu → Prop) : SpW := fun ws mu P => pre ws mu ∧ ∀ mu', Ext mu mu' → P (.bl true) mu'
def S_is_name : SpW := S_t fun ws mu => ∃ z, ws = [.str z] ∧ NmOk z
theorem letters_mem {c : Nat} (h : 97 ≤ c ∧ c ≤ 122) : c ∈ ("abcdefghijklmnopqrstuvwxyz" : Str).cps.toList := by
  have hd : ∀ c, c < 123 → 97 ≤ c → c ∈ ("abcdefghijklmnopqrstuvwxyz" : Str).cps.toList := by decide +kernel
  exact hd c (by omega) h.1
theorem d_is_name (D : Dfn K mg "is_name" s_is_name ["value"]) (B : Bl mg) : DefOk P w K mg base "is_name" ["value"] 1 S_is_name := by
  refine dfnOk D sc_is_name (fun ws mu P ⟨⟨z, e, _⟩, _⟩ => by rw [e]; rfl) (fun f cdv A outer s H E hr ws mu Pt ⟨⟨z, e, hz⟩, h⟩ => ?_)
  subst e
  refine sss_cons (ss_ret ?_)
  refine se_and (se_isi (T := "str") ?_ B.isinstance B.str)
  refine se_var (i := 0) rfl ?_
  refine ⟨"str", true, rfl, by decide +kernel, ?_⟩
  refine se_and (se_chain op_le cmpI_w op_le cmpI_w ?_)
  refine se_int ?_
  refine se_len ?_ B.len
  refine se_var (i := 0) rfl ?_
  refine ⟨nm_len hz, ?_⟩
  refine bW_t (decide_eq_true (by have := hz.1; omega)) ?_
  refine se_int ?_
  refine bW_t (decide_eq_true (by have := hz.2.1; omega)) ?_
  refine se_one (se_all ?_ B.all)
  refine se_lc (own := [("letter", 1)]) (.nm 1) rfl sc_is_name.nd (blkOk_by (N := ["value", "letter"]) (sc := defScope s_is_name) (by decide +kernel)) rfl (fun _ _ _ _ _ => (pg_name (i := 1) sc_is_name.nd rfl (Or.inl rfl))) (by intro _; rfl) ?_
  refine si_str ?_
  refine se_var (i := 0) rfl ?_
  refine lc_all_t (fun _ _ => trivial) (by rw [List.length_map]; exact nm_len hz) InBlk.mono ?_ fun mu' e => h _ e
  intro w mu' hw he
  obtain ⟨c, hc, rfl⟩ := List.mem_map.mp hw
  refine ⟨_, rfl, fun s H C cl fp => ?_⟩
  refine se_cmp op_in_sign inC_w (by rfl) ?_
  refine se_var (i := 1) rfl ?_
  obtain ⟨t, ht⟩ := B.letters
  refine se_glob (w := .str "abcdefghijklmnopqrstuvwxyz") (v := .str "abcdefghijklmnopqrstuvwxyz") ht ⟨t, rfl⟩ (fun _ _ => rfl) ?_
  refine ⟨c, _, rfl, rfl, ?_, Ext.refl⟩
  rw [decide_eq_true (letters_mem (hz.2.2 c hc))]
theorem atI_nat' {α : Type} {xs : List α} {i : Nat} {x : α} (h : xs[i]? = some x) : atI xs (i : Int) = some x := by
  have hl : i < xs.length := (List.getElem?_eq_some_iff.mp h).1
  unfold atI ixN
  rw [if_pos (by omega), if_pos (by omega)]
  exact h
end
def ExtBut (y : Addr) (mu mu' : Mu) : Prop := ∀ a c, a ≠ y → mu a = some c → mu' a = some c
theorem ExtBut.refl {y : Addr} {mu : Mu} : ExtBut y mu mu := fun _ _ _ h => h
theorem ExtBut.ext {y : Addr} {mu mu' mu2 : Mu} (e : ExtBut y mu mu') (e2 : Ext mu' mu2) : ExtBut y mu mu2 := fun a c h ha => e2 a c (e a c h ha)
theorem ExtBut.set {y : Addr} {mu mu' : Mu} {c : C} (e : ExtBut y mu mu') : ExtBut y mu (setM mu' y c) := fun a d h ha => by rw [setM_ne h]; exact e a d h ha
theorem ExtBut.all {y : Addr} {mu mu' : Mu} (e : ExtBut y mu mu') (h : mu y = none) : Ext mu mu' := fun a d ha => e a d (fun z => by rw [z, h] at ha; cases ha) ha
theorem ExtBut.own {y p : Addr} {mu mu' : Mu} {c : C} (e : ExtBut y mu mu') (h : mu p = none) : ExtBut y mu (setM mu' p c) := fun a d hn ha => by
  rw [setM_ne fun z => by rw [z, h] at ha; cases ha]
  exact e a d hn ha
end K1
set_option Elab.async false
set_option linter.all false
set_option maxRecDepth 100000
/-! Dict comprehensions; sorted of data; stars; comprehensions of two fors. -/
namespace Dv
open PySem L2
section
variable {X : Cx} {e a b c : Expr} {es : List Expr} {st : Stmt} {sts : List Stmt} {G : Gs} {mu mu' : Mu} {pos p apos cpos : Pos} {P : PW1}
abbrev dcPost (B : (Cx → Prop) → Prop) (T : Tg) (kx vx : Expr) (vs : List Nat) (G : Gs) (P : PW1) : List W → (Mu → Prop) → Mu → Prop := fun ws Gm mu1 => ∀ D, mu1 D = none → ∃ I : Nat → List (Key × W) → Mu → Prop, I 0 [] mu1 ∧ (∀ i acc mu', i ≤ ws.length → I i acc mu' → Gm mu') ∧
  (∀ i w acc mu', ws[i]? = some w → I i acc mu' → acc.length < sizeLine ∧ (acc.map (·.1)).Nodup ∧ ∃ G2, T.bind w (wipeG G vs) = some G2 ∧ B fun Y => SE Y kx G2 mu' fun kw mu3 => ∃ k, keyOf kw = some k ∧ B fun Z => SE Z vx G2 mu3 fun r mu4 => I (i + 1) (putW acc k r) mu4) ∧
  ∀ acc mu', I ws.length acc mu' → P (.m D) (setM mu' D (.dic acc))
theorem dc_rd {scope : Scope} {own : List (Str × Nat)} {tg iter kx vx : Expr} (T : Tg) {P : PW1} {σ : St} {H : Hp} {Q : VK} (ha : T.all (fun i => decide (i ∈ own.map (·.2))) = true) (d : DenG X.K H G σ) (m : HM X.K H mu) (k : Kont X.K mu H P Q)
    (h : SI X tg iter G mu (dcPost (InBlk X scope) T kx vx (own.map (·.2)) G P)) :
    tDc (tI X tg iter) (gT X.K T) tYes (fun σ2 H2 Q2 => ∀ (s : Shared) (H : Hp) (C : Addr) (cl : List (Str × Addr)) (fp : List Addr), tE (X.blk s H scope (compEnvC scope cl C X.env) fp) kx σ2 H2 Q2)
      (fun σ2 H2 Q2 => ∀ (s : Shared) (H : Hp) (C : Addr) (cl : List (Str × Addr)) (fp : List Addr), tE (X.blk s H scope (compEnvC scope cl C X.env) fp) vx σ2 H2 Q2) (own.map (·.2)) σ H Q := by
  refine h σ H _ d m fun J ws Gm mu1 H1 hI c1 m1 ⟨Gh, Y, wk, hg, hy⟩ D hD => ?_
  obtain ⟨I, i0, ig, it, ie⟩ := hI D (m1.dom hD)
  obtain ⟨c0, m0⟩ := laid (o := .dK []) m1 hD
  refine ⟨fun i n H' => n = ws.length - i ∧ i ≤ ws.length ∧ ∃ acc mu' xs, I i acc mu' ∧ H' D = some (.dK xs) ∧ DKV X.K H' acc xs ∧ mu' D = none ∧ HM X.K H' mu' ∧ Chg mu1 H1 mu' H',
    ⟨ws.length, by simp, Nat.zero_le _, [], mu1, [], i0, upd_same, ⟨rfl, rfl⟩, m1.dom hD, m0, c0⟩, ?_⟩
  rintro i n H' ⟨rfl, hi, acc, mu', xs, q, hx, dx, nD, m2, c2⟩
  have gh := hg mu' H' c2 m2 (ig i acc mu' hi q)
  by_cases hlt : i < ws.length
  · refine .inr ⟨wk.goes i H' hlt gh, fun H' => ∃ acc mu' xs, I (i + 1) acc mu' ∧ H' D = some (.dK xs) ∧ DKV X.K H' acc xs ∧ mu' D = none ∧ HM X.K H' mu' ∧ Chg mu1 H1 mu' H', fun H'' hN => ⟨ws.length - (i + 1), by omega, rfl, hlt, hN⟩, fun x H'' y => ?_⟩
    obtain ⟨w, hw, c3, m3, d3⟩ := hy i H' x H'' mu' hlt c2 m2 (ig i acc mu' hi q) (wk.yields i H' x H'' hlt gh y)
    obtain ⟨hl, hn, G2, hb, he⟩ := it i w acc mu' hw q
    have dw : DenG X.K H'' (wipeG G (own.map (·.2))) (wipe σ (own.map (·.2))) := c3.denG m2 (c2.denG m1 (c1.denG m (wipeG_den d _)))
    refine gT_run T hb ha dw d3 fun σ2 d2 e2 => ⟨e2.trans wipe_wipe, ?_⟩
    simp only [tYes, if_true]
    intro s Hs C cl fp
    refine he s Hs C cl fp σ2 H'' _ d2 m3 fun kv kw mu4 H4 h4 c4 d4 m4 s' Hs' C' cl' fp' => ?_
    obtain ⟨kk, hk, hv⟩ := h4
    refine hv s' Hs' C' cl' fp' σ2 H4 _ (c4.denG m3 d2) m4 fun v r mu5 H5 h5 c5 d5 m5 => ?_
    have hx5 := c5.keep _ _ (c4.keep _ _ (c3.keep _ _ hx nD) nD) (c4.new _ _ (c3.keep _ _ hx nD) nD)
    have nD5 := c5.new _ _ (c4.keep _ _ (c3.keep _ _ hx nD) nD) (c4.new _ _ (c3.keep _ _ hx nD) nD)
    have dx5 : DKV X.K H5 acc xs := ⟨dx.1, c5.denAll m4 (c4.denAll m3 (c3.denAll m2 dx.2))⟩
    have sq0 : ∀ a ys, SqT X.K H5 a ys → SqT X.K (upd H5 D (.dK (putK xs kk v))) a ys := fun a ys s => by
      rcases s with (s | ⟨o, s⟩) | s
      · exact .inl (.inl (by rw [upd_ne (ne_of s hx5 (by intro z; cases z))]; exact s))
      · exact .inl (.inr ⟨o, by rw [upd_ne (ne_of s hx5 (by intro z; cases z))]; exact s⟩)
      · exact .inr s
    have sq : Kps X.K H5 (upd H5 D (.dK (putK xs kk v))) := ⟨sq0, fun a o u s => by rw [upd_ne (ne_of s hx5 (by intro z; cases z))]; exact s⟩
    have cc := ((c2.trans c3).trans c4).trans c5
    refine ⟨xs, kk, keyOf_den hk d4, hx5, ?_, putW acc kk r, mu5, putK xs kk v, h5, upd_same, ?_, nD5, fun a cc ha => CellOk.mono sq (m5 a cc ha) (upd_ne fun z => by subst z; rw [nD5] at ha; cases ha), ⟨fun b o e n => by rw [upd_ne (ne_of_none e hD)]; exact cc.keep b o e n, cc.old, cc.new⟩⟩
    · have := congrArg List.length dx.1
      simp only [List.length_map] at this
      omega
    · have := dx5.put hn d5 (k := kk)
      exact ⟨this.1, DenAll.mono sq _ this.2⟩
  · have ei : i = ws.length := by omega
    subst ei
    refine .inl ⟨wk.stops H' gh, k (.ref D) (.m D) (setM mu' D (.dic acc)) H' (ie acc mu' q) (c1.trans ⟨c2.keep, fun b cc e => ?_, fun b o e n => ?_⟩) rfl fun a cc ha => ?_⟩
    · by_cases z : b = D
      · subst z; exact ⟨_, setM_same⟩
      · rw [setM_ne z]; exact c2.old b cc e
    · rw [setM_ne (ne_of_none e hD)]
      exact c2.new b o e n
    · by_cases z : a = D
      · subst z
        rw [setM_same] at ha
        cases ha
        exact ⟨xs, hx, dx.1, dx.2⟩
      · rw [setM_ne z] at ha
        exact m2 a cc ha
theorem se_dc {scope : Scope} {own : List (Str × Nat)} {tg iter kx vx : Expr} (T : Tg) (hc : X.calm = true) (hN : X.N.Nodup) (ok : BlkOk X.N X.env.scope scope own) (ha : T.all (fun i => decide (i ∈ own.map (·.2))) = true)
    (hg : ∀ (s : Shared) (H : Hp) (C : Addr) (cl : List (Str × Addr)) (fp : List Addr), PG (X.blk s H scope (compEnvC scope cl C X.env) fp) tg (gT X.K T)) (hs : ∀ x, foldedSetIterable iter X.env x = pure x)
    (h : SI X tg iter G mu (dcPost (InBlk X scope) T kx vx (own.map (·.2)) G P)) : SE X (.DictComp kx vx [⟨tg, iter, [], 0⟩] scope pos) G mu P :=
  SE.mk (pe_dc hc hN piI ok hg (fun _ _ _ _ _ => pts_nil) (fun s H C cl fp => ⟨fun pins s' σ H' Q I h => h s H C cl fp pins s' I⟩) (fun s H C cl fp => ⟨fun pins s' σ H' Q I h => h s H C cl fp pins s' I⟩) hs) fun σ H Q d m k => dc_rd T ha d m k h
/-! two fors, the elements leave the cells as they are -/
def Ext' (mu mu' : Mu) : Prop := ∀ a c, mu a = some c → mu' a = some c
theorem lc2_rd {scope : Scope} {own : List (Str × Nat)} {vs1 : List Nat} {tg iter tg1 iter1 elt : Expr} (T T1 : Tg) {P : PW1} {σ : St} {H : Hp} {Q : VK} (ha : T.all (fun i => decide (i ∈ own.map (·.2))) = true) (ha1 : T1.all (fun i => decide (i ∈ vs1)) = true) (d : DenG X.K H G σ) (m : HM X.K H mu) (k : Kont X.K mu H P Q)
    (h : SI X tg iter G mu fun ws Gm mu1 => (∀ mu', Ext mu1 mu' → Gm mu') ∧ ∃ (us : W → List W) (g : W → W → W), (ws.flatMap fun w => (us w).map (g w)).length ≤ sizeLine ∧
      (∀ w ∈ ws, ∃ G2, T.bind w (wipeG G (own.map (·.2))) = some G2 ∧ ∀ mu', Ext mu1 mu' → InBlk X scope fun Y => SI Y tg1 iter1 G2 mu' fun us' Gm' mu2 => us' = us w ∧ mu2 = mu' ∧ (∀ mu'', Ext mu1 mu'' → Gm' mu'') ∧ ∀ u ∈ us w, ∃ G3, T1.bind u (wipeG G2 vs1) = some G3 ∧ ∀ mu'', Ext mu1 mu'' → InBlk X scope fun Z => SE Z elt G3 mu'' fun r mu4 => r = g w u ∧ mu4 = mu'') ∧
      ∀ D, mu1 D = none → P (.m D) (setM mu1 D (.lst (ws.flatMap fun w => (us w).map (g w))))) :
    tLc2 (tI X tg iter) (gT X.K T) tYes (fun σ2 H2 R2 => ∀ (s : Shared) (H : Hp) (C : Addr) (cl : List (Str × Addr)) (fp : List Addr), tI (X.blk s H scope (compEnvC scope cl C X.env) fp) tg1 iter1 σ2 H2 R2) (gT X.K T1) tYes
      (fun σ2 H2 Q2 => ∀ (s : Shared) (H : Hp) (C : Addr) (cl : List (Str × Addr)) (fp : List Addr), tE (X.blk s H scope (compEnvC scope cl C X.env) fp) elt σ2 H2 Q2) (own.map (·.2)) vs1 σ H Q := by
  refine h σ H _ d m fun J ws Gm mu1 H1 ⟨hGm, us, g, hl, it, ie⟩ c1 m1 ⟨Gh, Y, wk, hg, hy⟩ D hD => ?_
  have nD := m1.dom hD
  have ex : ∀ c, Ext mu1 (setM mu1 D c) := fun c => Ext.refl.set nD
  obtain ⟨c0, m0⟩ := laidC (o := .lst []) (c := .lst []) m1 hD (newLst (ws := []) rfl)
  refine ⟨fun i n H' => n = ws.length - i ∧ i ≤ ws.length ∧ HM X.K H' (setM mu1 D (.lst ((ws.take i).flatMap fun w => (us w).map (g w)))) ∧ Chg mu1 H1 (setM mu1 D (.lst ((ws.take i).flatMap fun w => (us w).map (g w)))) H', ⟨ws.length, by simp, Nat.zero_le _, m0, c0⟩, ?_⟩
  rintro i n H' ⟨rfl, hi, m2, c2⟩
  have gh := hg _ H' c2 m2 (hGm _ (ex _))
  by_cases hlt : i < ws.length
  · refine .inr ⟨wk.goes i H' hlt gh, fun H' => HM X.K H' (setM mu1 D (.lst ((ws.take (i + 1)).flatMap fun w => (us w).map (g w)))) ∧ Chg mu1 H1 (setM mu1 D (.lst ((ws.take (i + 1)).flatMap fun w => (us w).map (g w)))) H', fun H'' hN => ⟨ws.length - (i + 1), by omega, rfl, hlt, hN⟩, fun x H'' y => ?_⟩
    obtain ⟨w, hw, c3, m3, d3⟩ := hy i H' x H'' _ hlt c2 m2 (hGm _ (ex _)) (wk.yields i H' x H'' hlt gh y)
    obtain ⟨G2, hb, hin⟩ := it w (List.mem_of_getElem? hw)
    have dw : DenG X.K H'' (wipeG G (own.map (·.2))) (wipe σ (own.map (·.2))) := c3.denG m2 (c2.denG m1 (c1.denG m (wipeG_den d _)))
    have tk : (ws.take (i + 1)).flatMap (fun w => (us w).map (g w)) = ((ws.take i).flatMap fun w => (us w).map (g w)) ++ (us w).map (g w) := by
      rw [List.take_add_one, hw, List.flatMap_append]
      simp
    rw [tk]
    have lenle : ∀ j, j < (us w).length → (((ws.take i).flatMap fun w => (us w).map (g w)) ++ ((us w).take j).map (g w)).length < sizeLine := fun j hj => by
      have q1 : ws = ws.take i ++ w :: ws.drop (i + 1) := by
        have := List.take_append_drop i ws
        rw [List.drop_eq_getElem_cons hlt] at this
        have hw' : ws[i] = w := by
          have := List.getElem?_eq_getElem hlt
          rw [hw] at this
          exact (Option.some.inj this).symm
        rw [hw'] at this
        exact this.symm
      have q2 : (ws.flatMap fun w => (us w).map (g w)).length = (((ws.take i).flatMap fun w => (us w).map (g w)) ++ ((us w).map (g w) ++ (ws.drop (i + 1)).flatMap fun w => (us w).map (g w))).length := by
        conv => lhs; rw [q1]
        rw [List.flatMap_append, List.flatMap_cons]
      rw [List.length_append, List.length_append, List.length_map] at q2
      rw [List.length_append, List.length_map, List.length_take]
      omega
    refine gT_run T hb ha dw d3 fun σ2 d2 e2 => ⟨e2.trans wipe_wipe, ?_⟩
    simp only [tYes, if_true]
    intro s Hs C cl fp
    refine hin _ (ex _) s Hs C cl fp σ2 H'' _ d2 m3 fun J1 us' Gm' mu2 H4 ⟨e3, e4, hGm', tn⟩ c4 m4 ⟨Gh1, Y1, wk1, hg1, hy1⟩ => ?_
    subst e3 e4
    have c24 := (c2.trans c3).trans c4
    generalize hacc : ((ws.take i).flatMap fun w => (us w).map (g w)) = acc at *
    refine ⟨fun j n H' => n = (us w).length - j ∧ j ≤ (us w).length ∧ Chg (setM mu1 D (.lst acc)) H4 (setM mu1 D (.lst (acc ++ ((us w).take j).map (g w)))) H' ∧ HM X.K H' (setM mu1 D (.lst (acc ++ ((us w).take j).map (g w)))), ⟨(us w).length, by simp, Nat.zero_le _, ?_, ?_⟩, ?_⟩
    · simp only [List.take_zero, List.map_nil, List.append_nil]
      exact Chg.refl
    · simp only [List.take_zero, List.map_nil, List.append_nil]
      exact m4
    rintro j n H5 ⟨rfl, hj, c5, m5⟩
    have gh1 := hg1 _ H5 c5 m5 (hGm' _ (ex _))
    by_cases hjl : j < (us w).length
    · refine .inr ⟨wk1.goes j H5 hjl gh1, fun H' => Chg (setM mu1 D (.lst acc)) H4 (setM mu1 D (.lst (acc ++ ((us w).take (j + 1)).map (g w)))) H' ∧ HM X.K H' (setM mu1 D (.lst (acc ++ ((us w).take (j + 1)).map (g w)))), fun H'' hN => ⟨(us w).length - (j + 1), by omega, rfl, hjl, hN⟩, fun x1 H6 y1 => ?_⟩
      obtain ⟨u, hu, c6, m6, d6⟩ := hy1 j H5 x1 H6 _ hjl c5 m5 (hGm' _ (ex _)) (wk1.yields j H5 x1 H6 hjl gh1 y1)
      obtain ⟨G3, hb3, he⟩ := tn u (List.mem_of_getElem? hu)
      have dG2 : DenG X.K H6 (wipeG G2 vs1) (wipe σ2 vs1) := c6.denG m5 (c5.denG m4 (c4.denG m3 (wipeG_den d2 vs1)))
      refine gT_run T1 hb3 ha1 dG2 d6 fun σ3 d7 e7 => ⟨e7.trans wipe_wipe, ?_⟩
      simp only [tYes, if_true]
      intro s Hs C cl fp
      refine he _ (ex _) s Hs C cl fp σ3 H6 _ d7 m6 fun v r mu4 H7 ⟨e8, e9⟩ c8 d8 m8 => ?_
      subst e8 e9
      have tku : acc ++ ((us w).take (j + 1)).map (g w) = (acc ++ ((us w).take j).map (g w)) ++ [g w u] := by
        rw [List.take_add_one, hu, List.map_append, List.append_assoc]
        rfl
      obtain ⟨ys, hy7, dy7⟩ := m8 D _ setM_same
      obtain ⟨c9, m9⟩ := wrote (o := .lst (ys ++ [v])) (c := .lst ((acc ++ ((us w).take j).map (g w)) ++ [g w u])) m8 setM_same (newLst (DenAll.append dy7 ⟨v, [], rfl, d8, rfl⟩))
      rw [setM_set, ← tku] at c9 m9
      exact ⟨ys, hy7, by rw [← dy7.length]; exact lenle j hjl, ((c5.trans c6).trans c8).trans c9, m9⟩
    · have ej : j = (us w).length := by omega
      subst ej
      rw [List.take_length] at c5 m5
      exact .inl ⟨wk1.stops H5 gh1, m5, c24.trans c5⟩
  · have ei : i = ws.length := by omega
    subst ei
    rw [List.take_length] at m2 c2
    exact .inl ⟨wk.stops H' gh, k (.ref D) (.m D) _ H' (ie D nD) (c1.trans c2) rfl m2⟩
theorem ss_setlc2 {E : WE} {i : Nat} {y : Str} {py spos : Pos} {scope : Scope} {own : List (Str × Nat)} {vs1 : List Nat} {tg iter tg1 iter1 elt : Expr} (T T1 : Tg) (hc : X.calm = true) (hN : X.N.Nodup) (hy : X.N[i]? = some y) (hyl : X.env.scope.names.lookup y = some .local)
    (hsw : swapsWith (.ListComp elt [⟨tg, iter, [], 0⟩, ⟨tg1, iter1, [], 0⟩] scope pos) (some (.Name y py)) spos.line X.env = pure true) (ok : BlkOk X.N X.env.scope scope own) (hv : ∀ i ∈ vs1, i ∈ own.map (·.2)) (ha : T.all (fun i => decide (i ∈ own.map (·.2))) = true) (ha1 : T1.all (fun i => decide (i ∈ vs1)) = true)
    (hg : ∀ (s : Shared) (H : Hp) (C : Addr) (cl : List (Str × Addr)) (fp : List Addr), PG (X.blk s H scope (compEnvC scope cl C X.env) fp) tg (gT X.K T)) (hg1 : ∀ (s : Shared) (H : Hp) (C : Addr) (cl : List (Str × Addr)) (fp : List Addr), PG (X.blk s H scope (compEnvC scope cl C X.env) fp) tg1 (gT X.K T1)) (hs : ∀ x, foldedSetIterable iter X.env x = pure x) (hs1 : ∀ env x, foldedSetIterable iter1 env x = pure x)
    (h : SI X tg iter G mu fun ws Gm mu1 => (∀ mu', Ext mu1 mu' → Gm mu') ∧ ∃ (us : W → List W) (g : W → W → W), (ws.flatMap fun w => (us w).map (g w)).length ≤ sizeLine ∧
      (∀ w ∈ ws, ∃ G2, T.bind w (wipeG G (own.map (·.2))) = some G2 ∧ ∀ mu', Ext mu1 mu' → InBlk X scope fun Y => SI Y tg1 iter1 G2 mu' fun us' Gm' mu2 => us' = us w ∧ mu2 = mu' ∧ (∀ mu'', Ext mu1 mu'' → Gm' mu'') ∧ ∀ u ∈ us w, ∃ G3, T1.bind u (wipeG G2 vs1) = some G3 ∧ ∀ mu'', Ext mu1 mu'' → InBlk X scope fun Z => SE Z elt G3 mu'' fun r mu4 => r = g w u ∧ mu4 = mu'') ∧
      ∀ D, mu1 D = none → E.nx (G.set i (some (.m D))) (setM mu1 D (.lst (ws.flatMap fun w => (us w).map (g w))))) : SS X (.Assign [.Name y py] (.ListComp elt [⟨tg, iter, [], 0⟩, ⟨tg1, iter1, [], 0⟩] scope pos) spos) G mu E :=
  SS.mk (ps_setLc2 hc hN hy hyl hsw piI ok hv hg (fun _ _ _ _ _ => pts_nil) (fun s H C cl fp => ⟨fun pins s' σ H' Q I h => h s H C cl fp pins s' I⟩) hg1 (fun _ _ _ _ _ => pts_nil) (fun s H C cl fp => ⟨fun pins s' σ H' Q I h => h s H C cl fp pins s' I⟩) hs hs1) fun σ H D d m k =>
    lc2_rd (P := fun w mu1 => E.nx (G.set i (some w)) mu1) T T1 ha ha1 d m (fun v w mu1 H1 h1 c1 d1 m1 => k.nx _ _ _ _ h1 c1 (DenG.set (c1.denG m d) d1) m1) h
/-! a star of a tuple -/
theorem sa_star {P : List W → Mu → Prop} {p : Pos} (h : SE X e G mu fun w mu1 => match w with | .tup us => SA X es G mu1 fun ws mu2 => P (us ++ ws) mu2 | _ => False) (hs : starEach (.Starred e p :: es) X.env = (true, eval e X.env) :: starEach es X.env := by rfl) : SA X (.Starred e p :: es) G mu P :=
  SA.mk (StX.pa_star peE paA hs) fun σ H Q d m k => h σ H _ d m fun v w mu1 H1 h1 c1 d1 m1 => by
    cases w with
    | tup us =>
      obtain ⟨a, xs, rfl, s, dx⟩ := d1
      exact ⟨a, xs, rfl, .inl s, h1 σ H1 _ (c1.denG m d) m1 fun vs ws mu2 H2 h2 c2 d2 m2 => k _ _ _ _ h2 (c1.trans c2) (DenAll.append (c2.denAll m1 dx) d2) m2⟩
    | _ => exact False.elim h1
/-! sorted of data -/
theorem dats_mapD : ∀ us : List W, dats us = us.map dat
  | [] => by simp [dats]
  | u :: us => by simp [dats, dats_mapD us]
theorem each_zip {K : PySem.W.Frag} {H : Hp} : ∀ {us : List W} {xs : List V} {its : List Value}, DenAll K H us xs → Vals xs its → PySem.W.EachIs (fun u (b : V × W) => RelV b.1 u) its (xs.zip us)
  | [], xs, its, d, r => by
    have d : xs = [] := d
    subst d
    cases r
    exact .nil
  | u :: us, _, its, ⟨v, xs, e, d1, d2⟩, r => by
    subst e
    cases r with
    | cons r1 r2 => exact .cons r1 (each_zip d2 r2)
theorem each_reads {X : Cx} {pins : List (Addr × Obj)} {σ : St} {H : Hp} {s : Shared} (I : Inv X pins σ H s) : ∀ {us : List W} {xs : List V} {its : List Value}, plsW us = true → DenAll X.K H us xs → Vals xs its → PySem.W.EachIs (fun u (b : V × W) => ∃ as, Reads s.heap u (dat b.2) as) its (xs.zip us)
  | [], xs, its, _, d, r => by
    have d : xs = [] := d
    subst d
    cases r
    exact .nil
  | u :: us, _, its, p, ⟨v, xs, e, d1, d2⟩, r => by
    subst e
    unfold plsW at p
    rw [Bool.and_eq_true] at p
    cases r with
    | cons r1 r2 => exact .cons (Dp.reads I (dat u) v _ (Den.dp u p.1 d1) r1) (each_reads I p.2 d2 r2)
theorem each_vals : ∀ {bs : List (V × W)} {out : List Value}, PySem.W.EachIs (fun u (b : V × W) => RelV b.1 u) out bs → Vals (bs.map (·.1)) out
  | _, _, .nil => .nil
  | _, _, .cons r t => .cons r (each_vals t)
theorem zip_snd {K : PySem.W.Frag} {H : Hp} {us : List W} {xs : List V} (d : DenAll K H us xs) : (xs.zip us).map (·.2) = us := by
  have := d.length
  rw [List.map_snd_zip]
  omega
theorem zip_den {K : PySem.W.Frag} {H : Hp} : ∀ {us : List W} {xs : List V}, DenAll K H us xs → ∀ b ∈ xs.zip us, Den K H b.2 b.1
  | [], xs, d, b, hb => by simp at hb
  | u :: us, _, ⟨v, xs, e, d1, d2⟩, b, hb => by
    subst e
    rcases List.mem_cons.mp hb with rfl | hb
    · exact d1
    · exact zip_den d2 b hb
theorem denAll_of {K : PySem.W.Frag} {H : Hp} : ∀ {bs : List (V × W)}, (∀ b ∈ bs, Den K H b.2 b.1) → DenAll K H (bs.map (·.2)) (bs.map (·.1))
  | [], _ => rfl
  | b :: bs, h => ⟨b.1, _, rfl, h b (by simp), denAll_of fun c hc => h c (by simp [hc])⟩
theorem mem_dats {us : List W} {d : PyData} : d ∈ dats us ↔ ∃ u ∈ us, d = dat u := by
  induction us with
  | nil => simp [dats]
  | cons u us ih => simp [dats, ih]
def leW (a b : W) : Bool := PySem.W.dataLe false (fun w : W => dat w) a b
def rSortW (K : PySem.W.Frag) : List V → Hp → VK → Prop := fun vs H Q => ∃ (a : Addr) (xs : List V) (us : List W), vs = [.ref a] ∧ SqL K H a xs ∧ DenAll K H us xs ∧ plsW us = true ∧ PySem.W.AllAlike (dats us) ∧ PySem.W.Sortable (dats us) ∧ us.length ≤ sizeLine ∧ (∀ u ∈ us, (dat u).depth ≤ 64) ∧
  ∀ p ys, H p = none → DenAll K H (us.mergeSort leW) ys → Q (.ref p) (upd H p (.lst ys))
theorem cr_sortedW {j : Nat} (hr : Room j X.A) : CallR X (.builtin "sorted") (rSortW X.K) := by
  intro pins s σ H vs us' Q I r h
  obtain ⟨a, xs, us, rfl, hs, dx, pl, al, so, hl, dp, q⟩ := h
  obtain ⟨its, rv, pL, hz⟩ := I.list hs
  cases r with
  | cons ra rn =>
    cases rn
    cases ra
    have em : (xs.zip us).map (fun b => dat b.2) = dats us := by
      have := congrArg (List.map dat) (zip_snd dx)
      rw [List.map_map] at this
      rw [show dats us = us.map dat from by simpa using dats_mapD us]
      exact this
    have hlen : (xs.zip us).length = us.length := by rw [List.length_zip, ← dx.length]; omega
    refine PySem.W.sorted_data (β := V × W) (bs := xs.zip us) (enc := fun b => dat b.2) pL.isList (each_zip dx rv) (each_reads I pl dx rv) (by rw [em]; exact al) (by rw [em]; exact so) (by rw [hlen]; exact hl) (fun b hb => ?_) fun out ho he => ?_
    · have := dp b.2 (List.of_mem_zip hb).2
      have := hr.un
      omega
    · obtain ⟨c, hc⟩ := PyProof.Rows.sortedAll_at s.heap its out.toArray
      have hp : s.heap.objs.size ≤ s.heap.objs.size + 1 := Nat.le_succ _
      have hn : H (s.heap.objs.size + 1) = none := I.hok.fresh hp
      have rel := each_vals he
      have dn : DenAll X.K H (us.mergeSort leW) (((xs.zip us).mergeSort (PySem.W.dataLe false fun b => dat b.2)).map (·.1)) := by
        have h1 := denAll_of (K := X.K) (H := H) (bs := (xs.zip us).mergeSort (PySem.W.dataLe false fun b => dat b.2)) fun b hb => zip_den dx b ((List.mergeSort_perm _ _).mem_iff.mp hb)
        have h2 : ((xs.zip us).mergeSort (PySem.W.dataLe false fun b => dat b.2)).map (·.2) = us.mergeSort leW := by
          exact (PySem.W.sort_maps (r := PySem.W.dataLe false fun b : V × W => dat b.2) (s := leW) (l := xs.zip us) (fun b : V × W => b.2) fun a _ b _ => rfl).trans (by rw [zip_snd dx])
        rw [h2] at h1
        exact h1
      refine ⟨.ref (s.heap.objs.size + 1), upd H (s.heap.objs.size + 1) (.lst _), I.laid (t' := s.toks) (fun _ _ => PyProof.Rows.sortedAll_old) hp ⟨?_, out, c, rel, hc⟩, rfl, q _ _ hn dn⟩
      rw [List.length_map, List.length_mergeSort, hlen]
      exact hl
abbrev sortedW (ws : List W) (mu : Mu) (P : PW1) : Prop := match ws with | [.m a] => ∃ us, mu a = some (.lst us) ∧ plsW us = true ∧ PySem.W.AllAlike (dats us) ∧ PySem.W.Sortable (dats us) ∧ us.length ≤ sizeLine ∧ (∀ u ∈ us, (dat u).depth ≤ 64) ∧ ∀ p, mu p = none → P (.m p) (setM mu p (.lst (us.mergeSort leW))) | _ => False
theorem sorted_w : CallW X (rSortW X.K) sortedW := fun ws vs mu H P Q d m h k => by
  unfold sortedW at h
  split at h
  · rename_i a
    obtain ⟨us, h1, pl, al, so, hl, dp, q⟩ := h
    obtain ⟨v, rfl, dv⟩ := d.one
    have dv : v = .ref a := dv
    subst dv
    obtain ⟨xs, hx, dx⟩ := m a _ h1
    refine ⟨a, xs, us, rfl, SqL.of hx, dx, pl, al, so, hl, dp, fun p ys hp dy => ?_⟩
    obtain ⟨c2, m2⟩ := laidC (o := .lst ys) (c := .lst (us.mergeSort leW)) m hp (newLst dy)
    exact k _ _ _ _ (q p (m.dom hp)) c2 rfl m2
  · exact h.elim
theorem se_sorted {j : Nat} (hr : Room j X.A) (h : SE X e G mu fun w mu1 => sortedW [w] mu1 P) (hm : X.mg "sorted" = none) (hg : Gl X "sorted" := by rfl) (he : starEach [e] X.env = [(false, eval e X.env)] := by rfl) (hpl : (backTo pos (starEach [] X.env)).any (·.1) = false := by rfl) :
    SE X (.Call (.Name "sorted" p) [e] [] pos) G mu P := se_blt (cr_sortedW hr) sorted_w hm (sa_one h he) (by decide +kernel) hg (by decide) (by decide) he hpl
end
end Dv
set_option Elab.async false
set_option linter.all false
set_option maxRecDepth 100000
/-! Instances of own classes by values: made, their fields stored, their methods called. -/
namespace Dv
open PySem L2
section
variable {K : PySem.W.Frag} {H : Hp}
theorem DKV.putF : ∀ {fs : List (Str × W)} {vs : List (Str × V)} {f : Str} {w : W} {v : V}, DKV K H fs vs → Den K H w v → DKV K H (putW fs f w) (putF f v vs)
  | [], _, f, w, v, d, dv => by
    rw [d.nil]
    exact DKV.mk dv ⟨rfl, rfl⟩
  | (j, u) :: r, _, f, w, v, d, dv => by
    obtain ⟨v', vs', rfl, d1, d2⟩ := d.cons
    unfold putW L2.putF
    by_cases e : j = f
    · rw [if_pos e, if_pos e]
      first
        | exact DKV.mk dv d2
        | (subst e; exact DKV.mk dv d2)
    · rw [if_neg e, if_neg e]
      exact DKV.mk d1 (DKV.putF d2 dv)
end
/-- a method as it stands behind the top -/
structure MDfn (K : PySem.W.Frag) (Cl : Addr) (m qual : Str) (st : Stmt) (ps : List Str) : Prop where
  ex : ∃ f fd, Fun K m qual st f fd ∧ Meth K Cl m f ∧ Binds K fd ps []
structure MetOk (P : Program) (w : World) (K : PySem.W.Frag) (mg : Str → Option Value) (base : Heap) (Cl : Addr) (m : Str) (ps : List Str) (k : Nat) (S : SpW) : Prop where
  ex : ∃ f fd, FnOk P w K mg base CX0 k f fd ps (spW K S) ∧ Meth K Cl m f ∧ Binds K fd ps []
structure MakOk (P : Program) (w : World) (K : PySem.W.Frag) (mg : Str → Option Value) (base : Heap) (x : Str) (Cl : Addr) (ps : List Str) (k : Nat) (S : SpW) : Prop where
  ex : ∃ f fd, FnOk P w K mg base CX0 k f fd ps (spW K S) ∧ Mk K Cl f ∧ mg x = some (.ref Cl) ∧ Binds K fd ps []
structure KDfn (K : PySem.W.Frag) (mg : Str → Option Value) (x : Str) (Cl : Addr) (qual : Str) (st : Stmt) (ps : List Str) : Prop where
  ex : ∃ f fd, Fun K "__init__" qual st f fd ∧ Mk K Cl f ∧ mg x = some (.ref Cl) ∧ Binds K fd ps []
section
variable {P : Program} {w : World} {K : PySem.W.Frag} {mg : Str → Option Value} {base : Heap}
theorem metOk {Cl : Addr} {m qual : Str} {st : Stmt} {N ps : List Str} {k : Nat} {S : SpW} (D : MDfn K Cl m qual st ps) (Sc : FnScope N ps (defScope st)) (len : ∀ ws mu P, S ws mu P → ws.length = ps.length)
    (body : ∀ (f : Addr) (cdv : Value) (A : Around) (outer : List Env) (s : Shared) (H : Hp) (E : XK), Room k (A.deeper (PyProof.Rows.envOfC qual (defScope st) s.heap.objs.size f cdv)) → ∀ ws mu Pt, S ws mu Pt →
      SSs (cxOf CX0 P w K mg base N qual (defScope st) f cdv A outer s H E).nox (defBody st) (startW N ws) mu { nx := fun _ mu' => Pt .non mu', rt := Pt }) : MetOk P w K mg base Cl m ps (k + 1) S := by
  obtain ⟨f, fd, F, hm, hb⟩ := D.ex
  exact ⟨f, fd, okW F Sc len (body f), hm, hb⟩
theorem makOk {x : Str} {Cl : Addr} {qual : Str} {st : Stmt} {N ps : List Str} {k : Nat} {S : SpW} (D : KDfn K mg x Cl qual st ps) (Sc : FnScope N ps (defScope st)) (len : ∀ ws mu P, S ws mu P → ws.length = ps.length)
    (body : ∀ (f : Addr) (cdv : Value) (A : Around) (outer : List Env) (s : Shared) (H : Hp) (E : XK), Room k (A.deeper (PyProof.Rows.envOfC qual (defScope st) s.heap.objs.size f cdv)) → ∀ ws mu Pt, S ws mu Pt →
      SSs (cxOf CX0 P w K mg base N qual (defScope st) f cdv A outer s H E).nox (defBody st) (startW N ws) mu { nx := fun _ mu' => Pt .non mu', rt := Pt }) : MakOk P w K mg base x Cl ps (k + 1) S := by
  obtain ⟨f, fd, F, hm, hg, hb⟩ := D.ex
  exact ⟨f, fd, okW F Sc len (body f), hm, hg, hb⟩
end
section
variable {X : Cx} {e a b c : Expr} {es : List Expr} {st : Stmt} {sts : List Stmt} {G : Gs} {mu mu' : Mu} {pos p apos cpos : Pos} {P : PW1}
theorem newIns {K : PySem.W.Frag} {H : Hp} {x Cl dx : Addr} {vs : List (Str × V)} {fs : List (Str × W)} (d : DKV K H fs vs) : ∀ H', Kps K H H' → H' x = some (.ins Cl dx vs) → CellOk K H' x (.ins Cl fs) := fun H' st h => ⟨dx, vs, h, d.1, DenAll.mono st _ d.2⟩
/-- self.f = e -/
theorem ss_fld {E : WE} {f : Str} {pos' : Pos} (h : SE X e G mu fun w mu1 => SE X a G mu1 fun o mu2 => ∃ aa Cl fs, o = .m aa ∧ mu2 aa = some (.ins Cl fs) ∧ Cls X.K Cl ∧ NoAttr X.K Cl f ∧ fs.length < 1000 ∧ E.nx G (setM mu2 aa (.ins Cl (putW fs f w))))
    (hs : swapsWith e (some (.Attribute a f pos')) pos.line X.env = pure false := by rfl) : SS X (.Assign [.Attribute a f pos'] e pos) G mu E :=
  SS.mk (ps_fld peE peE hs) fun σ H D d m k => h σ H _ d m fun v w mu1 H1 h1 c1 d1 m1 => h1 σ H1 _ (c1.denG m d) m1 fun x o mu2 H2 h2 c2 d2 m2 => by
    obtain ⟨aa, Cl, fs, rfl, e0, hc, hn, hl, q⟩ := h2
    have d2 : x = .ref aa := d2
    subst d2
    obtain ⟨dx, vs, hx, dk⟩ := m2 aa _ e0
    have dk : DKV X.K H2 fs vs := dk
    have d1 := c2.den m1 d1
    obtain ⟨c4, m4⟩ := wrote (o := .ins Cl dx (L2.putF f v vs)) (c := .ins Cl (putW fs f w)) m2 e0 (newIns (dx := dx) (dk.putF d1))
    have cc := c1.trans c2
    refine ⟨aa, Cl, dx, vs, rfl, hx, hc, hn, ?_, k.nx _ _ _ _ q (cc.trans c4) (c4.denG m2 (cc.denG m d)) m4⟩
    have := congrArg List.length dk.1
    simp only [List.length_map] at this
    omega
/-- C(e, ..) -/
theorem se_make {x : Str} {Cl : Addr} {ps : List Str} {k : Nat} {S : SpW} (D : MakOk X.prog X.w X.K X.mg X.base x Cl ps k S) (hr : Room (k + 1) X.A) (h : SA X (e :: es) G mu fun ws mu1 => ∀ y, mu1 y = none → S (.m y :: ws) (setM mu1 y (.ins Cl [])) fun w mu2 => w = .non ∧ P (.m y) mu2)
    (hg : Gl X x := by rfl) (hdb : (x == ("__debug__" : Str)) = false := by decide) (he : starEach (e :: es) X.env = (false, eval e X.env) :: starEach es X.env := by rfl) (hpl : (backTo pos (starEach es X.env)).any (·.1) = false := by rfl) : SE X (.Call (.Name x p) (e :: es) [] pos) G mu P := by
  obtain ⟨f, fd, F, hm, hgm, hb⟩ := D.ex
  exact SE.mk (pe_make hm F hr hg hgm hb .nil pass0 paA hdb he hpl) fun σ H Q d m k => h σ H _ d m fun vs ws mu1 H1 h1 c1 d1 m1 => fun y dx hy hdx ne => by
    obtain ⟨c2, m2⟩ := laid (o := .own y) m1 hdx
    have hy2 : upd H1 dx (.own y) y = none := by rw [upd_ne fun z => ne z.symm]; exact hy
    obtain ⟨c3, m3⟩ := laidC (o := .ins Cl dx []) (c := .ins Cl []) m2 hy2 (newIns (dx := dx) (fs := []) ⟨rfl, rfl⟩)
    refine ⟨_, _, _, h1 y (m1.dom hy), ⟨_, _, rfl, rfl, ?_⟩, m3, fun v w mu4 H4 h4 c4 d4 m4 => ?_⟩
    · rw [List.append_nil]
      exact c3.denAll m2 (c2.denAll m1 d1)
    · obtain ⟨rfl, q⟩ := h4
      exact ⟨d4, k _ _ _ _ q (((c1.trans c2).trans c3).trans c4) rfl m4⟩
/-- o.m(e, ..) -/
theorem se_meth {mn : Str} {Cl : Addr} {ps : List Str} {k : Nat} {S : SpW} {o : Expr} {pl : Sem Bool} (D : MetOk X.prog X.w X.K X.mg X.base Cl mn ps k S) (hc : Cls X.K Cl) (hr : Room k X.A)
    (h : SE X o G mu fun w mu1 => ∃ aa fs, w = .m aa ∧ mu1 aa = some (.ins Cl fs) ∧ valW fs mn = none ∧ SA X (e :: es) G mu1 fun ws mu2 => S (.m aa :: ws) mu2 P)
    (he : starEach (e :: es) X.env = (false, eval e X.env) :: starEach es X.env := by rfl) (hpl : (backTo pos (starEach es X.env)).any (·.1) = false := by rfl)
    (hev : eval (.Call (.Attribute o mn apos) (e :: es) [] pos) X.env = (do
      let ov ← eval o X.env
      standAt apos.atName
      let __x ← holding [ov] (getMethod ov mn pl)
      match __x with
        | (f, first) => callWith pos f first (backTo pos (starEach (e :: es) X.env)) (backToKw pos (keywordEach [] X.env))) := by rfl) : SE X (.Call (.Attribute o mn apos) (e :: es) [] pos) G mu P := by
  obtain ⟨f, fd, F, hm, hb⟩ := D.ex
  exact SE.mk (pe_meth peE hc hm F hr hb .nil pass0 paA he hpl hev) fun σ H Q d m k => h σ H _ d m fun v w mu1 H1 h1 c1 d1 m1 => by
    obtain ⟨aa, fs, rfl, e0, hn, h2⟩ := h1
    have d1 : v = .ref aa := d1
    subst d1
    obtain ⟨dx, vs, hx, dk⟩ := m1 aa _ e0
    refine ⟨aa, dx, vs, rfl, hx, (lookup_valV vs mn).trans (DKV.getN (K := X.K) (H := H1) dk hn), h2 σ H1 _ (c1.denG m d) m1 fun vs' ws mu2 H2 h3 c2 d2 m2 => ⟨_, _, P, h3, ⟨_, _, rfl, rfl, ?_⟩, m2, k.step (c1.trans c2)⟩⟩
    rw [List.append_nil]
    exact d2
end
end Dv
set_option Elab.async false
set_option linter.all false
set_option maxRecDepth 100000
/-! Whole numbers by values. -/
namespace Dv
open PySem L2
section
variable {X : Cx} {e a b c : Expr} {es : List Expr} {st : Stmt} {sts : List Stmt} {G : Gs} {mu mu' : Mu} {pos p apos cpos : Pos} {P : PW1}
abbrev iopW (Cc : Int → Int → Prop) (g : Int → Int → Int) (w1 w2 : W) (mu : Mu) (P : PW1) : Prop := match w1, w2 with | .int i, .int j => Cc i j ∧ P (.int (g i j)) mu | _, _ => False
abbrev iop0W (g : Int → Int → Int) (w1 w2 : W) (mu : Mu) (P : PW1) : Prop := match w1, w2 with | .int i, .int j => P (.int (g i j)) mu | _, _ => False
theorem iop_w {Cc : Int → Int → Prop} {g : Int → Int → Int} : OpW X (rI Cc fun i j => .int (g i j)) (iopW Cc g) := fun w1 w2 x y mu H P Q dx dy m h k => by
  unfold iopW at h
  split at h
  · rename_i i j
    exact ⟨i, j, dx, dy, h.1, k.now h.2 rfl m⟩
  · exact h.elim
theorem iop0_w {g : Int → Int → Int} : OpW X (rI0 fun i j => .int (g i j)) (iop0W g) := fun w1 w2 x y mu H P Q dx dy m h k => by
  unfold iop0W at h
  split at h
  · rename_i i j
    exact ⟨i, j, dx, dy, k.now h rfl m⟩
  · exact h.elim
abbrev intW (w : W) (mu : Mu) (P : PW1) : Prop := match w with | .int i => P (.int i) mu | .bl k => P (.int (if k then 1 else 0)) mu | _ => False
theorem int_w : CallW X (fun xs H Q => (∃ i, xs = [.int i] ∧ Q (.int i) H) ∨ ∃ k, xs = [.bl k] ∧ Q (.int (if k then 1 else 0)) H) fun ws mu P => match ws with | [w] => intW w mu P | _ => False := fun ws vs mu H P Q d m h k => by
  dsimp only at h
  split at h
  · rename_i w
    obtain ⟨v, rfl, d0⟩ := d.one
    unfold intW at h
    split at h
    · rename_i i
      exact .inl ⟨i, by rw [show v = .int i from d0], k.now h rfl m⟩
    · rename_i i
      exact .inr ⟨i, by rw [show v = .bl i from d0], k.now h rfl m⟩
    · exact h.elim
  · exact h.elim
theorem se_intC (h : SE X e G mu fun w mu1 => intW w mu1 P) (hm : X.mg "int" = none) (hv : bootBuiltins ("int" : Str) = some (.type "int") := by decide +kernel) (hg : Gl X "int" := by rfl) (hs : starEach [e] X.env = [(false, eval e X.env)] := by rfl) (hpl : (backTo pos (starEach [] X.env)).any (·.1) = false := by rfl) : SE X (.Call (.Name "int" p) [e] [] pos) G mu P :=
  se_bty call_int1 int_w hm (sa_one h hs) hv hg (by decide) (by decide) hs hpl
theorem abs_w : CallW X (fun xs H Q => ∃ i, xs = [.int i] ∧ Q (.int (if i < 0 then -i else i)) H) fun ws mu P => match ws with | [.int i] => P (.int (if i < 0 then -i else i)) mu | _ => False := fun ws vs mu H P Q d m h k => by
  dsimp only at h
  split at h
  · rename_i i
    obtain ⟨v, rfl, d0⟩ := d.one
    exact ⟨i, by rw [show v = .int i from d0], k.now h rfl m⟩
  · exact h.elim
theorem se_absC (h : SE X e G mu fun w mu1 => ∃ i, w = .int i ∧ P (.int (if i < 0 then -i else i)) mu1) (hm : X.mg "abs" = none) (hv : bootBuiltins ("abs" : Str) = some (.builtin "abs") := by decide +kernel) (hg : Gl X "abs" := by rfl) (hs : starEach [e] X.env = [(false, eval e X.env)] := by rfl) (hpl : (backTo pos (starEach [] X.env)).any (·.1) = false := by rfl) : SE X (.Call (.Name "abs" p) [e] [] pos) G mu P :=
  se_blt call_abs abs_w hm (sa_one (h.imp fun w mu' ⟨i, e, q⟩ => by subst e; exact q) hs) hv hg (by decide) (by decide) hs hpl
/-- the power of a base of more than 64 bits -/
theorem op_powW : OpR X (binaryOp .Pow) (rI (fun i j => 0 ≤ j ∧ (PySem.Builtin.Int.intBits i : Int) * j ≤ 2 ^ 27) fun i j => .int (i ^ j.toNat)) := opI fun _ _ _ _ _ _ _ hc q => PyProof.Rows.pow_int hc.1 hc.2 q
theorem op_Add : OpR X (binaryOp .Add) (rI0 fun i j => .int (i + j)) := op_add
theorem op_Sub : OpR X (binaryOp .Sub) (rI0 fun i j => .int (i - j)) := op_sub
theorem op_Mult : OpR X (binaryOp .Mult) (rI (fun i j => CMulW i j) fun i j => .int (i * j)) := op_mulW
theorem op_Mod : OpR X (binaryOp .Mod) (rI (fun i j => 0 < j) fun i j => .int (i % j)) := op_mod
theorem op_FloorDiv : OpR X (binaryOp .FloorDiv) (rI (fun i j => CDivW i j) fun i j => .int (i / j)) := op_fdivW
theorem op_Pow : OpR X (binaryOp .Pow) (rI (fun i j => CPow i j) fun i j => .int (i ^ j.toNat)) := op_pow
abbrev opAddV (w1 w2 : W) (mu : Mu) (P : PW1) : Prop := match w1, w2 with | .int i, .int j => P (.int (i + j)) mu | _, _ => False
theorem Add_w : OpW X (rI0 fun i j => .int (i + j)) opAddV := fun w1 w2 x y mu H P Q dx dy m h k => by
  unfold opAddV at h
  split at h
  · rename_i i j
    exact ⟨i, j, dx, dy, k.now h rfl m⟩
  · exact h.elim
abbrev opSubV (w1 w2 : W) (mu : Mu) (P : PW1) : Prop := match w1, w2 with | .int i, .int j => P (.int (i - j)) mu | _, _ => False
theorem Sub_w : OpW X (rI0 fun i j => .int (i - j)) opSubV := fun w1 w2 x y mu H P Q dx dy m h k => by
  unfold opSubV at h
  split at h
  · rename_i i j
    exact ⟨i, j, dx, dy, k.now h rfl m⟩
  · exact h.elim
abbrev opMultV (w1 w2 : W) (mu : Mu) (P : PW1) : Prop := match w1, w2 with | .int i, .int j => CMulW i j ∧ P (.int (i * j)) mu | _, _ => False
theorem Mult_w : OpW X (rI (fun i j => CMulW i j) fun i j => .int (i * j)) opMultV := fun w1 w2 x y mu H P Q dx dy m h k => by
  unfold opMultV at h
  split at h
  · rename_i i j
    exact ⟨i, j, dx, dy, h.1, k.now h.2 rfl m⟩
  · exact h.elim
abbrev opModV (w1 w2 : W) (mu : Mu) (P : PW1) : Prop := match w1, w2 with | .int i, .int j => 0 < j ∧ P (.int (i % j)) mu | _, _ => False
theorem Mod_w : OpW X (rI (fun i j => 0 < j) fun i j => .int (i % j)) opModV := fun w1 w2 x y mu H P Q dx dy m h k => by
  unfold opModV at h
  split at h
  · rename_i i j
    exact ⟨i, j, dx, dy, h.1, k.now h.2 rfl m⟩
  · exact h.elim
abbrev opFloorDivV (w1 w2 : W) (mu : Mu) (P : PW1) : Prop := match w1, w2 with | .int i, .int j => CDivW i j ∧ P (.int (i / j)) mu | _, _ => False
theorem FloorDiv_w : OpW X (rI (fun i j => CDivW i j) fun i j => .int (i / j)) opFloorDivV := fun w1 w2 x y mu H P Q dx dy m h k => by
  unfold opFloorDivV at h
  split at h
  · rename_i i j
    exact ⟨i, j, dx, dy, h.1, k.now h.2 rfl m⟩
  · exact h.elim
abbrev opPowV (w1 w2 : W) (mu : Mu) (P : PW1) : Prop := match w1, w2 with | .int i, .int j => CPow i j ∧ P (.int (i ^ j.toNat)) mu | _, _ => False
theorem Pow_w : OpW X (rI (fun i j => CPow i j) fun i j => .int (i ^ j.toNat)) opPowV := fun w1 w2 x y mu H P Q dx dy m h k => by
  unfold opPowV at h
  split at h
  · rename_i i j
    exact ⟨i, j, dx, dy, h.1, k.now h.2 rfl m⟩
  · exact h.elim
abbrev opPowWV (w1 w2 : W) (mu : Mu) (P : PW1) : Prop := match w1, w2 with | .int i, .int j => (0 ≤ j ∧ (PySem.Builtin.Int.intBits i : Int) * j ≤ 2 ^ 27) ∧ P (.int (i ^ j.toNat)) mu | _, _ => False
theorem PowW_w : OpW X (rI (fun i j => (0 ≤ j ∧ (PySem.Builtin.Int.intBits i : Int) * j ≤ 2 ^ 27)) fun i j => .int (i ^ j.toNat)) opPowWV := fun w1 w2 x y mu H P Q dx dy m h k => by
  unfold opPowWV at h
  split at h
  · rename_i i j
    exact ⟨i, j, dx, dy, h.1, k.now h.2 rfl m⟩
  · exact h.elim
/-! texts and tuples put together -/
abbrev catW (w1 w2 : W) (mu : Mu) (P : PW1) : Prop := match w1, w2 with | .str i, .str j => i.length + j.length ≤ sizeLine ∧ P (.str (i ++ j)) mu | _, _ => False
theorem cat_w : OpW X (fun x y H Q => ∃ i j, x = .str i ∧ y = .str j ∧ i.length + j.length ≤ sizeLine ∧ Q (.str (i ++ j)) H) catW := fun w1 w2 x y mu H P Q dx dy m h k => by
  unfold catW at h
  split at h
  · rename_i i j
    exact ⟨i, j, dx, dy, h.1, k.now h.2 rfl m⟩
  · exact h.elim
end
end Dv
set_option Elab.async false
set_option linter.all false
set_option maxRecDepth 100000
namespace K1
open PySem L2 Dv
/-- the law's jar: three whole numbers, drawn from at most c times -/
structure JarOk (mu : Mu) (p : Addr) (c : Nat) : Prop where
  ex : ∃ a b n : Int, mu p = some (.lst [.int a, .int b, .int n]) ∧ 0 ≤ a ∧ a < 10 ^ 300 ∧ 0 ≤ b ∧ b < 2 ^ 61 ∧ 0 ≤ n ∧ n ≤ c
theorem JarOk.mono {mu : Mu} {p : Addr} {c c' : Nat} (h : JarOk mu p c) (l : c ≤ c') : JarOk mu p c' := by
  obtain ⟨a, b, n, h1, h2, h3, h4, h5, h6, h7⟩ := h.ex
  exact ⟨a, b, n, h1, h2, h3, h4, h5, h6, by omega⟩
theorem JarOk.ext {mu mu' : Mu} {p : Addr} {c : Nat} (h : JarOk mu p c) (e : Ext mu mu') : JarOk mu' p c := by
  obtain ⟨a, b, n, h1, h2⟩ := h.ex
  exact ⟨a, b, n, e _ _ h1, h2⟩
theorem JarOk.ne {mu : Mu} {p q : Addr} {c : Nat} (h : JarOk mu p c) (hq : mu q = none) : p ≠ q := by
  obtain ⟨a, b, n, h1, h2⟩ := h.ex
  intro z
  rw [z, hq] at h1
  cases h1
theorem JarOk.set {mu : Mu} {p q : Addr} {c : Nat} {x : C} (h : JarOk mu p c) (hq : p ≠ q) : JarOk (setM mu q x) p c := by
  obtain ⟨a, b, n, h1, h2⟩ := h.ex
  exact ⟨a, b, n, by rw [setM_ne hq]; exact h1, h2⟩
theorem log2_lt {n m : Nat} (h : n < 2 ^ m) (hm : 1 ≤ m) : n.log2 < m := by
  by_cases z : n = 0
  · subst z; simp; omega
  · exact (Nat.log2_lt z).mpr h
theorem cmulW {i j : Int} (a b : Nat) (hi : i.natAbs < 2 ^ a) (hj : j.natAbs < 2 ^ b) (ha : 1 ≤ a) (hb : 1 ≤ b) (h : a + b < 1000000) : CMulW i j := by
  have h1 := log2_lt hi ha
  have h2 := log2_lt hj hb
  unfold CMulW
  omega
theorem cdivW {i j : Int} (b : Nat) (h0 : 0 < j) (hj : j.natAbs < 2 ^ b) (hb : 1 ≤ b) (h : b < 9000) : CDivW i j := ⟨h0, by have := log2_lt hj hb; omega⟩
theorem ExtBut.setNew {y q : Addr} {mu mu' : Mu} {c : C} (e : ExtBut y mu mu') (h : mu' q = none) : ExtBut y mu (setM mu' q c) := fun a d hn ha => by
  have := e a d hn ha
  rw [setM_ne (fun z => by rw [z, h] at this; cases this)]
  exact this
theorem ExtBut.trans {y : Addr} {mu mu' mu2 : Mu} (e : ExtBut y mu mu') (e2 : ExtBut y mu' mu2) : ExtBut y mu mu2 := fun a c h ha => e2 a c h (e a c h ha)
theorem Ext.but {y : Addr} {mu mu' : Mu} (e : Ext mu mu') : ExtBut y mu mu' := fun a c _ ha => e a c ha
section
variable {P : Program} {w : World} {K : PySem.W.Frag} {mg : Str → Option Value} {base : Heap}
abbrev s_Ltake : Stmt := top 19
theorem sc_Ltake : FnScope ["_law_jar_here", "_law_many", "_law_digit", "_law_prime", "_law_made"] ["_law_jar_here", "_law_many"] (defScope s_Ltake) := ⟨rfl, rfl, rfl, by decide +kernel, rfl, by decide +kernel, by decide +kernel⟩
def S_take : SpW := fun ws mu P => ∃ p m c, ws = [.m p, .int m] ∧ 1 ≤ m ∧ m ≤ 10 ^ 18 ∧ JarOk mu p c ∧ c < 200000 ∧ ∀ r mu', 0 ≤ r → r < m → JarOk mu' p (c + 1) → ExtBut p mu mu' → P (.int r) mu'
theorem primes (n : Int) (h : 0 ≤ n) : ∃ q : Int, atI [W.int 2147483647, .int 2147483629, .int 2147483587, .int 2147483579, .int 2147483563] (n % 5) = some (.int q) ∧ 0 < q ∧ q < 2147483648 := by
  have h1 : n % 5 = 0 ∨ n % 5 = 1 ∨ n % 5 = 2 ∨ n % 5 = 3 ∨ n % 5 = 4 := by omega
  rcases h1 with h1 | h1 | h1 | h1 | h1 <;> rw [h1] <;> exact ⟨_, rfl, by decide, by decide⟩
theorem d_Ltake (D : Dfn K mg "_law_take" s_Ltake ["_law_jar_here", "_law_many"]) (B : Bl mg) : DefOk P w K mg base "_law_take" ["_law_jar_here", "_law_many"] 1 S_take := by
  refine dfnOk D sc_Ltake (fun ws mu P ⟨p, m, c, e, _⟩ => by rw [e]; rfl) (fun f cdv A outer s H E hr ws mu Pt ⟨p, m, c, e, m1, m2, jar, c1, h⟩ => ?_)
  subst e
  obtain ⟨a, b, n, hp, a0, a1, b0, b1, n0, n1⟩ := jar.ex
  refine sss_cons ?_
  refine ss_if ?_
  refine st_cmp op_gt cmpI_w (nomark _) ?_  -- _law_jar_here[0] > 0
  refine se_ix ?_  -- _law_jar_here[0]
  refine se_var (i := 0) rfl ?_  -- _law_jar_here
  refine se_int ?_  -- 0
  refine ⟨_, _, hp, atI_nat' (i := 0) rfl, ?_⟩
  refine se_int ?_  -- 0
  by_cases ha : 0 < a
  · show if2 (decide (0 < a)) _ _
    rw [decide_eq_true ha]
    refine sss_cons ?_
    refine ss_asg ?_
    refine se_bin op_Mod Mod_w ?_
    refine se_intC ?_ B.int
    refine se_ix ?_  -- _law_jar_here[0]
    refine se_var (i := 0) rfl ?_  -- _law_jar_here
    refine se_int ?_  -- 0
    refine ⟨_, _, hp, atI_nat' (i := 0) rfl, ?_⟩
    refine se_var (i := 1) rfl ?_  -- _law_many
    refine ⟨by omega, ?_⟩
    refine sg_name (i := 2) ?_ sc_Ltake.nd  -- _law_digit =
    refine sss_cons ?_
    refine ss_stL ?_ -- or ss_dput (hu_of hr)
    refine se_bin op_FloorDiv FloorDiv_w ?_
    refine se_ix ?_  -- _law_jar_here[0]
    refine se_var (i := 0) rfl ?_  -- _law_jar_here
    refine se_int ?_  -- 0
    refine ⟨_, _, hp, atI_nat' (i := 0) rfl, ?_⟩
    refine se_var (i := 1) rfl ?_  -- _law_many
    refine ⟨cdivW 60 (by omega) (by omega) (by decide) (by decide), ?_⟩
    refine se_var (i := 0) rfl ?_  -- _law_jar_here
    refine se_int ?_  -- 0
    refine ⟨_, 0, hp, rfl, ?_⟩
    refine sss_cons ?_
    refine ss_ret ?_
    refine se_var (i := 2) rfl ?_  -- _law_digit
    refine h _ _ (Int.emod_nonneg _ (by omega)) (Int.emod_lt_of_pos _ (by omega)) ⟨a / m, b, n, setM_same, Int.ediv_nonneg a0 (by omega), ?_, b0, b1, n0, by omega⟩ ExtBut.refl.set
    exact Int.lt_of_le_of_lt (Int.ediv_le_self _ a0) a1
  · show if2 (decide (0 < a)) _ _
    rw [decide_eq_false ha]
    refine sss_nil ?_
    refine sss_cons ?_
    refine ss_stL ?_ -- or ss_dput (hu_of hr)
    refine se_bin op_Add Add_w ?_
    refine se_ix ?_  -- _law_jar_here[2]
    refine se_var (i := 0) rfl ?_  -- _law_jar_here
    refine se_int ?_  -- 2
    refine ⟨_, _, hp, atI_nat' (i := 2) rfl, ?_⟩
    refine se_int ?_  -- 1
    refine se_var (i := 0) rfl ?_  -- _law_jar_here
    refine se_int ?_  -- 2
    refine ⟨_, 2, hp, rfl, ?_⟩
    have hn : ∃ n', n' = n + 1 := ⟨_, rfl⟩
    obtain ⟨n', hn⟩ := hn
    rw [← hn]
    have n0' : 0 ≤ n' := by omega
    have n1' : n' ≤ 200000 := by omega
    obtain ⟨q, hq, q0, q1⟩ := primes n' n0'
    refine sss_cons ?_
    refine ss_asg ?_
    refine se_ix ?_
    refine se_lst ?_
    refine sa_cons (se_int (sa_cons (se_int (sa_cons (se_int (sa_cons (se_int (sa_cons (se_int (sa_nil ?_))))))))))
    refine ⟨by decide, fun p1 np => ?_⟩
    have hne : p ≠ p1 := fun z => by rw [← z, setM_same] at np; cases np
    have hp2 : setM (setM mu p (.lst [.int a, .int b, .int n'])) p1 (.lst [.int 2147483647, .int 2147483629, .int 2147483587, .int 2147483579, .int 2147483563]) p = some (.lst [.int a, .int b, .int n']) := by rw [setM_ne hne, setM_same]
    refine se_bin op_Mod Mod_w ?_
    refine se_intC ?_ B.int
    refine se_ix ?_  -- _law_jar_here[2]
    refine se_var (i := 0) rfl ?_  -- _law_jar_here
    refine se_int ?_  -- 2
    refine ⟨_, _, hp2, atI_nat' (i := 2) rfl, ?_⟩
    refine se_int ?_  -- 5
    refine ⟨by decide, ?_⟩
    refine ⟨_, _, setM_same, hq, ?_⟩
    refine sg_name (i := 3) ?_ sc_Ltake.nd  -- _law_prime =
    refine sss_cons ?_
    refine ss_asg ?_
    refine se_bin op_Mod Mod_w ?_
    refine se_intC ?_ B.int
    refine se_bin op_Pow Pow_w ?_
    refine se_bin op_Add Add_w ?_
    refine se_bin op_Add Add_w ?_
    refine se_ix ?_  -- _law_jar_here[1]
    refine se_var (i := 0) rfl ?_  -- _law_jar_here
    refine se_int ?_  -- 1
    refine ⟨_, _, hp2, atI_nat' (i := 1) rfl, ?_⟩
    refine se_bin op_Mult Mult_w ?_
    refine se_bin op_Mult Mult_w ?_
    refine se_int ?_  -- 99877
    refine se_ix ?_  -- _law_jar_here[2]
    refine se_var (i := 0) rfl ?_  -- _law_jar_here
    refine se_int ?_  -- 2
    refine ⟨_, _, hp2, atI_nat' (i := 2) rfl, ?_⟩
    refine ⟨cmulW 17 18 (by omega) (by omega) (by decide) (by decide) (by decide), ?_⟩
    refine se_ix ?_  -- _law_jar_here[2]
    refine se_var (i := 0) rfl ?_  -- _law_jar_here
    refine se_int ?_  -- 2
    refine ⟨_, _, hp2, atI_nat' (i := 2) rfl, ?_⟩
    refine ⟨cmulW 35 18 (by omega) (by omega) (by decide) (by decide) (by decide), ?_⟩
    have sq : 99877 * n' * n' ≤ 19975400000 * 200000 := Int.mul_le_mul (by omega) (by omega) (by omega) (by omega)
    have sq0 : 0 ≤ 99877 * n' * n' := Int.mul_nonneg (by omega) (by omega)
    have hx : ∃ x, x = 99877 * n' * n' := ⟨_, rfl⟩
    obtain ⟨x, hx⟩ := hx
    rw [← hx] at sq sq0 ⊢
    refine se_int ?_  -- 71
    refine se_int ?_  -- 3
    refine ⟨⟨by decide, by decide, by omega⟩, ?_⟩
    refine se_var (i := 3) rfl ?_  -- _law_prime
    refine ⟨q0, ?_⟩
    have hy : ∃ y, y = (b + x + 71) ^ (3 : Int).toNat % q := ⟨_, rfl⟩
    obtain ⟨y, hy⟩ := hy
    have y0 : 0 ≤ y := by rw [hy]; exact Int.emod_nonneg _ (by omega)
    have y1 : y < q := by rw [hy]; exact Int.emod_lt_of_pos _ q0
    rw [← hy]
    refine sg_name (i := 4) ?_ sc_Ltake.nd  -- _law_made_here =
    refine sss_cons ?_
    refine ss_asg ?_
    refine se_bin op_Mod Mod_w ?_
    refine se_intC ?_ B.int
    refine se_bin op_Mult Mult_w ?_
    refine se_var (i := 4) rfl ?_  -- _law_made_here
    refine se_bin op_Add Add_w ?_
    refine se_bin op_Mod Mod_w ?_
    refine se_intC ?_ B.int
    refine se_var (i := 4) rfl ?_  -- _law_made_here
    refine se_int ?_  -- 10007
    refine ⟨by decide, ?_⟩
    refine se_bin op_Mult Mult_w ?_
    refine se_int ?_  -- 89
    refine se_ix ?_  -- _law_jar_here[2]
    refine se_var (i := 0) rfl ?_  -- _law_jar_here
    refine se_int ?_  -- 2
    refine ⟨_, _, hp2, atI_nat' (i := 2) rfl, ?_⟩
    refine ⟨cmulW 7 18 (by omega) (by omega) (by decide) (by decide) (by decide), ?_⟩
    refine ⟨cmulW 31 25 (by omega) (by omega) (by decide) (by decide) (by decide), ?_⟩
    refine se_int ?_  -- 2305843009213693907
    refine ⟨by decide, ?_⟩
    refine sg_name (i := 4) ?_ sc_Ltake.nd  -- _law_made_here =
    refine sss_cons ?_
    refine ss_ret ?_
    refine se_bin op_Mod Mod_w ?_
    refine se_intC ?_ B.int
    refine se_bin op_FloorDiv FloorDiv_w ?_
    refine se_var (i := 4) rfl ?_  -- _law_made_here
    refine se_int ?_  -- 83
    refine ⟨cdivW 7 (by decide) (by decide) (by decide) (by decide), ?_⟩
    refine se_var (i := 1) rfl ?_  -- _law_many
    refine ⟨by omega, ?_⟩
    exact h _ _ (Int.emod_nonneg _ (by omega)) (Int.emod_lt_of_pos _ (by omega)) ⟨a, b, n', hp2, a0, a1, b0, b1, n0', by omega⟩ (ExtBut.refl.set.setNew np)
end
end K1
set_option Elab.async false
set_option linter.all false
set_option maxRecDepth 100000
namespace K1
open PySem L2 Dv
section
variable {P : Program} {w : World} {K : PySem.W.Frag} {mg : Str → Option Value} {base : Heap}
theorem atI_lt {α : Type} {xs : List α} {r : Int} (h0 : 0 ≤ r) (h1 : r < xs.length) : ∃ x ∈ xs, atI xs r = some x := by
  obtain ⟨n, rfl⟩ : ∃ n : Nat, r = n := ⟨r.toNat, by omega⟩
  have hr : n < xs.length := by omega
  exact ⟨xs[n], List.getElem_mem hr, atI_nat' (List.getElem?_eq_getElem hr)⟩
/-- what _law_of may choose from -/
def OfV (mu : Mu) (p : Addr) (v : W) (us : List W) : Prop := v = .tup us ∨ (∃ a, v = .m a ∧ a ≠ p ∧ mu a = some (.lst us)) ∨ ∃ z : Str, v = .str z ∧ z.length ≤ sizeLine ∧ us = z.cps.toList.map fun c => .str ⟨#[c]⟩
abbrev s_Lof : Stmt := top 20
theorem sc_Lof : FnScope ["_law_jar_here", "_law_some"] ["_law_jar_here", "_law_some"] (defScope s_Lof) := ⟨rfl, rfl, rfl, by decide +kernel, rfl, by decide +kernel, by decide +kernel⟩
def S_of : SpW := fun ws mu P => ∃ p v us c, ws = [.m p, v] ∧ OfV mu p v us ∧ us ≠ [] ∧ us.length ≤ 1000 ∧ JarOk mu p c ∧ c < 200000 ∧ ∀ u mu', u ∈ us → JarOk mu' p (c + 1) → ExtBut p mu mu' → P u mu'
abbrev DTake (P : Program) (w : World) (K : PySem.W.Frag) (mg : Str → Option Value) (base : Heap) : Prop := DefOk P w K mg base "_law_take" ["_law_jar_here", "_law_many"] 1 S_take
abbrev DOf (P : Program) (w : World) (K : PySem.W.Frag) (mg : Str → Option Value) (base : Heap) : Prop := DefOk P w K mg base "_law_of" ["_law_jar_here", "_law_some"] 2 S_of
theorem d_Lof (D : Dfn K mg "_law_of" s_Lof ["_law_jar_here", "_law_some"]) (B : Bl mg) (D_take : DTake P w K mg base) : DOf P w K mg base := by
  refine dfnOk D sc_Lof (fun ws mu P ⟨p, v, us, c, e, _⟩ => by rw [e]; rfl) (fun f cdv A outer s H E hr ws mu Pt ⟨p, v, us, c, e, hv, ne, l1, jar, c1, h⟩ => ?_)
  subst e
  have pos : 1 ≤ us.length := by cases us with | nil => exact absurd rfl ne | cons a r => simp
  refine sss_cons ?_
  refine ss_ret ?_
  refine se_ix ?_
  refine se_var (i := 1) rfl ?_  -- _law_some
  refine se_callD D_take (hr.mono (by decide)) ?_
  refine sa_cons ?_
  refine se_var (i := 0) rfl ?_  -- _law_jar_here
  refine sa_cons ?_
  refine se_len ?_ B.len
  refine se_var (i := 1) rfl ?_  -- _law_some
  rcases hv with rfl | ⟨a, rfl, hne, ha⟩ | ⟨z, rfl, hz, rfl⟩
  · refine sa_nil ?_
    refine ⟨p, _, c, rfl, by omega, by omega, jar, c1, fun r mu' r0 r1 j' e' => ?_⟩
    obtain ⟨x, hx, q⟩ := atI_lt r0 r1
    exact ⟨x, q, h _ _ hx j' e'⟩
  · refine ⟨us, ha, ?_⟩
    refine sa_nil ?_
    refine ⟨p, _, c, rfl, by omega, by omega, jar, c1, fun r mu' r0 r1 j' e' => ?_⟩
    obtain ⟨x, hx, q⟩ := atI_lt r0 r1
    exact ⟨us, x, e' _ _ hne ha, q, h _ _ hx j' e'⟩
  · rw [List.length_map] at pos l1
    refine ⟨hz, ?_⟩
    refine sa_nil ?_
    have el : (z.length : Int) = z.cps.toList.length := by rw [Array.length_toList]; rfl
    refine ⟨p, _, c, rfl, by omega, by omega, jar, c1, fun r mu' r0 r1 j' e' => ?_⟩
    obtain ⟨x, hx, q⟩ := atI_lt r0 (el ▸ r1)
    exact ⟨x, hz, q, h _ _ (List.mem_map.mpr ⟨x, hx, rfl⟩) j' e'⟩
end
end K1
set_option Elab.async false
set_option linter.all false
set_option maxRecDepth 100000
/-! enumerate by values: over a list, over a tuple. -/
namespace PySem
open Sem (wp)
def enumO (n : Addr) : Obj := { cls := .type "enumerate", data := .fields #[.none, .bool false, .ref n, rawInt 0, .none, .none] }
set_option maxHeartbeats 1100000 in
theorem enum1_meets {v : Value} {o : Obj} {Hh : Heap → Prop} (B : Begins v o Hh) : Meets (Builtin.«enumerate.__new__» ⟨[.type "enumerate", v], []⟩) fun _ R s => Hh s.heap ∧ R (.ok (.ret (.ref (s.heap.push o).objs.size))) { s with heap := (s.heap.push o).push (enumO s.heap.objs.size) } :=
  .of_wp fun pr ww A R sh hyp => by
    obtain ⟨hp, gl, dd, tk, os⟩ := sh
    obtain ⟨hy1, hy2⟩ := hyp
    have subE := sub_enumerate
    have itr : ∀ {A2 : Around} {E2 Q2 : Value → Shared → Prop}, Q2 (.ref hp.objs.size) ⟨hp.push o, gl, dd, tk, os⟩ → wpAny (model pr ww) A2 (pyIter v) Q2 E2 ⟨hp, gl, dd, tk, os⟩ := fun q => B.iter pr ww _ _ ⟨hp, gl, dd, tk, os⟩ _ hy1 q
    wp_walk using itr
    refine wpAny_stack_any fun stk => wpAny_pure ?_
    split
    · rename_i cc _ _ _ _ _
      cases (cc == Value.type "enumerate") <;> (wp_walk using itr) <;> exact ⟨_, rfl, hy2⟩
    · wp_walk using itr
      exact ⟨_, rfl, hy2⟩
theorem enum1_begins {prog : Program} {w : World} {A : Around} {E Q : Value → Shared → Prop} {s : Shared} {v : Value} {o : Obj} {Hh : Heap → Prop} (B : Begins v o Hh) (hs : Hh s.heap)
    (k : ∀ h', IsEnum h' (s.heap.objs.size + 1) s.heap.objs.size 0 .none → h'.get? s.heap.objs.size = some o → (∀ b ob, s.heap.get? b = some ob → h'.get? b = some ob) → Q (.ref (s.heap.objs.size + 1)) { s with heap := h' }) : wpAny (model prog w) A (call (.type "enumerate") [v]) Q E s := by
  refine callType_new F.called_enumerate (by decide) (F.typeCall_enumerate_1 _) (F.newCall_enumerate_1 _) (fun obj => F.args_object_init_2 obj _) F.entry_enumerate_new (enum1_meets B) ⟨hs, ?_⟩
  have sz : (s.heap.push o).objs.size = s.heap.objs.size + 1 := Heap.size_push ..
  have he : IsEnum ((s.heap.push o).push (enumO s.heap.objs.size)) (s.heap.objs.size + 1) s.heap.objs.size 0 .none := by
    have q := Heap.get?_push_size (s.heap.push o) (o := enumO s.heap.objs.size) rfl
    rw [sz] at q
    exact q
  show _ ∧ _
  rw [sz]
  exact ⟨⟨_, he, rfl⟩, k _ he (Heap.get?_push_of_some _ (Heap.get?_push_size _ B.free)) fun b ob x => Heap.get?_push_of_some _ (Heap.get?_push_of_some _ x)⟩
end PySem
namespace L2
open PySem
/-- the tuple at a, each item in a new pair behind its number -/
def IteT (K : PySem.W.Frag) (a : Addr) : It where
  go := fun i H => ∃ (xs : List V) (x : V), SqT K H a xs ∧ xs[i]? = some x
  yld := fun i H v H' => ∃ T x, v = .ref T ∧ H T = none ∧ H' = upd H T (.tup [.int (i : Nat), x]) ∧ ∀ xs, SqT K H a xs → xs[i]? = some x
  stop := fun i H => ∃ xs : List V, SqT K H a xs ∧ xs.length ≤ i
theorem turn_enumT {P : Program} {w : World} {K : PySem.W.Frag} {elts : List Expr} {kk : Nat} {tpos : Pos} (a e it : Addr) : Turn P w K (.Tuple elts kk tpos) (IteT K a) [e, it] e (fun i h => (∃ old, IsEnum h e it ((i : Nat) : Int) old) ∧ h.IsTupleIter it a i ∧ e ≠ it) where
  mem := by simp
  obj := fun i h ⟨⟨old, he⟩, ⟨o, ho, hc, hd⟩, _⟩ b hb => by
    rcases (by simpa using hb : b = e ∨ b = it) with rfl | rfl
    · exact ⟨_, he, fun v q => by cases q⟩
    · exact ⟨o, ho, fun v q => by rw [hd] at q; cases q⟩
  keep := fun i h h' ⟨⟨old, he⟩, hi, hne⟩ k => ⟨⟨old, k e (by simp) _ he⟩, hi.at fun o q => k it (by simp) o q, hne⟩
  item := by
    intro X hP hw hK hc i pins s σ H E I hf ⟨⟨old, he⟩, hit, hne⟩ ⟨xs, x, hq, hx⟩
    subst hP hw hK
    (obtain ⟨its, rv, p, hz⟩ := I.tuple hq; obtain ⟨u, hu, ru⟩ := rv.get hx)
    have pt : s.heap.IsTuple a its.toArray := p
    have hel : e < s.heap.objs.size ∧ it < s.heap.objs.size := ⟨Heap.lt_size he, let ⟨_, q, _⟩ := hit; Heap.lt_size q⟩
    obtain ⟨hel, hil⟩ := hel
    have hea : e ≠ a := fun z => by
      obtain ⟨o, ho, hcl, _⟩ := pt
      rw [← z] at ho
      have := Option.some.inj (he.symm.trans ho)
      rw [← this] at hcl
      injection hcl with q
      exact absurd q (by decide)
    have hia : a ≠ it := fun z => by
      obtain ⟨o, ho, hcl, _⟩ := pt
      obtain ⟨o', ho', hcl', _⟩ := hit
      rw [z] at ho
      have := Option.some.inj (ho.symm.trans ho')
      rw [← this, hcl] at hcl'
      injection hcl' with q
      exact absurd q (by decide)
    refine wpAny_pyNext_enum_itemD (Draws.tuple (A := X.A.in1) (show X.A.in1.handled = none from I.ok.hd hc) it a hia its.toArray) he ⟨hit, pt⟩ (by have := (List.getElem?_eq_some_iff.mp hu).1; simpa using this) hne (by simp [hne, hea]) fun y h' tk hy ho st' hT hsz hk => ?_
    have hy : u = y := by
      rw [List.getElem?_toArray, hu] at hy
      exact Option.some.inj hy
    subst hy
    refine ⟨_, rfl, wpAny_letOwnedTupleGo_enum (s := { s with heap := h', toks := tk + 1 }) ho fun h'' he' sb => ?_⟩
    have hT2 : h''.get? s.heap.objs.size = some { cls := .type "tuple", data := .seq #[.int i tk, u] } := (sb.2 _ (Nat.ne_of_gt hel)).trans hT
    have new : ObjOk X.prog X.w (upd H s.heap.objs.size (.tup [.int (i : Nat), x])) h'' s.heap.objs.size (.tup [.int (i : Nat), x]) := ⟨by show 2 ≤ sizeLine; decide, [.int i tk, u], .cons ⟨_, rfl⟩ (.cons ru .nil), ⟨_, hT2, rfl, _, rfl⟩⟩
    have J : Inv X pins σ (upd H s.heap.objs.size (.tup [.int (i : Nat), x])) { s with heap := h'', toks := tk + 1 } := I.turnedNew (ch := [e, it]) (fun b ob hb q => (sb.2 b (fun z => hb (by simp [z]))).trans (hk b ob (fun z => hb (by simp [z])) (fun z => hb (by simp [z])) q)) hf (Nat.le_refl _) new
    refine ⟨.ref s.heap.objs.size, _, J, rfl, ⟨_, x, rfl, I.hok.fresh (Nat.le_refl _), rfl, fun ys hy => by rw [I.tuple_inj hy hq]; exact hx⟩, ⟨⟨u, ?_⟩, st'.1.at fun o q => (sb.2 it (Ne.symm hne)).trans q, hne⟩, fun b hb => ?_⟩
    · rw [show ((i + 1 : Nat) : Int) = (i : Int) + 1 by omega]
      exact he'
    · have hlt : b < s.heap.objs.size := by rcases (by simpa using hb : b = e ∨ b = it) with z | z <;> rw [z] <;> assumption
      exact (upd_ne (Nat.ne_of_lt hlt)).trans (hf b hb).1
  done := by
    intro X hP hw hK hc i pins s σ H E I hf ⟨⟨old, he⟩, hit, hne⟩ ⟨xs, hq, hx⟩
    subst hP hw hK
    (obtain ⟨its, rv, p, hz⟩ := I.tuple hq; have pt : s.heap.IsTuple a its.toArray := p; obtain ⟨f0, f1, f2, f3, f4, f5⟩ := hf it (by simp))
    have no : its.toArray[i]? = none := by
      have := rv.length
      simp
      omega
    have DD : Draws X.prog X.w X.A.in1 it [it, a] 0 (fun _ _ => True) fun _ h => h.IsTupleIter it a i ∧ h.IsTuple a its.toArray :=
      { live := fun _ _ st => let ⟨o, ho, _⟩ := st.1; ⟨o, ho⟩
        frame := fun _ _ _ st hk => ⟨st.1.at fun o q => hk it (by simp) o q, st.2.at fun o q => hk a (by simp) o q⟩
        item := fun j _ _ _ hj => absurd hj (Nat.not_lt_zero j)
        done := fun _ _ _ st hE => wpAny_nextOf_tuple_end (show X.A.in1.handled = none from I.ok.hd hc) st.1 st.2 no hE }
    exact wpAny_pyNext_enum_endD DD he ⟨hit, pt⟩ fun h' eb => ⟨rfl, I.turned (t' := s.toks) (fun b ob hb q => eb b ob hb q) f0 f1 f3 f4 f5⟩
  self := fun _ _ _ _ _ st k => let ⟨⟨_, he⟩, _⟩ := st; wpAny_pyIter_enum he k
end L2
namespace L2
open PySem
def iEnumT (K : PySem.W.Frag) (ta : TA) : TI := fun σ H R => ta σ H fun vs H1 => ∃ a xs, vs = [.ref a] ∧ SqT K H1 a xs ∧ R (IteT K a) H1
theorem pi_enumT {X : Cx} {e : Expr} {ta : TA} {p pos tpos : Pos} {elts : List Expr} {kk : Nat} (hg : Gl X "enumerate") (hm : X.mg "enumerate" = none) (ha : PA X [e] ta) (hs : starEach [e] X.env = [(false, eval e X.env)] := by rfl) : PI X (.Tuple elts kk tpos) (.Call (.Name "enumerate" p) [e] [] pos) (iEnumT X.K ta) :=
  ⟨fun pins s σ H R I h => PyProof.Rows.Call_ (ld_blt I hg hm PyProof.Rows.boot_enumerate (PyProof.Rows.callWith_type1 (thn (ha.run pos pins s σ H _ I h) fun us s1 ⟨vs, H1, I1, r1, q1⟩ => by
    (obtain ⟨a, xs, ex, hq, q⟩ := q1; subst ex)
    obtain _ | ⟨r, rr⟩ := r1
    cases rr
    cases r
    obtain ⟨its, rv, p', hz⟩ := I1.tuple hq
    refine enum1_begins (begins_tuple a its.toArray) p' fun h' he hit hk => wpAny_pyIter_enum he ?_
    refine ⟨s1.heap.objs.size + 1, [s1.heap.objs.size + 1, s1.heap.objs.size], _, _, H1, rfl, I1.kept (t' := s1.toks) hk, turn_enumT a (s1.heap.objs.size + 1) s1.heap.objs.size, ⟨⟨.none, he⟩, ⟨_, hit, rfl, rfl⟩, Nat.succ_ne_self _⟩, fun b hb => ?_, q⟩
    have hle : s1.heap.objs.size ≤ b ∧ True := by
      refine ⟨?_, trivial⟩
      rcases (by simpa using hb : b = s1.heap.objs.size + 1 ∨ b = s1.heap.objs.size) with z | z <;> rw [z]
      · exact Nat.le_add_right _ _
      · exact Nat.le_refl _
    exact I1.fpOk hle.1 (I1.hok.fresh hle.1)) hs rfl))⟩
end L2
namespace Dv
open PySem L2
def enumW (ws : List W) : List W := ws.mapIdx fun i w => W.tup [.int (i : Nat), w]
theorem enumW_len (ws : List W) : (enumW ws).length = ws.length := by unfold enumW; simp
theorem enumW_get (ws : List W) (i : Nat) : (enumW ws)[i]? = (ws[i]?).map fun w => W.tup [.int (i : Nat), w] := by unfold enumW; simp
section
variable {X : Cx} {e a b c : Expr} {es : List Expr} {G : Gs} {mu mu' : Mu} {pos p : Pos} {P : PW1} {K : PySem.W.Frag} {H : Hp}
theorem itw_enumT {q : Addr} {xs : List V} {ws : List W} (m : HM K H mu) (s : SqT K H q xs) (d : DenAll K H ws xs) : ItW K (IteT K q) (enumW ws) (fun _ => True) mu H := by
  refine ⟨fun H' => SqT K H' q xs, fun i H1 v H2 => ∃ T x, v = .ref T ∧ H1 T = none ∧ H2 = upd H1 T (.tup [.int (i : Nat), x]) ∧ xs[i]? = some x, ⟨fun i H' hi h' => ?_, fun H' h' => ⟨xs, h', ?_⟩, fun i H' x H'' hi h' ⟨T, y, h1, h2, h3, h4⟩ => ⟨T, y, h1, h2, h3, h4 _ h'⟩⟩, fun mu' H' c m' _ => c.sqt m q xs s, fun i H1 v H2 mu' hi c m' _ ⟨T, x, hv, hT, hH, hx⟩ => ?_⟩
  · rw [enumW_len, d.length] at hi
    exact ⟨xs, xs[i], h', by simp [hi]⟩
  · rw [enumW_len, d.length]
    exact Nat.le_refl _
  · subst hv hH
    obtain ⟨w, h1, h2⟩ := (c.denAll m d).get hx
    obtain ⟨c2, m2⟩ := laid (o := .tup [.int (i : Nat), x]) m' hT
    exact ⟨.tup [.int (i : Nat), w], by rw [enumW_get, h1]; rfl, c2, m2, T, _, rfl, SqT.of upd_same, .int (i : Nat), [x], rfl, rfl, x, [], rfl, c2.den m' h2, rfl⟩
theorem itw_enumL {q : Addr} {ws : List W} (m : HM K H mu) (h : mu q = some (.lst ws)) : ItW K (Ite K q) (enumW ws) (fun mu' => mu' q = some (.lst ws)) mu H := by
  refine ⟨fun H' => ∃ ys, SqL K H' q ys ∧ DenAll K H' ws ys, fun i H1 v H2 => ∃ T x ys, v = .ref T ∧ H1 T = none ∧ H2 = upd H1 T (.tup [.int (i : Nat), x]) ∧ DenAll K H1 ws ys ∧ ys[i]? = some x, ⟨fun i H' hi ⟨ys, s, d'⟩ => ?_, fun H' ⟨ys, s, d'⟩ => ⟨ys, s, ?_⟩, fun i H' x H'' hi ⟨ys, s, d'⟩ ⟨T, y, h1, h2, h3, h4⟩ => ⟨T, y, ys, h1, h2, h3, d', h4 _ s⟩⟩, fun mu' H' c m' g => ?_, fun i H1 v H2 mu' hi c m' _ ⟨T, x, ys, hv, hT, hH, d', hx⟩ => ?_⟩
  · rw [enumW_len, d'.length] at hi
    exact ⟨ys, ys[i], s, by simp [hi]⟩
  · rw [enumW_len, d'.length]
    exact Nat.le_refl _
  · obtain ⟨ys, h1, h2⟩ := m' q _ g
    exact ⟨ys, SqL.of h1, h2⟩
  · subst hv hH
    obtain ⟨w, h1, h2⟩ := d'.get hx
    obtain ⟨c2, m2⟩ := laid (o := .tup [.int (i : Nat), x]) m' hT
    exact ⟨.tup [.int (i : Nat), w], by rw [enumW_get, h1]; rfl, c2, m2, T, _, rfl, SqT.of upd_same, .int (i : Nat), [x], rfl, rfl, x, [], rfl, c2.den m' h2, rfl⟩
theorem si_enumT {elts : List Expr} {kk : Nat} {tpos : Pos} {Post : List W → (Mu → Prop) → Mu → Prop} (h : SE X e G mu fun w mu1 => match w with | .tup ws => Post (enumW ws) (fun _ => True) mu1 | _ => False) (hm : X.mg "enumerate" = none) (hg : Gl X "enumerate" := by rfl) (hs : starEach [e] X.env = [(false, eval e X.env)] := by rfl) : SI X (.Tuple elts kk tpos) (.Call (.Name "enumerate" p) [e] [] pos) G mu Post :=
  SI.mk (pi_enumT hg hm (pa_cons peE pa_nil hs) hs) fun σ H R d m k => h σ H _ d m fun v w mu1 H1 h1 c1 d1 m1 => by
    cases w with
    | tup ws =>
      obtain ⟨q, xs, rfl, s, d2⟩ := d1
      exact ⟨q, xs, rfl, s, k _ _ _ _ _ h1 c1 m1 (itw_enumT m1 s d2)⟩
    | _ => exact h1.elim
theorem si_enumL {elts : List Expr} {kk : Nat} {tpos : Pos} {Post : List W → (Mu → Prop) → Mu → Prop} (h : SE X e G mu fun w mu1 => match w with | .m q => ∃ ws, mu1 q = some (.lst ws) ∧ Post (enumW ws) (fun mu' => mu' q = some (.lst ws)) mu1 | _ => False) (hm : X.mg "enumerate" = none) (hg : Gl X "enumerate" := by rfl) (hs : starEach [e] X.env = [(false, eval e X.env)] := by rfl) : SI X (.Tuple elts kk tpos) (.Call (.Name "enumerate" p) [e] [] pos) G mu Post :=
  SI.mk (pi_enum hg hm (pa_cons peE pa_nil hs) hs) fun σ H R d m k => h σ H _ d m fun v w mu1 H1 h1 c1 d1 m1 => by
    cases w with
    | m q =>
      obtain ⟨ws, h2, h3⟩ := h1
      obtain ⟨xs, hx, d2⟩ := m1 q _ h2
      have d1 : v = .ref q := d1
      subst d1
      exact ⟨q, xs, rfl, SqL.of hx, k _ _ _ _ _ h3 c1 m1 (itw_enumL m1 h2)⟩
    | _ => exact h1.elim
end
end Dv
set_option Elab.async false
set_option linter.all false
set_option maxRecDepth 100000
/-! Tuples put together, by values. -/
namespace Dv
open PySem L2
section
variable {X : Cx} {e a b c : Expr} {es : List Expr} {G : Gs} {mu mu' : Mu} {pos p : Pos} {P : PW1} {K : PySem.W.Frag} {H : Hp}
abbrev catTV (w1 w2 : W) (mu : Mu) (P : PW1) : Prop := match w1, w2 with | .tup us, .tup zs => us.length + zs.length ≤ sizeLine ∧ P (.tup (us ++ zs)) mu | _, _ => False
theorem catT_w : OpW X (rCatA X.K) catTV := fun w1 w2 x y mu H P Q dx dy m h k => by
  unfold catTV at h
  split at h
  · rename_i us zs
    obtain ⟨a, xs, rfl, s1, d1⟩ := dx
    obtain ⟨b, ys, rfl, s2, d2⟩ := dy
    have d12 := DenAll.append d1 d2
    refine ⟨a, b, xs, ys, rfl, rfl, s1, s2, by rw [← d1.length, ← d2.length]; exact h.1, fun z => ?_, fun _ z => ?_, fun _ _ q hq => ?_⟩
    · refine k.now h.2 ⟨b, ys, rfl, s2, ?_⟩ m
      rw [z] at d12
      exact d12
    · refine k.now h.2 ⟨a, xs, rfl, s1, ?_⟩ m
      rw [z, List.append_nil] at d12
      exact d12
    · obtain ⟨c2, m2⟩ := laid (o := .tup (xs ++ ys)) m hq
      exact k _ _ _ _ h.2 c2 ⟨q, _, rfl, SqT.of upd_same, c2.denAll m d12⟩ m2
  · exact h.elim
end
end Dv
set_option Elab.async false
set_option linter.all false
set_option maxRecDepth 100000
/-! dict(list(d.items())) by values. -/
namespace Dv
open PySem L2
section
variable {X : Cx} {e a b c : Expr} {es : List Expr} {G : Gs} {mu mu' : Mu} {pos p apos cpos : Pos} {P : PW1} {K : PySem.W.Frag} {H H' : Hp}
theorem sqt_grown (g : ∀ b o, H b = some o → H' b = some o) {a : Addr} {xs : List V} (s : SqT K H a xs) : SqT K H' a xs := by
  rcases s with (s | ⟨o, s⟩) | s
  · exact .inl (.inl (g _ _ s))
  · exact .inl (.inr ⟨o, g _ _ s⟩)
  · exact .inr s
theorem grown (m : HM K H mu) (g : ∀ b o, H b = some o → H' b = some o) : Chg mu H mu H' ∧ HM K H' mu := by
  refine ⟨⟨fun b o h _ => g b o h, fun b c h => ⟨c, h⟩, fun _ _ _ h => h⟩, fun a c h => ?_⟩
  obtain ⟨o, q⟩ := m.some h
  exact CellOk.mono ⟨fun a xs s => sqt_grown g s, fun a o u h => g _ _ h⟩ (m a c h) ((g _ _ q).trans q.symm)
def prsW (kvs : List (Key × W)) : List W := kvs.map fun q => .tup [kW q.1, q.2]
theorem den_prs : ∀ {ts : List Addr} {vs : List (Key × V)} {kvs : List (Key × W)}, Paired (fun (t : Addr) (q : Key × V) => H t = some (.tup [kV q.1, q.2])) ts vs → DKV K H kvs vs → DenAll K H (prsW kvs) (ts.map V.ref)
  | [], [], kvs, _, d => by
    have := congrArg List.length d.1
    cases kvs with
    | nil => exact rfl
    | cons x y => simp at this
  | t :: ts, q :: vs, kvs, .cons h r, d => by
    obtain ⟨k, v⟩ := q
    cases kvs with
    | nil => have := congrArg List.length d.1; simp at this
    | cons x y =>
      obtain ⟨j, w⟩ := x
      obtain ⟨v', vs', e, d1, d2⟩ := d.cons
      cases e
      exact ⟨.ref t, ts.map V.ref, rfl, ⟨t, [kV k, v], rfl, SqT.of h, kV k, [v], rfl, kV_den, v, [], rfl, d1, rfl⟩, den_prs r d2⟩
theorem se_listItems (h : SE X e G mu fun w mu1 => ∃ d kvs, w = .m d ∧ mu1 d = some (.dic kvs) ∧ ∀ l, mu1 l = none → P (.m l) (setM mu1 l (.lst (prsW kvs)))) (hc : X.calm = true) (hm : X.mg "list" = none) (hg : Gl X "list" := by rfl) (hv : bootBuiltins "list" = some (.type "list") := by decide +kernel)
    (hbase : attributeBase e "items" X.env (eval e X.env) = eval e X.env := by rfl) (hline : (apos.endLine == cpos.line) = true := by rfl)
    (hs : starEach [.Call (.Attribute e "items" apos) [] [] cpos] X.env = (false, eval (.Call (.Attribute e "items" apos) [] [] cpos) X.env) :: starEach [] X.env := by rfl) :
    SE X (.Call (.Name "list" p) [.Call (.Attribute e "items" apos) [] [] cpos] [] pos) G mu P :=
  SE.mk (LiI.pe_listItems hc peE hg hm hv hbase hline hs) fun σ H Q d m k => h σ H _ d m fun v w mu1 H1 h1 c1 d1 m1 => by
    obtain ⟨dd, kvs, rfl, hk, q⟩ := h1
    have d1 : v = .ref dd := d1
    subst d1
    obtain ⟨vs, hx, dk⟩ := m1 dd _ hk
    have dk : DKV X.K H1 kvs vs := dk
    refine ⟨dd, vs, rfl, hx, fun H' l ts g hl ht hlt hl' pr => ?_⟩
    obtain ⟨c2, m2⟩ := grown (K := X.K) m1 g
    have nl := m1.dom hl
    have dk2 : DKV X.K H' kvs vs := ⟨dk.1, DenAll.mono ⟨fun a xs s => sqt_grown g s, fun a o u h => g _ _ h⟩ _ dk.2⟩
    refine k _ _ _ _ (q l nl) (c1.trans ⟨fun b o hb n => g b o hb, fun b cc hb => ?_, fun b o hb n => ?_⟩) rfl fun a cc ha => ?_
    · by_cases z : b = l
      · subst z; exact ⟨_, setM_same⟩
      · rw [setM_ne z]; exact ⟨cc, hb⟩
    · rw [setM_ne (ne_of_none hb hl)]; exact n
    · by_cases z : a = l
      · subst z
        rw [setM_same] at ha
        cases ha
        exact ⟨_, hl', den_prs pr dk2⟩
      · rw [setM_ne z] at ha
        exact m2 a cc ha
/-- dict of a list of pairs -/
abbrev dcpV (ws : List W) (mu : Mu) (P : PW1) : Prop := match ws with | [.m l] => ∃ kvs, mu l = some (.lst (prsW kvs)) ∧ (kvs.map (·.1)).Nodup ∧ ∀ p, mu p = none → P (.m p) (setM mu p (.dic kvs)) | _ => False
theorem den_back : ∀ {kvs : List (Key × W)} {xs : List V}, DenAll K H (prsW kvs) xs → ∃ (ps : List Addr) (vs : List (Key × V)), xs = ps.map V.ref ∧ Paired (fun p (kv : Key × V) => SqT K H p [kV kv.1, kv.2]) ps vs ∧ DKV K H kvs vs
  | [], xs, d => ⟨[], [], d, .nil, rfl, rfl⟩
  | (j, w) :: r, xs, d => by
    obtain ⟨v, vs, rfl, ⟨t, ys, rfl, s, ya, yr, rfl, da, yb, yr2, rfl, db, hn⟩, dr⟩ := d
    obtain ⟨ps, vs', rfl, pr, dk⟩ := den_back dr
    cases hn
    have := kW_den da
    subst this
    exact ⟨t :: ps, (j, yb) :: vs', rfl, .cons s pr, DKV.mk db dk⟩
theorem dcp_w : CallW X (fun xs H Q => ∃ (a : Addr) (ps : List Addr) (kvs : List (Key × V)), xs = [.ref a] ∧ SqL X.K H a (ps.map V.ref) ∧ Paired (fun p kv => SqT X.K H p [kV kv.1, kv.2]) ps kvs ∧ ∀ p, H p = none → Q (.ref p) (upd H p (.dK (mergeK [] kvs)))) dcpV := fun ws vs mu H P Q d m h k => by
  unfold dcpV at h
  split at h
  · rename_i l
    obtain ⟨kvs, hl, hn, q⟩ := h
    obtain ⟨v, rfl, dv⟩ := d.one
    have dv : v = .ref l := dv
    subst dv
    obtain ⟨xs, hx, dx⟩ := m l _ hl
    obtain ⟨ps, vs, rfl, pr, dk⟩ := den_back dx
    refine ⟨l, ps, vs, rfl, SqL.of hx, pr, fun p hp => ?_⟩
    have em : mergeK [] vs = vs := by rw [mergeK_new vs [] (by rw [List.nil_append, ← dk.1]; exact hn)]; rfl
    rw [em]
    obtain ⟨c2, m2⟩ := laidC (o := .dK vs) (c := .dic kvs) m hp (newDic dk)
    exact k _ _ _ _ (q p (m.dom hp)) c2 rfl m2
  · exact h.elim
theorem se_dictC (h : SE X e G mu fun w mu1 => dcpV [w] mu1 P) (hc : X.calm = true) (hm : X.mg "dict" = none) (hv : bootBuiltins ("dict" : Str) = some (.type "dict") := by decide +kernel) (hg : Gl X "dict" := by rfl) (he : starEach [e] X.env = [(false, eval e X.env)] := by rfl) (hpl : (backTo pos (starEach [] X.env)).any (·.1) = false := by rfl) : SE X (.Call (.Name "dict" p) [e] [] pos) G mu P :=
  se_bty (call_dictP hc) dcp_w hm (sa_one h he) hv hg (by decide) (by decide) he hpl
end
end Dv
set_option Elab.async false
set_option linter.all false
set_option maxRecDepth 100000
/-! Texts joined, by values. -/
namespace Dv
open PySem L2
section
variable {X : Cx} {e a b c o : Expr} {es : List Expr} {G : Gs} {mu mu' : Mu} {pos p apos cpos : Pos} {P : PW1} {K : PySem.W.Frag} {H H' : Hp}
theorem se_join (h : SE X o G mu fun w mu1 => ∃ z, w = .str z ∧ SE X e G mu1 fun w2 mu2 => ∃ l, ∃ ys : List Str, w2 = .m l ∧ mu2 l = some (.lst (ys.map W.str)) ∧ (ys.map (·.length)).sum + ys.length * z.length ≤ 16777216 ∧ P (.str (Txt.join z ys)) mu2)
    (hs : starEach [e] X.env = [(false, eval e X.env)] := by rfl) (hbase : attributeBase o "join" X.env (eval o X.env) = eval o X.env := by rfl) (hline : (apos.endLine == pos.line) = true := by rfl) : SE X (.Call (.Attribute o "join" apos) [e] [] pos) G mu P :=
  SE.mk (pe_join peE peE hs hbase hline) fun σ H Q d m k => h σ H _ d m fun x w mu1 H1 ⟨z, e1, h1⟩ c1 d1 m1 => by
    subst e1
    refine ⟨⟨z, d1⟩, h1 σ H1 _ (c1.denG m d) m1 fun y w2 mu2 H2 ⟨l, ys, e2, hl, hz, q⟩ c2 d2 m2 => ?_⟩
    subst e2
    have d2 : y = .ref l := d2
    subst d2
    obtain ⟨xs, hx, dx⟩ := m2 l _ hl
    have := denAll_str dx
    subst this
    exact ⟨z, l, ys, d1, rfl, .inl (SqL.of hx), hz, (k.step (c1.trans c2)).now q rfl m2⟩
end
end Dv
set_option Elab.async false
set_option linter.all false
set_option maxRecDepth 100000
namespace K1
open PySem L2 Dv
/-- signs that names may have -/
def Low (z : Str) : Prop := ∀ c ∈ z.cps.toList, 97 ≤ c ∧ c ≤ 122
theorem joinL_nil : ∀ ys : List (List Nat), TL.joinL [] ys = ys.flatten
  | [] => rfl
  | [p] => by simp [TL.joinL]
  | p :: q :: r => by
    have := joinL_nil (q :: r)
    simp only [TL.joinL, this, List.nil_append, List.flatten_cons]
theorem join_cps (ys : List Str) : (Txt.join "" ys).cps.toList = (ys.map fun z => z.cps.toList).flatten := by
  rw [TL.join_eq]
  have := TL.tl_join "" ys
  rw [show TL.tl "" = [] from rfl, joinL_nil] at this
  exact this
def nameAt (z : Str) (s f k : Nat) : Str := cutS z none (some (s : Nat)) ++ ⟨#[97 + (f + 3 * k) % 26]⟩ ++ cutS z (some (s : Nat)) none
theorem str_app (x y : Str) : (x ++ y).cps.toList = x.cps.toList ++ y.cps.toList := by
  show (x.cps ++ y.cps).toList = _
  rw [Array.toList_append]
theorem nameAt_cps {z : Str} {s f k : Nat} (h : s ≤ z.length) : (nameAt z s f k).cps.toList = z.cps.toList.take s ++ (97 + (f + 3 * k) % 26) :: z.cps.toList.drop s := by
  have hl : z.cps.toList.length = z.length := by rw [Array.length_toList]; rfl
  have n0 : ¬ (s : Int) < 0 := by omega
  unfold nameAt
  rw [str_app, str_app]
  have e1 : (cutS z none (some (s : Nat))).cps.toList = z.cps.toList.take s := by
    unfold cutS
    simp [HT.sIx, Nat.min_eq_left h, n0]
  have e2 : (cutS z (some (s : Nat)) none).cps.toList = z.cps.toList.drop s := by
    unfold cutS
    simp [HT.sIx, Nat.min_eq_left h, n0]
    exact List.take_of_length_le (by rw [List.length_drop, hl]; exact Nat.le_refl _)
  rw [e1, e2, List.append_assoc]
  rfl
theorem nameAt_ok {z : Str} {s f k : Nat} (h : s ≤ z.length) (hz : z.length ≤ 7) (lo : Low z) : NmOk (nameAt z s f k) := by
  have hl : z.cps.toList.length = z.length := by rw [Array.length_toList]; rfl
  have len : (nameAt z s f k).length = z.length + 1 := by
    have : (nameAt z s f k).length = (nameAt z s f k).cps.toList.length := by rw [Array.length_toList]; rfl
    rw [this, nameAt_cps h, List.length_append, List.length_cons, List.length_take, List.length_drop, hl]
    omega
  refine ⟨by omega, by omega, fun c hc => ?_⟩
  rw [nameAt_cps h] at hc
  rcases List.mem_append.mp hc with q | q
  · exact lo c (List.mem_of_mem_take q)
  · rcases List.mem_cons.mp q with q | q
    · subst q
      omega
    · exact lo c (List.mem_of_mem_drop q)
theorem nameAt_inj {z : Str} {s f k k' : Nat} (h : s ≤ z.length) (hk : k < 26) (hk' : k' < 26) (e : nameAt z s f k = nameAt z s f k') : k = k' := by
  have := congrArg (fun x : Str => x.cps.toList) e
  simp only [nameAt_cps h] at this
  have := List.append_cancel_left this
  have := (List.cons.inj this).1
  omega
section
variable {P : Program} {w : World} {K : PySem.W.Frag} {mg : Str → Option Value} {base : Heap}
abbrev s_Lnames : Stmt := top 21
theorem sc_Lnames : FnScope ["_law_jar_here", "_law_many", "_law_small", "_law_stem", "_law_turn", "_law_spot", "_law_first", "_law_k"] ["_law_jar_here", "_law_many"] (defScope s_Lnames) := ⟨rfl, rfl, rfl, by decide +kernel, rfl, by decide +kernel, by decide +kernel⟩
def S_names : SpW := fun ws mu P => ∃ p m c, ws = [.m p, .int ((m : Nat) : Int)] ∧ m ≤ 26 ∧ JarOk mu p c ∧ c + 20 < 200000 ∧ ∀ y ns mu', mu y = none → mu' y = some (.lst (stW ns)) → ns.length = m → ns.Nodup → (∀ n ∈ ns, NmOk n) → JarOk mu' p (c + 10) → ExtBut p mu mu' → P (.m y) mu'
theorem alpha_at (r : Nat) (h : r < 26) : atI ("abcdefghijklmnopqrstuvwxyz" : Str).cps.toList (r : Int) = some (97 + r) := by
  have hd : ∀ r, r < 26 → ("abcdefghijklmnopqrstuvwxyz" : Str).cps.toList[r]? = some (97 + r) := by decide +kernel
  exact atI_nat' (hd r h)
theorem d_Lnames (D : Dfn K mg "_law_names" s_Lnames ["_law_jar_here", "_law_many"]) (B : Bl mg) (D_take : DTake P w K mg base) (D_of : DOf P w K mg base) : DefOk P w K mg base "_law_names" ["_law_jar_here", "_law_many"] 3 S_names := by
  refine dfnOk D sc_Lnames (fun ws mu P ⟨p, m, c, e, _⟩ => by rw [e]; rfl) (fun f cdv A outer s H E hr ws mu Pt ⟨p, m, c, e, m26, jar, c1, h⟩ => ?_)
  subst e
  refine sss_cons ?_
  refine ss_asg ?_
  refine se_str ?_  -- 'abcdefghijklmnopqrstuvwxyz'
  refine sg_name (i := 2) ?_ sc_Lnames.nd  -- _law_small =
  refine sss_cons ?_
  refine ss_asg ?_
  refine se_join ?_
  refine se_str ?_  -- ''
  refine ⟨"", rfl, ?_⟩
  refine se_lc (own := [("_law_turn", 4)]) (.nm 4) rfl sc_Lnames.nd (blkOk_by (N := ["_law_jar_here", "_law_many", "_law_small", "_law_stem", "_law_turn", "_law_spot", "_law_first", "_law_k"]) (sc := defScope s_Lnames) (by decide +kernel)) rfl (fun _ _ _ _ _ => (pg_name (i := 4) sc_Lnames.nd rfl (Or.inl rfl))) (by intro _; rfl) ?_
  refine si_range ?_ B.range
  refine se_callD D_of (hr.mono (by decide)) ?_
  refine sa_cons ?_
  refine se_var (i := 0) rfl ?_  -- _law_jar_here
  refine sa_cons ?_
  refine se_lst ?_
  refine sa_cons (se_int (sa_cons (se_int (sa_cons (se_int (sa_cons (se_int (sa_cons (se_int (sa_nil ?_))))))))))
  refine ⟨by decide, fun q nq => ?_⟩
  refine sa_nil ?_
  have pq : p ≠ q := jar.ne nq
  refine ⟨p, .m q, _, c, rfl, .inr (.inl ⟨q, rfl, Ne.symm pq, setM_same⟩), by simp, by decide, jar.set pq, by omega, fun u mu1 hu j1 e1 => ?_⟩
  have hj : ∃ j : Nat, u = .int (j : Nat) ∧ j ≤ 7 := by
    simp only [List.mem_cons, List.not_mem_nil, or_false] at hu
    rcases hu with rfl | rfl | rfl | rfl | rfl
    · exact ⟨0, rfl, by decide⟩
    · exact ⟨0, rfl, by decide⟩
    · exact ⟨1, rfl, by decide⟩
    · exact ⟨3, rfl, by decide⟩
    · exact ⟨7, rfl, by decide⟩
  obtain ⟨n, rfl, n7⟩ := hj
  have E1 : ExtBut p mu mu1 := (ExtBut.refl.own nq).trans e1
  refine ⟨by omega, by omega, ?_⟩
  intro Dd hD
  rw [Int.toNat_natCast]
  refine ⟨fun i acc mu' => ∃ zs : List Str, acc = zs.map W.str ∧ zs.length = i ∧ (∀ z ∈ zs, z.length = 1 ∧ Low z) ∧ JarOk mu' p (c + 1 + i) ∧ ExtBut p mu mu', ⟨[], rfl, rfl, by simp, j1, E1⟩, fun _ _ _ _ _ => trivial, fun i w acc mu' hw ⟨zs, ea, el, ez, jr, ex⟩ => ?_, fun acc mu' ⟨zs, ea, el, ez, jr, ex⟩ => ?_⟩
  · have hi : i < n := by have := (List.getElem?_eq_some_iff.mp hw).1; simpa using this
    refine ⟨by rw [ea, List.length_map, el]; exact Nat.lt_of_lt_of_le (by omega : i < 10) (by decide), _, rfl, fun s H C cl fp => ?_⟩
    refine se_callD D_of (hr.mono (by decide)) ?_
    refine sa_cons ?_
    refine se_var (i := 0) rfl ?_  -- _law_jar_here
    refine sa_cons ?_
    refine se_var (i := 2) rfl ?_  -- _law_small
    refine sa_nil ?_
    refine ⟨p, _, _, _, rfl, .inr (.inr ⟨_, rfl, by decide, rfl⟩), by decide, by decide, jr, by omega, fun u mu2 hu j2 e2 => ?_⟩
    obtain ⟨cc, hcc, rfl⟩ := List.mem_map.mp hu
    refine ⟨zs ++ [⟨#[cc]⟩], by rw [ea, List.map_append]; rfl, by rw [List.length_append, el]; rfl, fun z hz => ?_, j2.mono (by omega), ex.trans e2⟩
    rcases List.mem_append.mp hz with hz | hz
    · exact ez z hz
    · rw [List.mem_singleton] at hz
      subst hz
      refine ⟨rfl, fun x hx => ?_⟩
      have hx : x ∈ [cc] := hx
      rw [List.mem_singleton] at hx
      subst hx
      have hd : ∀ x ∈ ("abcdefghijklmnopqrstuvwxyz" : Str).cps.toList, 97 ≤ x ∧ x ≤ 122 := by decide +kernel
      exact hd x hcc
  · rw [List.length_map, List.length_range] at el
    subst ea
    have sm : ∀ l : List Str, (∀ z ∈ l, z.length = 1) → (l.map (·.length)).sum = l.length := fun l => by
      induction l with
      | nil => intro _; rfl
      | cons x r ih =>
        intro hx
        rw [List.map_cons, List.sum_cons, ih fun z hz => hx z (by simp [hz]), hx x (by simp), List.length_cons, Nat.add_comm]
    have s1 := sm zs fun z hz => (ez z hz).1
    refine ⟨Dd, zs, rfl, setM_same, by rw [s1]; show zs.length + zs.length * 0 ≤ _; omega, ?_⟩
    refine sg_name (i := 3) ?_ sc_Lnames.nd  -- _law_stem =
    have hst : ∃ st, st = Txt.join "" zs := ⟨_, rfl⟩
    obtain ⟨st, hst⟩ := hst
    rw [← hst]
    have lo : Low st := fun x hx => by
      rw [hst, join_cps] at hx
      obtain ⟨l, hl, hx⟩ := List.mem_flatten.mp hx
      obtain ⟨z, hz, rfl⟩ := List.mem_map.mp hl
      exact (ez z hz).2 x hx
    have stl : st.length ≤ 7 := by
      have : st.length = st.cps.toList.length := by rw [Array.length_toList]; rfl
      rw [this, hst, join_cps, List.length_flatten, List.map_map]
      have e3 : (List.map (List.length ∘ fun z : Str => z.cps.toList) zs) = zs.map (·.length) := List.map_congr_left fun z _ => by
        show z.cps.toList.length = z.length
        rw [Array.length_toList]
        rfl
      rw [e3, s1]
      omega
    have muD : mu Dd = none := by
      cases hh : mu Dd with
      | none => rfl
      | some cc =>
        have := E1 Dd cc (fun z => by
          obtain ⟨_, _, _, g, _⟩ := j1.ex
          rw [z] at hD
          rw [hD] at g
          cases g) hh
        rw [hD] at this
        cases this
    have pD : p ≠ Dd := fun z => by
      obtain ⟨_, _, _, g, _⟩ := j1.ex
      rw [z, hD] at g
      cases g
    refine sss_cons ?_
    refine ss_asg ?_
    refine se_tup ?_
    refine sa_cons ?_
    refine se_callD D_take (hr.mono (by decide)) ?_
    refine sa_cons ?_
    refine se_var (i := 0) rfl ?_  -- _law_jar_here
    refine sa_cons ?_
    refine se_bin op_Add Add_w ?_
    refine se_len ?_ B.len
    refine se_var (i := 3) rfl ?_  -- _law_stem
    refine ⟨Nat.le_trans stl (by decide), ?_⟩
    refine se_int ?_  -- 1
    show SA _ _ _ _ _
    refine sa_nil ?_
    refine ⟨p, _, c + 1 + 7, rfl, by omega, by omega, (jr.mono (by rw [List.length_map, List.length_range]; omega)).set pD, by omega, fun sp mu2 sp0 sp1 j2 e2 => ?_⟩
    obtain ⟨sp, rfl⟩ : ∃ k : Nat, sp = k := ⟨sp.toNat, by omega⟩
    refine sa_cons ?_
    refine se_callD D_take (hr.mono (by decide)) ?_
    refine sa_cons ?_
    refine se_var (i := 0) rfl ?_  -- _law_jar_here
    refine sa_cons ?_
    refine se_int ?_  -- 26
    refine sa_nil ?_
    refine ⟨p, _, _, rfl, by decide, by decide, j2, by omega, fun fi mu3 f0 f1 j3 e3 => ?_⟩
    obtain ⟨fi, rfl⟩ : ∃ k : Nat, fi = k := ⟨fi.toNat, by omega⟩
    have sple : sp ≤ st.length := by omega
    refine sa_nil ?_
    refine ⟨by show 2 ≤ sizeLine; decide, ?_⟩
    refine sg_tup (sgs_cons (sg_name (i := 5) (sgs_cons (sg_name (i := 6) (sgs_nil ?_) sc_Lnames.nd)) sc_Lnames.nd))
    refine sss_cons ?_
    refine ss_ret ?_
    refine se_lc (own := [("_law_k", 7)]) (.nm 7) rfl sc_Lnames.nd (blkOk_by (N := ["_law_jar_here", "_law_many", "_law_small", "_law_stem", "_law_turn", "_law_spot", "_law_first", "_law_k"]) (sc := defScope s_Lnames) (by decide +kernel)) rfl (fun _ _ _ _ _ => (pg_name (i := 7) sc_Lnames.nd rfl (Or.inl rfl))) (by intro _; rfl) ?_
    refine si_range ?_ B.range
    refine se_var (i := 1) rfl ?_  -- _law_many
    refine ⟨by omega, by omega, ?_⟩
    rw [Int.toNat_natCast]
    refine lc_pure (fun w => match w with | .int k => .str (nameAt st sp fi k.toNat) | _ => .non) (fun _ _ => trivial) (by rw [List.length_map, List.length_range]; exact Nat.le_trans m26 (by decide)) ?_ InBlk.mono ?_
    · intro w mu' hw he
      obtain ⟨k, hk, rfl⟩ := List.mem_map.mp hw
      have hk := List.mem_range.mp hk
      refine ⟨_, rfl, fun s H C cl fp => ?_⟩
      have cl0 : ∀ lo hi, (cutS st lo hi).length ≤ 7 := fun lo hi => by
        have : (cutS st lo hi).length = (cutS st lo hi).cps.toList.length := by rw [Array.length_toList]; rfl
        rw [this]
        unfold cutS
        simp only [List.length_take, List.length_drop]
        have : st.cps.toList.length = st.length := by rw [Array.length_toList]; rfl
        omega
      refine se_bin op_add_str cat_w ?_
      refine se_bin op_add_str cat_w ?_
      refine se_slTo ?_  -- _law_stem[:_law_spot]
      refine se_var (i := 3) rfl ?_  -- _law_stem
      refine se_var (i := 5) rfl ?_  -- _law_spot
      refine ⟨Nat.le_trans stl (by decide), ?_⟩
      refine se_ix ?_
      refine se_var (i := 2) rfl ?_  -- _law_small
      refine se_bin op_Mod Mod_w ?_
      refine se_intC ?_ B.int
      refine se_bin op_Add Add_w ?_
      refine se_var (i := 6) rfl ?_  -- _law_first
      refine se_bin op_Mult Mult_w ?_
      refine se_int ?_  -- 3
      refine se_var (i := 7) rfl ?_  -- _law_k
      refine ⟨cmulW 2 10 (by decide) (by omega) (by decide) (by decide) (by decide), ?_⟩
      refine se_int ?_  -- 26
      refine ⟨by decide, ?_⟩
      have er : ((fi : Int) + 3 * (k : Int)) % 26 = (((fi + 3 * k) % 26 : Nat) : Int) := by omega
      refine ⟨97 + (fi + 3 * k) % 26, by decide, by rw [er]; exact alpha_at _ (by omega), ?_⟩
      have l1 := cl0 none (some (sp : Int))
      have l2 := cl0 (some (sp : Int)) none
      refine ⟨by show (cutS st none (some (sp : Int))).length + 1 ≤ sizeLine; exact Nat.le_trans (by omega : _ ≤ 8) (by decide), ?_⟩
      refine se_slFrom ?_  -- _law_stem[_law_spot:]
      refine se_var (i := 3) rfl ?_  -- _law_stem
      refine se_var (i := 5) rfl ?_  -- _law_spot
      refine ⟨Nat.le_trans stl (by decide), ?_⟩
      refine ⟨?_, rfl, Ext.refl⟩
      have : (cutS st none (some (sp : Int)) ++ (⟨#[97 + (fi + 3 * k) % 26]⟩ : Str)).length = (cutS st none (some (sp : Int))).length + 1 := by
        have hl : ∀ x : Str, x.length = x.cps.toList.length := fun x => by rw [Array.length_toList]; rfl
        rw [hl, str_app, List.length_append, ← hl]
        rfl
      rw [this]
      exact Nat.le_trans (by omega : _ ≤ 15) (by decide)
    · intro Y mu' hY he he2
      have em : ((List.range m).map fun i => W.int ((i : Nat) : Int)).map (fun w => match w with | .int k => .str (nameAt st sp fi k.toNat) | _ => W.non) = stW ((List.range m).map (nameAt st sp fi)) := by
        unfold stW
        rw [List.map_map, List.map_map]
        rfl
      rw [em]
      have E3 : ExtBut p mu mu3 := ((ex.own muD).trans e2).trans e3
      have muY : mu Y = none := by
        cases hh : mu Y with
        | none => rfl
        | some cc =>
          have := E3 Y cc (fun z => (j3.ne hY) z.symm) hh
          rw [hY] at this
          cases this
      refine h Y _ _ muY setM_same (by rw [List.length_map, List.length_range]) ?_ ?_ (((j3.ext he).mono (by omega)).set (j3.ne hY)) ((E3.trans (Ext.but he)).own muY)
      · rw [List.Nodup, List.pairwise_map]
        refine List.Pairwise.imp_of_mem (fun {a b} ha hb hne e => hne ?_) List.nodup_range
        exact nameAt_inj sple (by have := List.mem_range.mp ha; omega) (by have := List.mem_range.mp hb; omega) e
      · intro n hn
        obtain ⟨k, hk, rfl⟩ := List.mem_map.mp hn
        exact nameAt_ok sple stl lo
end
end K1
set_option Elab.async false
set_option linter.all false
set_option maxRecDepth 100000
/-! set(xs) of texts, any number, and its len. -/
namespace TxSet
open PyProof.Rows PySem.Spec PySem
/-- the texts once each, in the order of their first place -/
def oncePut (seen : List Str) (x : Str) : List Str := if x ∈ seen then seen else seen ++ [x]
def once (xs : List Str) : List Str := xs.foldl oncePut []
theorem once_take {xs : List Str} {i : Nat} {x : Str} (h : xs[i]? = some x) : once (xs.take (i + 1)) = oncePut (once (xs.take i)) x := by
  unfold once
  rw [List.take_add_one, h, List.foldl_append]
  rfl
theorem once_mem : ∀ (xs acc : List Str) (y : Str), y ∈ xs.foldl oncePut acc ↔ y ∈ acc ∨ y ∈ xs
  | [], acc, y => by simp
  | x :: xs, acc, y => by
    rw [List.foldl_cons, once_mem xs]
    unfold oncePut
    by_cases h : x ∈ acc
    · rw [if_pos h, List.mem_cons]
      constructor
      · rintro (q | q)
        · exact .inl q
        · exact .inr (.inr q)
      · rintro (q | rfl | q)
        · exact .inl q
        · exact .inl h
        · exact .inr q
    · rw [if_neg h, List.mem_append, List.mem_singleton, List.mem_cons]
      constructor
      · rintro ((q | q) | q)
        · exact .inl q
        · exact .inr (.inl q)
        · exact .inr (.inr q)
      · rintro (q | q | q)
        · exact .inl (.inl q)
        · exact .inl (.inr q)
        · exact .inr q
theorem once_len (xs acc : List Str) : (xs.foldl oncePut acc).length ≤ acc.length + xs.length := by
  induction xs generalizing acc with
  | nil => simp
  | cons x xs ih =>
    have := ih (oncePut acc x)
    have h2 : (oncePut acc x).length ≤ acc.length + 1 := by unfold oncePut; split <;> simp
    rw [List.foldl_cons, List.length_cons]
    omega
theorem once_nodup : ∀ (xs acc : List Str), (acc ++ xs).Nodup → xs.foldl oncePut acc = acc ++ xs
  | [], acc, _ => by simp
  | x :: xs, acc, h => by
    have hn : x ∉ acc := fun z => by
      rw [List.nodup_append] at h
      exact h.2.2 x z x (by simp) rfl
    rw [List.foldl_cons]
    unfold oncePut
    rw [if_neg hn]
    have := once_nodup xs (acc ++ [x]) (by simpa using h)
    rw [show (fun seen x => if x ∈ seen then seen else seen ++ [x]) = oncePut from rfl, this]
    simp
def inOnce (xs : List Str) (y : Str) : Bool := decide (y ∈ once xs)
section
variable {pr : Program} {ww : World} {A : Around} {R : Result → Shared → Prop} {I D : Addr} {fp wr : List Addr} {G : Array GenState → Array GenState → Prop} {m : Nat} {P : Nat → Value → Prop} {St : Nat → Shared → Prop}
theorem fillTx (Wk : WalksS pr ww A.in1 I fp wr G m P St) (hD : D ∉ fp) (xs : List Str) (hm : xs.length = m) (hb : m + 1 < scanBound) (hP : ∀ i v, P i v → ∃ x t, xs[i]? = some x ∧ v = .str x t) :
    ∀ (left i : Nat) (sh : Shared), m - i = left → i ≤ m → St i sh → sh.heap.SetOf (strKind pr ww) D (inOnce (xs.take i)) (once (xs.take i)).length →
      (∀ sh2, Moved (D :: wr) G sh sh2 → sh2.heap.SetOf (strKind pr ww) D (inOnce xs) (once xs).length → R (.ok (.ret .none)) sh2) → codeAny (model pr ww) A (.builtin "set.update.loop" ⟨[.ref D, .ref I], []⟩) R sh := by
  have hDw : D ∉ wr := fun z => hD (Wk.sub _ z)
  have up : ∀ b ∈ wr, b ∈ D :: wr := fun b z => List.mem_cons_of_mem _ z
  intro left
  induction left with
  | zero =>
    intro i sh h0 hi st hS fin
    have e : i = m := by omega
    subst e
    (refine codeAny_builtin F.entry_set_update_loop ?_; rw [Around.under_plainId F.plain_set_update_loop _])
    show wpAny _ A.in1 (pyNext (.ref I) >>= _) _ _ sh
    refine wpAny_bind (Wk.done sh _ _ st fun sh2 mv => ?_)
    show wpAny _ A.in1 (ret Value.none) _ _ sh2
    rw [← hm, List.take_length] at hS
    exact wpAny_pure (fin sh2 (mv.mono up) (let ⟨o, es, ep, t, ho, rest⟩ := hS; ⟨o, es, ep, t, mv.heap D _ hDw ho, rest⟩))
  | succ left ih =>
    intro i sh h0 hi st hS fin
    have lt : i < m := by omega
    (refine codeAny_builtin F.entry_set_update_loop ?_; rw [Around.under_plainId F.plain_set_update_loop _])
    show wpAny _ A.in1 (pyNext (.ref I) >>= _) _ _ sh
    refine wpAny_bind (Wk.item i sh _ _ lt st fun v sh2 hv st2 mv => ?_)
    obtain ⟨x, t, hx, rfl⟩ := hP i v hv
    have hS2 : sh2.heap.SetOf (strKind pr ww) D (inOnce (xs.take i)) (once (xs.take i)).length := let ⟨o, es, ep, tb, ho, rest⟩ := hS; ⟨o, es, ep, tb, mv.heap D _ hDw ho, rest⟩
    show wpAny _ A.in1 (holding [Value.str x t] (setAdd D (.str x t)) >>= _) _ _ sh2
    (refine wpAny_bind (wpAny_holding ?_); unfold setAdd)
    refine wpAny_holding (wpAny_bind ((strKind pr ww).pyHash (k := x) (strKind_is _ _ _ _) ?_))
    have l1 : (once (xs.take i)).length ≤ i := by
      have := once_len (xs.take i) []
      rw [List.length_take] at this
      unfold once
      simp at this
      omega
    refine wpAny_setAddHashed_of (knd := strKind pr ww) (s := { sh2 with toks := sh2.toks + 1 }) (strKind_is _ _ _ _) rfl hS2 (by omega) fun h3 same hS3 => ?_
    have hS4 : h3.SetOf (strKind pr ww) D (inOnce (xs.take (i + 1))) (once (xs.take (i + 1))).length := by
      rw [once_take hx]
      refine SetOf_congr hS3 (fun y => ?_) ?_
      · unfold inOnce
        rw [once_take hx]
        unfold oncePut
        by_cases h : x ∈ once (xs.take i)
        · rw [if_pos h]
          by_cases e : y = x
          · subst e; simp [h]
          · simp [e]
        · rw [if_neg h]
          by_cases e : y = x
          · subst e; simp
          · simp [e]
      · unfold oncePut inOnce
        by_cases h : x ∈ once (xs.take i)
        · simp [h]
        · simp [h]
    refine wpAny_pure ⟨plainId_quiet F.plain_set_update_loop _, ih (i + 1) _ (by omega) lt (Wk.frame _ sh2 _ _ st2 (Nat.le_succ _) fun b z o e => (same.2 b fun q : b = D => hD (q ▸ z)).trans e) hS4 fun sh3 mv3 hS5 => fin sh3 (Moved.trans Wk.gtrans ((mv.mono up).then_heap (Nat.le_succ _) fun b o z e => (same.2 b fun q : b = D => z (by rw [q]; exact List.mem_cons_self)).trans e) mv3) hS5⟩
end
end TxSet

namespace TxSet
open PyProof.Rows PySem.Spec PySem
abbrev bare (led : Bool) : Obj := { cls := .type "set", dict := none, data := .set #[] 0 (.fresh 0 0 led) }
section
variable {pr : Program} {ww : World} {A : Around} {E : Value → Shared → Prop} {sh : Shared}
set_option maxHeartbeats 3300000 in
theorem newTxL {ad : Addr} {its : Array Value} {xs : List Str} {Q : Value → Shared → Prop} (noExc : A.handled = none) (hseq : sh.heap.IsList ad its) (tx : StrsAre its.toList xs) (few : its.size + 1 < scanBound)
    (fin : ∀ (h2 : Heap) (t2 : Nat), h2.SetOf (strKind pr ww) sh.heap.objs.size (inOnce xs) (once xs).length → (∀ b o, b < sh.heap.objs.size → sh.heap.get? b = some o → h2.get? b = some o) → Q (.ref sh.heap.objs.size) { sh with heap := h2, toks := t2 }) : wpAny (model pr ww) A (call (.type "set") [.ref ad]) Q E sh := by
  obtain ⟨cc, rest, mro⟩ := F.called_set.mro
  have made := F.called_set.made
  have subS := F.called_set.sub
  (refine wpAny_call (codeAny_of_tree ?_); show wpAny _ _ (callAny (.type "set") _) _ _ sh; refine wpAny_pure ⟨Code.quiet_builtin _ (by decide +kernel), codeAny_builtin F.entry_type_call ?_⟩)
  rw [Around.under_plain (weight_type_call_type "set" [.ref ad] []) rfl]
  have n1 := F.called_set.notType
  have n2 := F.called_set.canCreate
  have n3 := F.typeCall_set_1 (.ref ad)
  repeat any_goals first | assumption | wp_step
  refine codeAny_mono (code_set_new_1 (.ref ad) (E := E) (Q₁ := fun ob sh1 => ∃ led : Bool, ob = .ref sh.heap.objs.size ∧ sh1 = { sh with heap := sh.heap.push (bare led) }) fun led => ⟨led, rfl, rfl⟩) fun r sh1 hr => ?_
  rcases r with ex | fl
  · exact hr
  cases fl with
  | ret ob =>
    obtain ⟨led, rfl, rfl⟩ := hr
    have at0 : (sh.heap.push (bare led)).get? sh.heap.objs.size = some (bare led) := Heap.get?_push_size _ rfl
    have ty0 : Shared.TypeIs { sh with heap := sh.heap.push (bare led) } (.ref sh.heap.objs.size) "set" := ⟨_, at0, rfl⟩
    have in1 := F.called_set.init.lookup
    have in2 := F.called_set.init.bind (.ref sh.heap.objs.size)
    repeat any_goals first | assumption | wp_step
    refine codeAny_mono (codeAny_call_builtin (R := wants (fun r sh2 => r = .none ∧ ∃ h2 t2, sh2 = { sh with heap := h2, toks := t2 } ∧ h2.SetOf (strKind pr ww) sh.heap.objs.size (inOnce xs) (once xs).length ∧ (∀ b o, b < sh.heap.objs.size → sh.heap.get? b = some o → h2.get? b = some o)) E) F.called_set.init.plain F.entry_set_init (check_set_init_1 ty0 ?_)) fun r2 sh2 hr2 => ?_
    · obtain ⟨⟨oc, odt, oda, osl⟩, hol, hcl, nl, hdl⟩ := hseq
      simp only at hcl hdl
      subst hcl hdl
      have hol2 : (sh.heap.push (bare led)).get? ad = some { cls := .type "list", dict := odt, data := .seq its nl, slots := osl } := Heap.get?_push_of_some _ hol
      have sub1 := PySem.F.sub_list_set
      have sub2 := PySem.F.sub_list_frozenset
      have neD : (Value.type "list" == Value.type "dict") = false := by decide
      have seq2 : (sh.heap.push (bare led)).IsList ad its := ⟨_, hol2, rfl, nl, rfl⟩
      (unfold Builtin.«set.__init__» noKeywords Builtin.Frozenset.updateFrom; generalize ePI : pyIter = PI)
      wp_walk
      subst ePI
      refine wpAny_pyIter_list seq2 (wpAny_bind (wpAny_runValue ?_))
      have adLt : ad < sh.heap.objs.size := Heap.lt_size hol
      have noExc3 : A.in1.in1.in1.handled = none := by simp [noExc]
      have apart : ad ≠ (sh.heap.push (bare led)).objs.size := by rw [Heap.size_push]; exact Nat.ne_of_lt (Nat.lt_succ_of_lt adLt)
      have out : sh.heap.objs.size ∉ [(sh.heap.push (bare led)).objs.size, ad] := by
        rw [Heap.size_push]
        simp only [List.mem_cons, List.mem_singleton, List.not_mem_nil, or_false, not_or]
        exact ⟨Nat.ne_of_lt (Nat.lt_succ_self _), Nat.ne_of_gt adLt⟩
      have lenX : xs.length = its.size := by rw [← StrsAre.len_eq tx, Array.length_toList]
      have each : ∀ (i : Nat) (v : Value), its[i]? = some v → ∃ x t, xs[i]? = some x ∧ v = .str x t := fun i v hv => by
        have il : i < xs.length := by rw [lenX]; exact (Array.getElem?_eq_some_iff.mp hv).1
        obtain ⟨t, e⟩ := SS.strs_at tx i v (by rw [Array.getElem?_toList]; exact hv)
        refine ⟨xs[i], t, List.getElem?_eq_getElem il, ?_⟩
        rw [e, List.getD_eq_getElem?_getD, List.getElem?_eq_getElem il]
        rfl
      refine fillTx ((Walks.list noExc3 _ ad apart its).toS) out xs lenX few each (its.size - 0) 0 _ (by omega) (Nat.zero_le _) ⟨⟨_, Heap.get?_push_size _ rfl, rfl, rfl⟩, seq2.push _⟩ ?begin ?after
      case begin =>
        have at1 : ((sh.heap.push (bare led)).push { cls := .type "list_iterator", data := .fields #[.ref ad, .int 0 0] }).get? sh.heap.objs.size = some (bare led) := Heap.get?_push_of_some _ at0
        exact SetOf_congr ((setObjOf_fresh (knd := strKind pr ww) led).setOf at1 (by unfold scanBound; omega)) (fun y => by simp [inOnce, once]) rfl
      case after =>
        intro sh3 mv hS
        obtain ⟨h3, g3, d3, t3, o3⟩ := sh3
        have eg : g3 = sh.gens := mv.gens
        have ed : d3 = sh.drawn := mv.drawn
        have eo : o3 = sh.os := mv.os
        subst eg ed eo
        show wpAny _ _ _ _ _ _
        (refine wpAny_pure ?_; show wpAny _ _ (ret Value.none) _ _ _)
        refine wpAny_pure ⟨rfl, h3, t3, rfl, hS, fun b o hb e => mv.heap b o ?_ (Heap.get?_push_of_some _ (Heap.get?_push_of_some _ e))⟩
        have b1 : b ≠ sh.heap.objs.size := Nat.ne_of_lt hb
        have b2 : b ≠ (sh.heap.push (bare led)).objs.size := by rw [Heap.size_push]; exact Nat.ne_of_lt (Nat.lt_succ_of_lt hb)
        simp only [List.mem_cons, List.mem_singleton, List.not_mem_nil, or_false, not_or]
        exact ⟨b1, b2⟩
    · rcases r2 with ex | fl2
      · exact hr2
      cases fl2 with
      | ret r =>
        obtain ⟨rfl, h2, t2, rfl, hS, hk⟩ := hr2
        repeat any_goals first | assumption | wp_step
        exact fin _ _ hS hk
      | _ => exact hr2.elim
  | _ => exact hr.elim
set_option maxHeartbeats 3300000 in
theorem newTxT {ad : Addr} {its : Array Value} {xs : List Str} {Q : Value → Shared → Prop} (noExc : A.handled = none) (hseq : sh.heap.IsTuple ad its) (tx : StrsAre its.toList xs) (few : its.size + 1 < scanBound)
    (fin : ∀ (h2 : Heap) (t2 : Nat), h2.SetOf (strKind pr ww) sh.heap.objs.size (inOnce xs) (once xs).length → (∀ b o, b < sh.heap.objs.size → sh.heap.get? b = some o → h2.get? b = some o) → Q (.ref sh.heap.objs.size) { sh with heap := h2, toks := t2 }) : wpAny (model pr ww) A (call (.type "set") [.ref ad]) Q E sh := by
  obtain ⟨cc, rest, mro⟩ := F.called_set.mro
  have made := F.called_set.made
  have subS := F.called_set.sub
  (refine wpAny_call (codeAny_of_tree ?_); show wpAny _ _ (callAny (.type "set") _) _ _ sh; refine wpAny_pure ⟨Code.quiet_builtin _ (by decide +kernel), codeAny_builtin F.entry_type_call ?_⟩)
  rw [Around.under_plain (weight_type_call_type "set" [.ref ad] []) rfl]
  have n1 := F.called_set.notType
  have n2 := F.called_set.canCreate
  have n3 := F.typeCall_set_1 (.ref ad)
  repeat any_goals first | assumption | wp_step
  refine codeAny_mono (code_set_new_1 (.ref ad) (E := E) (Q₁ := fun ob sh1 => ∃ led : Bool, ob = .ref sh.heap.objs.size ∧ sh1 = { sh with heap := sh.heap.push (bare led) }) fun led => ⟨led, rfl, rfl⟩) fun r sh1 hr => ?_
  rcases r with ex | fl
  · exact hr
  cases fl with
  | ret ob =>
    obtain ⟨led, rfl, rfl⟩ := hr
    have at0 : (sh.heap.push (bare led)).get? sh.heap.objs.size = some (bare led) := Heap.get?_push_size _ rfl
    have ty0 : Shared.TypeIs { sh with heap := sh.heap.push (bare led) } (.ref sh.heap.objs.size) "set" := ⟨_, at0, rfl⟩
    have in1 := F.called_set.init.lookup
    have in2 := F.called_set.init.bind (.ref sh.heap.objs.size)
    repeat any_goals first | assumption | wp_step
    refine codeAny_mono (codeAny_call_builtin (R := wants (fun r sh2 => r = .none ∧ ∃ h2 t2, sh2 = { sh with heap := h2, toks := t2 } ∧ h2.SetOf (strKind pr ww) sh.heap.objs.size (inOnce xs) (once xs).length ∧ (∀ b o, b < sh.heap.objs.size → sh.heap.get? b = some o → h2.get? b = some o)) E) F.called_set.init.plain F.entry_set_init (check_set_init_1 ty0 ?_)) fun r2 sh2 hr2 => ?_
    · obtain ⟨⟨oc, odt, oda, osl⟩, hol, hcl, nl, hdl⟩ := hseq
      simp only at hcl hdl
      subst hcl hdl
      have hol2 : (sh.heap.push (bare led)).get? ad = some { cls := .type "tuple", dict := odt, data := .seq its nl, slots := osl } := Heap.get?_push_of_some _ hol
      have sub1 := PySem.F.sub_tuple_set
      have sub2 := PySem.F.sub_tuple_frozenset
      have neD : (Value.type "tuple" == Value.type "dict") = false := by decide
      have seq2 : (sh.heap.push (bare led)).IsTuple ad its := ⟨_, hol2, rfl, nl, rfl⟩
      (unfold Builtin.«set.__init__» noKeywords Builtin.Frozenset.updateFrom; generalize ePI : pyIter = PI)
      wp_walk
      subst ePI
      refine wpAny_pyIter_tuple seq2 (wpAny_bind (wpAny_runValue ?_))
      have adLt : ad < sh.heap.objs.size := Heap.lt_size hol
      have noExc3 : A.in1.in1.in1.handled = none := by simp [noExc]
      have apart : ad ≠ (sh.heap.push (bare led)).objs.size := by rw [Heap.size_push]; exact Nat.ne_of_lt (Nat.lt_succ_of_lt adLt)
      have out : sh.heap.objs.size ∉ [(sh.heap.push (bare led)).objs.size, ad] := by
        rw [Heap.size_push]
        simp only [List.mem_cons, List.mem_singleton, List.not_mem_nil, or_false, not_or]
        exact ⟨Nat.ne_of_lt (Nat.lt_succ_self _), Nat.ne_of_gt adLt⟩
      have lenX : xs.length = its.size := by rw [← StrsAre.len_eq tx, Array.length_toList]
      have each : ∀ (i : Nat) (v : Value), its[i]? = some v → ∃ x t, xs[i]? = some x ∧ v = .str x t := fun i v hv => by
        have il : i < xs.length := by rw [lenX]; exact (Array.getElem?_eq_some_iff.mp hv).1
        obtain ⟨t, e⟩ := SS.strs_at tx i v (by rw [Array.getElem?_toList]; exact hv)
        refine ⟨xs[i], t, List.getElem?_eq_getElem il, ?_⟩
        rw [e, List.getD_eq_getElem?_getD, List.getElem?_eq_getElem il]
        rfl
      refine fillTx ((Walks.tuple noExc3 _ ad apart its).toS) out xs lenX few each (its.size - 0) 0 _ (by omega) (Nat.zero_le _) ⟨⟨_, Heap.get?_push_size _ rfl, rfl, rfl⟩, seq2.push _⟩ ?begin ?after
      case begin =>
        have at1 : ((sh.heap.push (bare led)).push { cls := .type "tuple_iterator", data := .fields #[.ref ad, .int 0 0] }).get? sh.heap.objs.size = some (bare led) := Heap.get?_push_of_some _ at0
        exact SetOf_congr ((setObjOf_fresh (knd := strKind pr ww) led).setOf at1 (by unfold scanBound; omega)) (fun y => by simp [inOnce, once]) rfl
      case after =>
        intro sh3 mv hS
        obtain ⟨h3, g3, d3, t3, o3⟩ := sh3
        have eg : g3 = sh.gens := mv.gens
        have ed : d3 = sh.drawn := mv.drawn
        have eo : o3 = sh.os := mv.os
        subst eg ed eo
        show wpAny _ _ _ _ _ _
        (refine wpAny_pure ?_; show wpAny _ _ (ret Value.none) _ _ _)
        refine wpAny_pure ⟨rfl, h3, t3, rfl, hS, fun b o hb e => mv.heap b o ?_ (Heap.get?_push_of_some _ (Heap.get?_push_of_some _ e))⟩
        have b1 : b ≠ sh.heap.objs.size := Nat.ne_of_lt hb
        have b2 : b ≠ (sh.heap.push (bare led)).objs.size := by rw [Heap.size_push]; exact Nat.ne_of_lt (Nat.lt_succ_of_lt hb)
        simp only [List.mem_cons, List.mem_singleton, List.not_mem_nil, or_false, not_or]
        exact ⟨b1, b2⟩
    · rcases r2 with ex | fl2
      · exact hr2
      cases fl2 with
      | ret r =>
        obtain ⟨rfl, h2, t2, rfl, hS, hk⟩ := hr2
        repeat any_goals first | assumption | wp_step
        exact fin _ _ hS hk
      | _ => exact hr2.elim
  | _ => exact hr.elim
end
end TxSet
namespace L2
open PySem PyProof.Rows
def tLenTx (K : PySem.W.Frag) (ta : TE) : TE := fun σ H Q => ta σ H fun x H1 => ∃ l, ∃ xs : List Str, x = .ref l ∧ (SqL K H1 l (xs.map V.str) ∨ SqT K H1 l (xs.map V.str)) ∧ xs.length ≤ 20 ∧ Q (.int (TxSet.once xs).length) H1
theorem pe_lenTx {X : Cx} {a : Expr} {ta : TE} {p p2 q pos : Pos} (hc : X.calm = true) (hg : Gl X "len") (hm : X.mg "len" = none) (hg2 : Gl X "set") (hm2 : X.mg "set" = none) (ha : PE X a ta) (na : starEach [a] X.env = (false, eval a X.env) :: starEach [] X.env := by rfl) :
    PE X (.Call (.Name "len" p) [.Call (.Name "set" p2) [a] [] q] [] pos) (tLenTx X.K ta) := by
  refine ⟨fun pins s σ H Q I h => Call_ (ld_blt I hg hm boot_len (PyProof.Rows.callWith_builtin1 (PyProof.Rows.args_cons (Call_ (ld_blt I hg2 hm2 boot_set (PyProof.Rows.callWith_type1 (PyProof.Rows.args_cons (thn (ha.run pins s σ H _ I h) fun v s1 ⟨x, H1, I1, r1, l, xs, ex, hq, h20, qq⟩ => PyProof.Rows.args_nil ?_) na) na rfl))) rfl) rfl rfl))⟩
  subst ex
  cases r1
  have l2 := TxSet.once_len xs []
  have fin : ∀ (h' : Heap) (tk : Nat), h'.SetOf (PySem.strKind X.prog X.w) s1.heap.objs.size (TxSet.inOnce xs) (TxSet.once xs).length → (∀ b o, b < s1.heap.objs.size → s1.heap.get? b = some o → h'.get? b = some o) →
      wpAny (model X.prog X.w) X.A (spliced (backTo pos (starEach [] X.env))) (fun vs s₂ => wpAny (model X.prog X.w) X.A (call (.builtin "len") (Value.ref s1.heap.objs.size :: vs)) (EP X pins σ Q) X.xe s₂) X.xe { s1 with heap := h', toks := tk } := fun h' tk hS hk => PyProof.Rows.args_nil (by
    obtain ⟨so, es, ep, tb, hso, hex, hd, _, _, _, hf, hn⟩ := hS
    have J2 : Inv X pins σ H1 { s1 with heap := h', toks := tk } := I1.kept fun b ob z => hk b ob (Heap.lt_size z) z
    have l3 : (TxSet.once xs).length ≤ 20 := by unfold TxSet.once; simp at l2; omega
    exact call_len_set hso hex hd hf (by rw [hn]; omega) ⟨.int (TxSet.once xs).length, H1, J2.tok _, ⟨_, by rw [hn]⟩, qq⟩)
  rcases hq with hq | hq
  · obtain ⟨itms, r, pl, hz⟩ := I1.list hq
    have hl := r.length
    rw [List.length_map] at hl
    exact TxSet.newTxL (I1.ok.hd hc) pl.isList (by simpa using strsAre_of r) (by simp; unfold scanBound; omega) fin
  · obtain ⟨itms, r, pl, hz⟩ := I1.tuple hq
    have hl := r.length
    rw [List.length_map] at hl
    exact TxSet.newTxT (I1.ok.hd hc) pl (by simpa using strsAre_of r) (by simp; unfold scanBound; omega) fin
end L2
namespace Dv
open PySem L2
theorem se_lenSet {X : Cx} {e : Expr} {G : Gs} {mu : Mu} {p p2 q pos : Pos} {P : PW1} (h : SE X e G mu fun w mu1 => ∃ xs : List Str, (w = .tup (xs.map W.str) ∨ ∃ a, w = .m a ∧ mu1 a = some (.lst (xs.map W.str))) ∧ xs.length ≤ 20 ∧ P (.int (TxSet.once xs).length) mu1)
    (hm : X.mg "len" = none) (hm2 : X.mg "set" = none) (hc : X.calm = true := by rfl) (hg : Gl X "len" := by rfl) (hg2 : Gl X "set" := by rfl) (na : starEach [e] X.env = (false, eval e X.env) :: starEach [] X.env := by rfl) : SE X (.Call (.Name "len" p) [.Call (.Name "set" p2) [e] [] q] [] pos) G mu P :=
  SE.mk (pe_lenTx hc hg hm hg2 hm2 peE na) fun σ H Q d m k => h σ H _ d m fun v w mu1 H1 h1 c1 d1 m1 => by
    obtain ⟨xs, hw, h20, qq⟩ := h1
    rcases hw with rfl | ⟨a, rfl, ha⟩
    · obtain ⟨l, vs, rfl, s1, d2⟩ := d1
      have := denAll_str d2
      subst this
      exact ⟨l, xs, rfl, .inr s1, h20, (k.step c1).now qq rfl m1⟩
    · obtain ⟨vs, hx, d2⟩ := m1 a _ ha
      have d1 : v = .ref a := d1
      subst d1
      have := denAll_str d2
      subst this
      exact ⟨a, xs, rfl, .inl (SqL.of hx), h20, (k.step c1).now qq rfl m1⟩
end Dv
set_option Elab.async false
set_option linter.all false
set_option maxRecDepth 100000
/-! == and != by a class's own __eq__, by values. -/
namespace DvLow
open PySem PySem.Spec PyProof.Rows
section
variable {prog : Program} {w : World} {A : Around} {E : Value → Shared → Prop} {s : Shared} {K : PySem.W.Frag} {x C f : Addr} {ox : Obj} {od : Option Obj}
theorem dec_int (b : Int) (u : Tok) (l C dx : Addr) : Meets (Builtin.«int.__eq__» ⟨[.int b u, .ref l], []⟩) (fun _ R s => s.heap.get? l = some (PySem.W.instObj C dx) ∧ R (.ok (.ret .notImplemented)) s) :=
  .of_wp fun prog w A R s h => by
    obtain ⟨hp, g, d, tk, os⟩ := s
    obtain ⟨hl, h⟩ := h
    wp_walk using wpAny_loadPart' hl, wpAny_load hl
    exact ⟨_, rfl, h⟩
theorem dec_str (b : Str) (u : Tok) (l C dx : Addr) : Meets (Builtin.«str.__eq__» ⟨[.str b u, .ref l], []⟩) (fun _ R s => s.heap.get? l = some (PySem.W.instObj C dx) ∧ R (.ok (.ret .notImplemented)) s) :=
  .of_wp fun prog w A R s h => by
    obtain ⟨hp, g, d, tk, os⟩ := s
    obtain ⟨hl, h⟩ := h
    wp_walk using wpAny_loadPart' hl, wpAny_load hl
    exact ⟨_, rfl, h⟩
theorem dec_tup {a : Addr} {R : Result → Shared → Prop} (hi : PySem.W.Looks (model prog w) s.heap (isInstance (.ref x) (.type "tuple")) false) (h : R (.ok (.ret .notImplemented)) s) :
    wpAny (model prog w) A.in1 (Builtin.«tuple.__eq__» ⟨[.ref a, .ref x], []⟩) (GQ.FinOf prog w A R) (fun e s' => R (.error e) s') s := by
  obtain ⟨hp, g, d, tk, os⟩ := s
  have hi' : ∀ {Q : Bool → Shared → Prop} {E : Value → Shared → Prop} {A : Around}, Q false ⟨hp, g, d, tk, os⟩ → wpAny (model prog w) A (isInstance (.ref x) (.type "tuple")) Q E ⟨hp, g, d, tk, os⟩ := fun q => hi.here q
  wp_walk using hi'
  exact h
/-- l == x, l of a built-in type that declines, x of a class with its own == -/
theorem refl_K {l : Value} {T id : String} {Q : Value → Shared → Prop} (hu : A.units < cLine) (X : K.In s.heap) (I : PySem.W.InstAt s.heap x ox C od) (hT : s.TypeIs l T) (h1 : oneThing? .Eq l (.ref x) = none)
    (hsub : PySem.W.subIn K (.ref C) (.type T) = some false) (sl : Slot T "__eq__" id) (hc : wpAny (model prog w) A (call (.builtin id) [l, .ref x]) (fun v s' => v = .notImplemented ∧ s' = s) E s)
    (hs : PySem.W.findIn K (.ref C) "__eq__" = some (some (.ref f))) (hf : PySem.W.isFn K (.ref f) = true)
    (h : wpAny (model prog w) A (call (.ref f) [.ref x, l]) (PySem.W.CmpBack Q) E s) : wpAny (model prog w) A (richCompare .Eq l (.ref x)) Q E s := by
  have one : wpAny (model prog w) A (tryCompare l "__eq__" (.ref x)) (fun r s' => r = none ∧ s' = s) E s :=
    wpAny_tryCompare_declines hT sl (wpAny_mono hc (fun v s' ⟨e1, e2⟩ => ⟨e1, rfl, e2⟩) fun _ _ e => e)
  have two : wpAny (model prog w) A (tryCompare (.ref x) "__eq__" l) (fun r s' => ∃ v, r = some v ∧ Q v s') E s := by
    unfold tryCompare
    refine wpAny_bind (PySem.W.ifBound_K X I hs hf (wpAny_mono h (fun v s' hv => ?_) fun _ _ e => e))
    cases v <;> first | exact hv.elim | exact wpAny_pure ⟨_, rfl, hv⟩
  simp only [richCompare, cmpInfo_Eq, h1]
  refine wpAny_holding (wpAny_bind (wpAny_cRoomFor hu ?_))
  refine wpAny_bind (wpAny_typeOf hT ?_)
  refine wpAny_bind (I.type.here ?_)
  split
  · refine wpAny_bind ((PySem.W.looks_subIn X hsub).here ?_)
    simp only [Bool.false_eq_true, if_false, Bool.not_false, if_true]
    refine wpAny_bind (m := tryCompare l _ (.ref x)) (wpAny_mono one (fun r s1 z => ?_) fun _ _ e => e)
    obtain ⟨z1, z2⟩ := z
    subst z1
    subst z2
    refine wpAny_bind (m := tryCompare (.ref x) _ l) (wpAny_mono two (fun r s2 z => ?_) fun _ _ e => e)
    obtain ⟨v, rfl, hq⟩ := z
    exact wpAny_pure hq
  · rename_i q
    exact absurd (by simp) q
theorem bound_ne {M : Model} {args : List Value} {Q : Option Value → Shared → Prop} (X : K.In s.heap) (I : PySem.W.InstAt s.heap x ox C od) (hs : PySem.W.findIn K (.ref C) "__ne__" = some (some (.builtin "object.__ne__")))
    (h : wpAny M A (call (.builtin "object.__ne__") (.ref x :: args)) (fun v => Q (some v)) E s) : wpAny M A (callSpecialIfBound? (.ref x) "__ne__" args) Q E s := by
  have go : wpAny M A (call (.builtin "object.__ne__") ([.ref x] ++ args) >>= fun v => pure (some v)) Q E s := wpAny_bind (wpAny_mono h (fun v s' q => wpAny_pure q) fun _ _ q => q)
  have bd := F.cmp_object.ne.bind (.ref x)
  simp only [callSpecialIfBound?, bindSpecialIfBound?]; refine wpAny_holding (wpAny_bind (wpAny_bind (wpAny_bind (I.type.here ((PySem.W.looks_findIn X hs).here ?_)))))
  refine wpAny_bind (wpAny_askSetting (wpAny_ite ?_)); split
  · exact wpAny_bind (wpAny_of_eq bd (wpAny_pure (by exact go)))
  · exact wpAny_tryCatch (wpAny_bind (wpAny_of_eq bd (wpAny_pure (by exact go))))
set_option maxHeartbeats 4000000 in
/-- x != b, x of a class with its own == and without != of its own -/
theorem ne_K {b tb : Value} {Q : Value → Shared → Prop} (hu : A.units + 1 < cLine) (X : K.In s.heap) (I : PySem.W.InstAt s.heap x ox C od) (hb : PySem.W.Looks (model prog w) s.heap (typeOf b) tb) (hn : PySem.W.notFirst K C tb = true)
    (hm : PySem.W.mroIn K C (.type "object") = some true) (hne : PySem.W.findIn K (.ref C) "__ne__" = some (some (.builtin "object.__ne__")))
    (hs : PySem.W.findIn K (.ref C) "__eq__" = some (some (.ref f))) (hf : PySem.W.isFn K (.ref f) = true)
    (h : wpAny (model prog w) A.in1 (call (.ref f) [.ref x, b]) (fun v s' => ∃ r, v = .bool r ∧ Q (.bool (!r)) s') E s) : wpAny (model prog w) A (richCompare .NotEq (.ref x) b) Q E s := by
  have hu1 : A.in1.units < cLine := hu
  have entry : ∀ {R : Fin → Shared → Prop}, wpAny (model prog w) A.in1 (call (.ref f) [.ref x, b]) (fun v s' => ∃ r, v = .bool r ∧ R (.done (.ret (.bool (!r)))) s') E s → wpAny (model prog w) A.in1 (Builtin.«object.__ne__» ⟨[.ref x, b], []⟩) R E s := by
    intro R hcall
    obtain ⟨hp, g, d, tk, os⟩ := s
    unfold Builtin.«object.__ne__»
    repeat (first
      | with_reducible refine wpAny_cRoomFor hu1 ?_
      | (refine wpAny_bind (m := callSpecialIfBound? (.ref x) (Str.ofString "__eq__") [b])
          (PySem.W.ifBound_K X I hs hf (wpAny_mono hcall (fun r s' hr => by
            obtain ⟨b, rfl, hq⟩ := hr
            repeat (first | exact hq | exact wpAny_pure hq | exact wpAny_truthy_bool hq | (refine wpAny_bind (m := truthy (.bool _)) (wpAny_truthy_bool ?_)) | wp_step)) fun _ _ e => e)))
      | wp_step)
  have one : wpAny (model prog w) A (tryCompare (.ref x) "__ne__" b) (fun r s' => ∃ v, r = some v ∧ Q v s') E s := by
    unfold tryCompare
    have e1 := entry (R := GQ.FinOf prog w A (wants (fun v s' => ∃ r, v = Value.bool r ∧ Q v s') E)) (wpAny_mono h (fun v s' ⟨r, e, q⟩ => ⟨r, e, (show ∃ r', Value.bool (!r) = Value.bool r' ∧ Q (Value.bool (!r)) s' from ⟨!r, rfl, q⟩)⟩) fun _ _ e => e)
    have body : wpAny (model prog w) A (call (.builtin "object.__ne__") [.ref x, b]) (fun v s' => ∃ r, v = .bool r ∧ Q v s') E s := by
      refine wpAny_call (codeAny_call_builtin F.cmp_object.ne.plain F.cmpEntry_ne ?_)
      refine PySem.W.check_slot F.cmpKind_ne F.cmpSplit_ne (I.type.andThen (PySem.W.looks_mroIn X hm)) (F.cmpArgs_ne _ _) ?_
      exact e1
    exact wpAny_bind (bound_ne X I hne (wpAny_mono body (fun v s' ⟨r, e, q⟩ => by subst e; exact wpAny_pure ⟨_, rfl, q⟩) fun _ _ h' => h'))
  unfold richCompare
  simp only [oneThing_ref]
  refine wpAny_holding (wpAny_bind (wpAny_cRoomFor (Nat.lt_of_succ_lt hu) ?_))
  refine wpAny_bind (I.type.here (wpAny_bind (hb.here ?_)))
  split
  · rename_i q
    have e : PySem.W.subIn K tb (.ref C) = some false := by
      rcases Bool.or_eq_true_iff.mp hn with e | e
      · rw [beq_iff_eq.mp e] at q; simp at q
      · exact beq_iff_eq.mp e
    refine wpAny_bind ((PySem.W.looks_subIn X e).here ?_)
    simp only [Bool.false_eq_true, if_false]
    refine wpAny_bind (wpAny_mono one (fun r s' z => ?_) fun _ _ e => e)
    obtain ⟨v, rfl, hq⟩ := z
    exact wpAny_pure hq
  · refine wpAny_bind (wpAny_pure ?_)
    simp only [Bool.false_eq_true, if_false]
    refine wpAny_bind (wpAny_mono one (fun r s' z => ?_) fun _ _ e => e)
    obtain ⟨v, rfl, hq⟩ := z
    exact wpAny_pure hq
end
end DvLow
set_option Elab.async false
set_option linter.all false
set_option maxRecDepth 100000
/-! == and != of instances with an own __eq__: what its promise says of two values. -/
namespace Dv
open PySem L2
section
variable {X : Cx} {pins : List (Addr × Obj)} {σ : St} {H : Hp} {s : Shared}
theorem sub_of {K : PySem.W.Frag} {T : String} {C : Addr} {l : List String} (h : fastBuiltinMro T = some (l.map Value.type)) : PySem.W.subIn K (.type T) (.ref C) = some false := by
  show (fastBuiltinMro T).map (fun z => z.contains (.ref C)) = some false
  rw [h, Option.map_some]
  have : ∀ l : List String, (l.map Value.type).contains (Value.ref C) = false := fun l => by
    induction l with
    | nil => rfl
    | cons a l ih => simp [List.contains_cons]
  rw [this]
theorem first_of {K : PySem.W.Frag} {T : String} {C : Addr} {l : List String} (h : fastBuiltinMro T = some (l.map Value.type)) : PySem.W.notFirst K C (.type T) = true := by
  unfold PySem.W.notFirst
  rw [sub_of h]
  simp
/-- what may stand beside an instance in a comparison -/
inductive OthV (K : PySem.W.Frag) (C : Addr) (H : Hp) : V → Prop where
  | non : OthV K C H .non
  | int (i : Int) : OthV K C H (.int i)
  | str (z : Str) : OthV K C H (.str z)
  | tup {a : Addr} {xs : List V} (h : SqT K H a xs) : OthV K C H (.ref a)
  | ins {a dx : Addr} {fs : List (Str × V)} (h : H a = some (.ins C dx fs)) : OthV K C H (.ref a)
theorem OthV.look {C : Addr} {y : V} {u : Value} (I : Inv X pins σ H s) (r : RelV y u) (o : OthV X.K C H y) : ∃ tb, PySem.W.Looks (model X.prog X.w) s.heap (typeOf u) tb ∧ PySem.W.notFirst X.K C tb = true := by
  cases o with
  | non =>
    cases (show u = Value.none from r)
    exact ⟨.type "NoneType", PySem.W.Looks.of_pure rfl, first_of (l := ["NoneType", "object"]) (by decide +kernel)⟩
  | int i =>
    obtain ⟨t, q⟩ := (show ∃ t, u = Value.int i t from r)
    cases q
    exact ⟨.type "int", PySem.W.Looks.of_pure rfl, first_of (l := ["int", "object"]) (by decide +kernel)⟩
  | str z =>
    obtain ⟨t, q⟩ := (show ∃ t, u = Value.str z t from r)
    cases q
    exact ⟨.type "str", PySem.W.Looks.of_pure rfl, first_of (l := ["str", "object"]) (by decide +kernel)⟩
  | @tup a xs h =>
    cases (show u = Value.ref a from r)
    obtain ⟨its, _, ⟨ob, ho, hc, _⟩, _⟩ := I.tuple h
    exact ⟨.type "tuple", hc ▸ (PySem.W.Looks.ld ho).andThen .now, first_of (l := ["tuple", "object"]) (by decide +kernel)⟩
  | @ins a dx fs h =>
    cases (show u = Value.ref a from r)
    obtain ⟨mA, J, _⟩ := ins_get I.hok h
    obtain ⟨od, J, _⟩ := J.look
    exact ⟨.ref C, J.type, by simp [PySem.W.notFirst]⟩
/-- what the promise S must say of two values, for an end by a truth -/
def Told (K : PySem.W.Frag) (H : Hp) (S : SpW) (x y : V) (Q : Bool → Hp → Prop) : Prop := ∃ ws mu P, S ws mu P ∧ DenAll K H ws [x, y] ∧ HM K H mu ∧ ∀ v w mu' H', P w mu' → Chg mu H mu' H' → Den K H' w v → HM K H' mu' → ∃ b, v = .bl b ∧ Q b H'
theorem run_own {m : Str} {C : Addr} {ps : List Str} {k : Nat} {S : SpW} (D : MetOk X.prog X.w X.K X.mg X.base C m ps k S) : ∃ f, PySem.W.findIn X.K (.ref C) m = some (some (.ref f)) ∧ PySem.W.isFn X.K (.ref f) = true ∧
    ∀ (A : Around) (pins : List (Addr × Obj)) (σ : St) (H : Hp) (s : Shared) (x y : V) (u v : Value) (Q : Bool → Hp → Prop), Sub X k A → Inv X pins σ H s → RelV x u → RelV y v → Told X.K H S x y Q →
      wpAny (model X.prog X.w) A (call (.ref f) [u, v]) (fun r s' => ∃ b H', r = .bool b ∧ Inv X pins σ H' s' ∧ Q b H') X.xe s := by
  obtain ⟨f, fd, F, hm, hb⟩ := D.ex
  refine ⟨f, hm.at_, hm.fn, fun A pins σ H s x y u v Q sb I rx ry ⟨ws, mu, P, hS, d, mm, k⟩ => ?_⟩
  have hsp : spW X.K S [x, y] H (fun v H' => ∃ b, v = .bl b ∧ Q b H') (fun _ _ _ => False) := ⟨ws, mu, P, hS, d, mm, fun v w mu' H' p c dv m' => k v w mu' H' p c dv m'⟩
  have q := I.env0
  have e0 : Env0 X.prog X.w X.K X.mg X.base A X.stack s H := { frames := sb.fr.trans q.frames, mod := q.mod, bs := q.bs, bsz := q.bsz, funs := q.funs, frf := q.frf, hok := q.hok, bare := q.bare }
  have hl := F.len _ _ _ _ hsp
  have r2 : Vals [x, y] [u, v] := .cons rx (.cons ry .nil)
  have bd := hb s [u, v] I.kIn (by simpa using hl)
  rw [List.append_nil] at bd
  refine wpAny_call (codeAny_mono (F.run A X.stack s H ⟨[u, v], []⟩ [u, v] [x, y] _ _ sb.room e0 bd r2 hsp) fun r s' hq => ?_)
  cases r with
  | error e => exact False.elim hq
  | ok fl => cases fl with
    | next => exact False.elim hq
    | brk => exact False.elim hq
    | cont => exact False.elim hq
    | ret w =>
      obtain ⟨z, H', I', rz, b, ez, q⟩ := I.after hq
      subst ez
      cases rz
      exact ⟨b, H', rfl, I', q⟩
def rOwn (K : PySem.W.Frag) (C : Addr) (S : SpW) : R2 := fun x y H Q => (∃ a dx fs, x = .ref a ∧ H a = some (.ins C dx fs)) ∧ OthV K C H y ∧ Told K H S x y fun b H' => Q (.bl b) H'
/-- x == y -/
theorem op_eqOwn {C : Addr} {ps : List Str} {k : Nat} {S : SpW} (D : MetOk X.prog X.w X.K X.mg X.base C "__eq__" ps k S) (hr : Room k X.A) : OpR X (compareOp .Eq) (rOwn X.K C S) := by
  intro pins s σ H x y v u Q I rx ry ⟨⟨a, dx, fs, ex, ha⟩, o, h⟩
  subst ex
  obtain ⟨f, h1, h2, run⟩ := run_own D
  cases rx
  obtain ⟨mA, J, _⟩ := ins_get I.hok ha
  obtain ⟨od, J, _⟩ := J.look
  obtain ⟨tb, L, nf⟩ := o.look I ry
  obtain ⟨m, hF⟩ := I.fr
  show wpAny (model X.prog X.w) X.A (richCompare .Eq (.ref a) u) (EP X pins σ Q) X.xe s
  refine PySem.W.cmp_K (op := .Eq) hr.units0 hF I.ok.mod.kin J L nf h1 h2 ?_
  exact wpAny_mono (run X.A pins σ H s (.ref a) y (.ref a) u (fun b H' => Q (.bl b) H') ⟨hr, rfl⟩ I rfl ry h) (fun r s' ⟨b, H', e, I', q⟩ => by subst e; exact ⟨.bl b, H', I', rfl, q⟩) fun _ _ e => e
/-- the class is no subclass of what stands beside it -/
structure NoSub (K : PySem.W.Frag) (C : Addr) : Prop where
  non : PySem.W.mroIn K C (.type "NoneType") = some false
  int : PySem.W.mroIn K C (.type "int") = some false
  str : PySem.W.mroIn K C (.type "str") = some false
  tup : PySem.W.mroIn K C (.type "tuple") = some false
/-- a value of a built-in type beside an instance -/
inductive BltV (K : PySem.W.Frag) (H : Hp) : V → Prop where
  | non : BltV K H .non
  | int (i : Int) : BltV K H (.int i)
  | str (z : Str) : BltV K H (.str z)
  | tup {a : Addr} {xs : List V} (h : SqT K H a xs) : BltV K H (.ref a)
def rRef (K : PySem.W.Frag) (C : Addr) (S : SpW) : R2 := fun x y H Q => (∃ a dx fs, y = .ref a ∧ H a = some (.ins C dx fs)) ∧ BltV K H x ∧ Told K H S y x fun b H' => Q (.bl b) H'
/-- y == x, y of a built-in type -/
theorem op_eqRef {C : Addr} {ps : List Str} {k : Nat} {S : SpW} (D : MetOk X.prog X.w X.K X.mg X.base C "__eq__" ps k S) (N : NoSub X.K C) (hr : Room k X.A) : OpR X (compareOp .Eq) (rRef X.K C S) := by
  intro pins s σ H x y v u Q I rx ry ⟨⟨a, dx, fs, ey, ha⟩, o, h⟩
  subst ey
  obtain ⟨f, h1, h2, run⟩ := run_own D
  cases ry
  obtain ⟨mA, J0, _⟩ := ins_get I.hok ha
  obtain ⟨od, J, _⟩ := J0.look
  have last : wpAny (model X.prog X.w) X.A (call (.ref f) [.ref a, v]) (PySem.W.CmpBack (EP X pins σ Q)) X.xe s :=
    wpAny_mono (run X.A pins σ H s (.ref a) x (.ref a) v (fun b H' => Q (.bl b) H') ⟨hr, rfl⟩ I rfl rx h) (fun r s' ⟨b, H', e, I', q⟩ => by subst e; exact ⟨.bl b, H', I', rfl, q⟩) fun _ _ e => e
  have hu := hr.units0
  show wpAny (model X.prog X.w) X.A (richCompare .Eq v (.ref a)) (EP X pins σ Q) X.xe s
  cases o with
  | non =>
    cases (show v = Value.none from rx)
    exact DvLow.refl_K hu I.kIn J (show s.TypeIs .none "NoneType" from rfl) rfl N.non F.slot_NoneType_eq (call_gives F.slot_NoneType_eq rfl F.entry_NoneType_eq (F.args_NoneType_eq_2 _ _) (PySem.SeqAt.NoneType___eq___none_ref_0 a) ⟨rfl, rfl⟩) h1 h2 last
  | int i =>
    obtain ⟨t, q⟩ := (show ∃ t, v = Value.int i t from rx)
    cases q
    exact DvLow.refl_K hu I.kIn J (typeIs_int s i t) rfl N.int F.slot_int_eq (call_meets F.slot_int_eq (typeIs_int s i t) F.entry_int_eq (F.args_int_eq_2 _ _) (DvLow.dec_int i t a C dx) ⟨J0.obj, rfl, rfl⟩) h1 h2 last
  | str z =>
    obtain ⟨t, q⟩ := (show ∃ t, v = Value.str z t from rx)
    cases q
    exact DvLow.refl_K hu I.kIn J (typeIs_str s z t) rfl N.str F.slot_str_eq (call_meets F.slot_str_eq (typeIs_str s z t) F.entry_str_eq (F.args_str_eq_2 _ _) (DvLow.dec_str z t a C dx) ⟨J0.obj, rfl, rfl⟩) h1 h2 last
  | @tup p xs hs =>
    cases (show v = Value.ref p from rx)
    obtain ⟨its, _, ⟨ob, ho, hc, _⟩, _⟩ := I.tuple hs
    refine DvLow.refl_K hu I.kIn J ⟨ob, ho, hc⟩ rfl N.tup F.slot_tuple_eq (GQ.call_here F.slot_tuple_eq ⟨ob, ho, hc⟩ F.entry_tuple_eq (F.args_tuple_eq_2 _ _) ?_) h1 h2 last
    exact DvLow.dec_tup (J.type.andThen (PySem.W.looks_mroIn I.kIn N.tup)) ⟨rfl, rfl⟩
/-- x != y -/
def rNeOwn (K : PySem.W.Frag) (C : Addr) (S : SpW) : R2 := fun x y H Q => (∃ a dx fs, x = .ref a ∧ H a = some (.ins C dx fs)) ∧ OthV K C H y ∧ Told K H S x y fun b H' => Q (.bl !b) H'
theorem op_neOwn {C : Addr} {ps : List Str} {k : Nat} {S : SpW} (D : MetOk X.prog X.w X.K X.mg X.base C "__eq__" ps k S) (hr : Room (k + 1) X.A)
    (hm : PySem.W.mroIn X.K C (.type "object") = some true) (hn : PySem.W.findIn X.K (.ref C) "__ne__" = some (some (.builtin "object.__ne__"))) : OpR X (compareOp .NotEq) (rNeOwn X.K C S) := by
  intro pins s σ H x y v u Q I rx ry ⟨⟨a, dx, fs, ex, ha⟩, o, h⟩
  subst ex
  obtain ⟨f, h1, h2, run⟩ := run_own D
  cases rx
  obtain ⟨mA, J, _⟩ := ins_get I.hok ha
  obtain ⟨od, J, _⟩ := J.look
  obtain ⟨tb, L, nf⟩ := o.look I ry
  show wpAny (model X.prog X.w) X.A (richCompare .NotEq (.ref a) u) (EP X pins σ Q) X.xe s
  refine DvLow.ne_K (by have := hr.units; omega) I.kIn J L nf hm hn h1 h2 ?_
  exact wpAny_mono (run X.A.in1 pins σ H s (.ref a) y (.ref a) u (fun b H' => Q (.bl !b) H') ⟨hr.in1, rfl⟩ I rfl ry h) (fun r s' ⟨b, H', e, I', q⟩ => by subst e; exact ⟨b, rfl, .bl !b, H', I', rfl, q⟩) fun _ _ e => e
/-! by values -/
def OthW (C : Addr) (mu : Mu) : W → Prop
  | .non => True
  | .int _ => True
  | .str _ => True
  | .tup _ => True
  | .m a => ∃ fs, mu a = some (.ins C fs)
  | _ => False
theorem OthW.v {K : PySem.W.Frag} {C : Addr} {H : Hp} {mu : Mu} {w : W} {v : V} (m : HM K H mu) (d : Den K H w v) (h : OthW C mu w) : OthV K C H v := by
  cases w with
  | non => have d : v = .non := d; subst d; exact .non
  | bl b => exact h.elim
  | int i => have d : v = .int i := d; subst d; exact .int i
  | str z => have d : v = .str z := d; subst d; exact .str z
  | tup ws => obtain ⟨a, xs, e, q, _⟩ := d; subst e; exact .tup q
  | fl ws => exact h.elim
  | fd ks ws => exact h.elim
  | m a =>
    have d : v = .ref a := d
    subst d
    obtain ⟨fs, e⟩ := h
    obtain ⟨dx, vs, hx, _⟩ := m a _ e
    exact .ins hx
def BltW : W → Prop
  | .non => True
  | .int _ => True
  | .str _ => True
  | .tup _ => True
  | _ => False
theorem BltW.v {K : PySem.W.Frag} {H : Hp} {w : W} {v : V} (d : Den K H w v) (h : BltW w) : BltV K H v := by
  cases w with
  | non => have d : v = .non := d; subst d; exact .non
  | bl b => exact h.elim
  | int i => have d : v = .int i := d; subst d; exact .int i
  | str z => have d : v = .str z := d; subst d; exact .str z
  | tup ws => obtain ⟨a, xs, e, q, _⟩ := d; subst e; exact .tup q
  | fl ws => exact h.elim
  | fd ks ws => exact h.elim
  | m a => exact h.elim
theorem told_of {K : PySem.W.Frag} {H : Hp} {mu : Mu} {S : SpW} {w1 w2 : W} {x y : V} {P : PW1} {Q : Bool → Hp → Prop} {g : Bool → Bool} (dx : Den K H w1 x) (dy : Den K H w2 y) (m : HM K H mu)
    (h : S [w1, w2] mu fun w mu' => ∃ b, w = .bl b ∧ P (.bl (g b)) mu') (k : ∀ b mu' H', P (.bl (g b)) mu' → Chg mu H mu' H' → HM K H' mu' → Q b H') : Told K H S x y Q :=
  ⟨[w1, w2], mu, _, h, ⟨x, [y], rfl, dx, y, [], rfl, dy, rfl⟩, m, fun v w mu' H' ⟨b, e, p⟩ c d m' => by
    subst e
    have d : v = .bl b := d
    exact ⟨b, d, k b mu' H' p c m'⟩⟩
abbrev eqOwnW (C : Addr) (S : SpW) (w1 w2 : W) (mu : Mu) (P : PW1) : Prop := (∃ a fs, w1 = .m a ∧ mu a = some (.ins C fs)) ∧ OthW C mu w2 ∧ S [w1, w2] mu fun w mu' => ∃ b, w = .bl b ∧ P (.bl b) mu'
theorem eqOwn_w {C : Addr} {S : SpW} : OpW X (rOwn X.K C S) (eqOwnW C S) := fun w1 w2 x y mu H P Q dx dy m ⟨⟨a, fs, e, ha⟩, o, h⟩ k => by
  subst e
  have dx' : x = .ref a := dx
  subst dx'
  obtain ⟨dd, vs, hx, _⟩ := m a _ ha
  exact ⟨⟨a, dd, vs, rfl, hx⟩, o.v m dy, told_of (g := id) dx dy m h fun b mu' H' p c m' => k _ _ _ _ p c rfl m'⟩
abbrev eqRefW (C : Addr) (S : SpW) (w1 w2 : W) (mu : Mu) (P : PW1) : Prop := (∃ a fs, w2 = .m a ∧ mu a = some (.ins C fs)) ∧ BltW w1 ∧ S [w2, w1] mu fun w mu' => ∃ b, w = .bl b ∧ P (.bl b) mu'
theorem eqRef_w {C : Addr} {S : SpW} : OpW X (rRef X.K C S) (eqRefW C S) := fun w1 w2 x y mu H P Q dx dy m ⟨⟨a, fs, e, ha⟩, o, h⟩ k => by
  subst e
  have dy' : y = .ref a := dy
  subst dy'
  obtain ⟨dd, vs, hx, _⟩ := m a _ ha
  exact ⟨⟨a, dd, vs, rfl, hx⟩, o.v dx, told_of (g := id) dy dx m h fun b mu' H' p c m' => k _ _ _ _ p c rfl m'⟩
abbrev neOwnW (C : Addr) (S : SpW) (w1 w2 : W) (mu : Mu) (P : PW1) : Prop := (∃ a fs, w1 = .m a ∧ mu a = some (.ins C fs)) ∧ OthW C mu w2 ∧ S [w1, w2] mu fun w mu' => ∃ b, w = .bl b ∧ P (.bl !b) mu'
theorem neOwn_w {C : Addr} {S : SpW} : OpW X (rNeOwn X.K C S) (neOwnW C S) := fun w1 w2 x y mu H P Q dx dy m ⟨⟨a, fs, e, ha⟩, o, h⟩ k => by
  subst e
  have dx' : x = .ref a := dx
  subst dx'
  obtain ⟨dd, vs, hx, _⟩ := m a _ ha
  exact ⟨⟨a, dd, vs, rfl, hx⟩, o.v m dy, told_of (g := fun b => !b) dx dy m h fun b mu' H' p c m' => k _ _ _ _ p c rfl m'⟩
end
/-! isinstance of an own class -/
structure IsCls (K : PySem.W.Frag) (C : Addr) : Prop where
  cl : Cls K C
  ha : PySem.W.findIn K (.ref C) "__class__" = some (some (.builtin "object.__class__"))
  hn : PySem.W.specialIn K (.builtin "object.__class__") "__get__" = some (some (.builtin "getset_descriptor.__get__"))
  ht : PySem.W.takesIn K (.builtin "object.__class__") = some true
  hm : PySem.W.mroIn K C (.type "object") = some true
  self : PySem.W.kitOne K (.ref C) (.ref C) = some true
  non : PySem.W.kitOne K (.type "NoneType") (.ref C) = some false
  int : PySem.W.kitOne K (.type "int") (.ref C) = some false
  str : PySem.W.kitOne K (.type "str") (.ref C) = some false
  tup : PySem.W.kitOne K (.type "tuple") (.ref C) = some false
def isOwn : W → Option Bool
  | .non => some false
  | .int _ => some false
  | .str _ => some false
  | .tup _ => some false
  | .m _ => some true
  | _ => none
theorem isOwn_ok {K : PySem.W.Frag} {H : Hp} {mu : Mu} {C : Addr} {w : W} {v : V} (Z : IsCls K C) (m : HM K H mu) (d : Den K H w v) (h : OthW C mu w) : ∃ t b, isOwn w = some b ∧ TyX K H v t ∧ PySem.W.kitOne K t (.ref C) = some b := by
  cases w with
  | non => exact ⟨_, _, rfl, tyN_ok (n := "NoneType") d m rfl, Z.non⟩
  | bl b => exact h.elim
  | int i => exact ⟨_, _, rfl, tyN_ok (n := "int") d m rfl, Z.int⟩
  | str z => exact ⟨_, _, rfl, tyN_ok (n := "str") d m rfl, Z.str⟩
  | tup ws => exact ⟨_, _, rfl, tyN_ok (n := "tuple") d m rfl, Z.tup⟩
  | fl ws => exact h.elim
  | fd ks ws => exact h.elim
  | m a =>
    have d : v = .ref a := d
    subst d
    obtain ⟨fs, e⟩ := h
    obtain ⟨dx, vs, hx, _⟩ := m a _ e
    exact ⟨_, _, rfl, .base (.ins hx Z.cl Z.ha Z.hn Z.ht Z.hm), Z.self⟩
end Dv
set_option Elab.async false
set_option linter.all false
set_option maxRecDepth 100000
/-! t[::-1] of a tuple; sorted of a tuple; repr; isinstance of an own class. -/
namespace RevT
open PySem PySem.Spec PyProof.Rows HT
theorem adj_rev (n : Nat) : Builtin.Slice.sliceAdjust none none (-1) (n : Int) = ((n : Int) - 1, -1) := rfl
theorem places_rev (n : Nat) : Builtin.Slice.slicePlaces ((n : Int) - 1) (-1) (-1) = n := by
  unfold Builtin.Slice.slicePlaces
  rw [if_neg (by decide)]
  by_cases h : (n : Int) - 1 > -1
  · rw [if_pos h]
    have : ((n : Int) - 1 - -1 - 1) / (- -1) + 1 = n := by
      rw [show (- -1 : Int) = 1 from rfl, Int.ediv_one]
      omega
    rw [this]
    exact Int.toNat_natCast n
  · rw [if_neg h]
    have : n = 0 := by omega
    subst this
    rfl
theorem pick_rev : ∀ (ys : List Value), (List.range ys.length).filterMap (fun (m : Nat) => ys.toArray[(((ys.length : Nat) : Int) - 1 + (m : Int) * -1).toNat]?) = ys.reverse := by
  intro ys
  have h1 : ∀ k, k ≤ ys.length → (List.range k).filterMap (fun (m : Nat) => ys.toArray[(((ys.length : Nat) : Int) - 1 + (m : Int) * -1).toNat]?) = ys.reverse.take k := by
    intro k
    induction k with
    | zero => intro _; rfl
    | succ k ih =>
      intro hk
      rw [List.range_succ, List.filterMap_append, ih (by omega), List.take_add_one]
      congr 1
      have e : ((((ys.length : Nat) : Int) - 1 + (k : Int) * -1).toNat) = ys.length - 1 - k := by omega
      rw [List.filterMap_cons, e]
      have e2 : ys.toArray[ys.length - 1 - k]? = ys.reverse[k]? := by
        rw [List.getElem?_toArray, List.getElem?_reverse (by omega)]
      rw [e2]
      cases hh : ys.reverse[k]? <;> simp
  rw [h1 _ (Nat.le_refl _)]
  exact List.take_of_length_le (by simp)
section
variable {prog : Program} {w : World} {A : Around} {E : Value → Shared → Prop} {s : Shared}
theorem applied_rev {sl : Addr} {vk : Value} {n : Nat} {Q : Int × Int × Nat → Shared → Prop} (hs : s.heap.IsSliceOf sl .none .none vk) (ps : IsPart vk (some (-1)))
    (h : Q ((n : Int) - 1, -1, n) s) : wpAny (model prog w) A (Builtin.Slice.sliceApplied (.ref sl) (pure (n : Int))) Q E s := by
  obtain ⟨os, h1, _, h3⟩ := id hs
  unfold Builtin.Slice.sliceApplied Builtin.Slice.sliceFields
  refine wpAny_bind (wpAny_bind (wpAny_field h1 h3 (x := .none) rfl (wpAny_bind (wpAny_field h1 h3 (x := .none) rfl (wpAny_bind (wpAny_field h1 h3 (x := vk) rfl (wpAny_pure ?_)))))))
  refine wpAny_bind (slicePart_ ps ?_); show wpAny _ _ (if ((-1 : Int) == 0) = true then _ else _) _ _ s
  rw [if_neg (show ¬ ((-1 : Int) == 0) = true by decide)]
  refine wpAny_bind (slicePart_ .none (wpAny_bind (slicePart_ .none (wpAny_bind (wpAny_pure ?_)))))
  show wpAny _ _ (match Builtin.Slice.sliceAdjust none none (-1) (n : Int) with | (lo, hi) => pure (lo, (-1 : Int), Builtin.Slice.slicePlaces lo hi (-1))) _ _ s
  rw [adj_rev n]
  show wpAny _ _ (pure ((n : Int) - 1, (-1 : Int), Builtin.Slice.slicePlaces ((n : Int) - 1) (-1) (-1))) _ _ s
  rw [places_rev]
  exact wpAny_pure h
theorem getItem_rev {t sl : Addr} {its : List Value} {vk : Value} {Q : Value → Shared → Prop} (ht : IsTup s.heap t its.toArray) (hs : s.heap.IsSliceOf sl .none .none vk) (ps : IsPart vk (some (-1))) (hz : its.length ≤ sizeLine)
    (h : Q (.ref s.heap.objs.size) { s with heap := s.heap.push { cls := .type "tuple", data := .seq its.reverse.toArray } }) : wpAny (model prog w) A (getItem (.ref t) (.ref sl)) Q E s := by
  have okz : sizeOk (.seq its.reverse.toArray) := by
    show its.reverse.toArray.size ≤ sizeLine
    rw [List.size_toArray, List.length_reverse]
    exact hz
  obtain ⟨os, h1, h2, h3⟩ := id hs
  have ty : s.TypeIs (.ref sl) "slice" := ⟨os, h1, h2⟩
  unfold getItem; try with_reducible refine wpAny_holding ?_
  try refine wpAny_bind (wpAny_pure ?_)
  refine wpAny_bind (wpAny_sequenceKey ht.typeIs (by decide) (wpAny_bind (wpAny_callSpecial?_slot (name := Str.ofString "__getitem__") ht.typeIs PyProof.Rows.slot_tuple_getitem
    (wpAny_call_entry PyProof.Rows.slot_tuple_getitem ht.typeIs entry_tuple_getitem ?_ (args_tuple_getitem _ _)))))
  show wpAny _ _ (Builtin.Tuple.tupleItemsOf (.ref t) >>= _) _ _ s
  refine wpAny_bind (tupleItemsOf_ ht (wpAny_bind (wpAny_typeOf ty ?_)))
  rw [if_pos (show (Value.type "slice" == Value.type "slice") = true by decide)]
  have ez : its.toArray.size = its.length := by simp
  refine wpAny_bind (applied_rev (n := its.toArray.size) hs ps ?_)
  have no : ¬ ((((its.toArray.size : Nat) : Int) - 1 == 0 && (-1 : Int) == 1 && its.toArray.size == its.toArray.size) = true) := by
    simp
  show wpAny _ _ (if (((its.toArray.size : Nat) : Int) - 1 == 0 && (-1 : Int) == 1 && its.toArray.size == its.toArray.size) = true then _ else _) _ _ s
  rw [if_neg no, ez, pick_rev]
  first
    | exact wpAny_bind (m := Builtin.Tuple.tupleExact _) (wpAny_newObj_type (wpAny_pure ⟨_, rfl, wpAny_pure h⟩) okz)
    | exact wpAny_bind (m := Builtin.Tuple.tupleExact _) (wpAny_newObj_type (wpAny_bind (wpAny_pure (wpAny_pure ⟨_, rfl, wpAny_pure h⟩))) okz)
    | exact wpAny_bind (wpAny_bind (m := Builtin.Tuple.tupleExact _) (wpAny_newObj_type (wpAny_pure (wpAny_pure ⟨_, rfl, wpAny_pure h⟩)) okz))
    | exact wpAny_bind (wpAny_bind (m := Builtin.Tuple.tupleExact _) (wpAny_newObj_type (wpAny_pure ⟨_, rfl, wpAny_pure h⟩) okz))
end
end RevT
namespace SortT
open PySem PySem.Spec PyProof.Rows
section
variable {prog : Program} {w : World} {A : Around} {E : Value → Shared → Prop} {s : Shared} {β : Type} {bs : List β} {enc : β → PyData} {R : Value → β → Prop}
/-- sorted(x), whatever x is: OK tells what collect finds -/
theorem sorted_by {x : Value} {OK : List Value → Shared → Prop} {Q : Value → Shared → Prop} (hx : ∀ {Q' : List Value → Shared → Prop} {E' : Value → Shared → Prop}, (∀ vs s1, OK vs s1 → Q' vs s1) → wpAny (model prog w) A.in1 (collect x) Q' E' s)
    (step : ∀ vs s1, OK vs s1 → ∃ bs : List β, PySem.W.EachIs R vs bs ∧ PySem.W.EachIs (fun v b => ∃ as, Reads s1.heap v (enc b) as) vs bs ∧ PySem.W.AllAlike (bs.map enc) ∧ PySem.W.Sortable (bs.map enc) ∧ bs.length ≤ sizeLine ∧ (∀ b, b ∈ bs → A.units + 2 + (enc b).depth < cLine) ∧
      ∀ out c h', out.length = bs.length → PySem.W.EachIs R out (bs.mergeSort (PySem.W.dataLe false enc)) → (∀ b o, s1.heap.get? b = some o → h'.get? b = some o) → h'.get? s1.heap.objs.size = some (seqObj "list" (List.toArray out) c) → Q (.ref s1.heap.objs.size) { s1 with heap := h' }) :
    wpAny (model prog w) A (call (.builtin "sorted") [x]) Q E s := by
  (refine Calls.call_function_entry kind_sorted plain_sorted entry_sorted (args_sorted1 _) ?_; unfold Builtin.«sorted»)
  refine wpAny_bind (m := checkCount "sorted" 1 1 _) (wpAny_pure (wpAny_bind (hx fun vs s1 ok => ?_)))
  obtain ⟨bs, e, er, al, so, hl, hu, fin⟩ := step vs s1 ok
  refine wpAny_bind (wpAny_newList ?_ (by rw [e.length]; exact hl))
  have ho : (s1.heap.push (seqObj "list" vs.toArray 0)).get? s1.heap.objs.size = some (seqObj "list" vs.toArray 0) := Heap.get?_push_size _ rfl
  have k0 : ∀ b o, s1.heap.get? b = some o → (s1.heap.push (seqObj "list" vs.toArray 0)).get? b = some o := fun b o q => Heap.get?_push_of_some _ q
  have er2 : PySem.W.EachIs (fun v b => ∃ as, Reads (s1.heap.push (seqObj "list" vs.toArray 0)) v (enc b) as ∧ s1.heap.objs.size ∉ as) vs bs := er.mono fun v b ⟨as, r⟩ => ⟨as, PyProof.Rows.Reads.keeps k0 r, fun z => by
    obtain ⟨o, ho⟩ := PyProof.On.reads_mem_get r _ z
    exact Nat.lt_irrefl _ (Heap.lt_size ho)⟩
  refine wpAny_bind (wpAny_holding ?_)
  refine PySem.W.list_sort_data (s := { s1 with heap := s1.heap.push (seqObj "list" vs.toArray 0) }) ho e er2 al so hl (fun b hb => by have := hu b hb; show A.units + 1 + 1 + _ < _; omega) fun out ho2 he => ?_
  obtain ⟨c, hc⟩ := sortedHeap_at (vs := vs) (out := List.toArray out) ho
  refine wpAny_pure ⟨_, rfl, fin out c _ ho2 he (fun b o q => ?_) hc⟩
  have lt := Heap.lt_size q
  show (sortedHeap (s1.heap.push (seqObj "list" vs.toArray 0)) s1.heap.objs.size vs (List.toArray out)).get? b = some o
  rw [sortedHeap_old (Nat.ne_of_lt lt) (by rw [size_push']; exact Nat.lt_succ_of_lt lt)]
  exact k0 _ _ q
/-- what sorted finds in a tuple -/
theorem collect_tup {a : Addr} {vs : List Value} {Q : List Value → Shared → Prop} (ht : s.heap.IsTuple a vs.toArray) (hz : vs.length ≤ sizeLine)
    (h : ∀ h', (∀ b o, s.heap.get? b = some o → h'.get? b = some o) → s.heap.objs.size ≤ h'.objs.size → Q vs { s with heap := h' }) : wpAny (model prog w) A (collect (.ref a)) Q E s := by
  obtain ⟨o, ho, hc, n, hd⟩ := id ht
  have lt := Heap.lt_size ho
  (unfold collect; refine wpAny_bind (wpAny_runValue (codeAny_builtin entry_proto_collect' ?_)))
  show wpAny _ _ (do again (.builtin "list.__iadd__" ⟨[← newList [], .ref a], []⟩)) _ _ s
  refine wpAny_bind (wpAny_newList (wpAny_pure ⟨Code.quiet_builtin _ (by decide +kernel), codeAny_builtin entry_list_iadd' ?_⟩))
  have new : (s.heap.push (seqObj "list" #[] 0)).get? s.heap.objs.size = some (seqObj "list" #[] 0) := Heap.get?_push_size _ rfl
  rw [Around.under_plainId F.plain_list_iadd _]; show wpAny _ _ (Builtin.List.listExtendWith (.ref s.heap.objs.size) (.ref a) (.ref s.heap.objs.size)) _ _ { s with heap := s.heap.push (seqObj "list" #[] 0) }
  have ho' := Heap.get?_push_of_some (seqObj "list" #[] 0) ho
  (unfold Builtin.List.listExtendWith; refine wpAny_bind (wpAny_typeOf (T := "tuple") ⟨o, ho', hc⟩ ?_))
  rw [if_pos (show (Builtin.List.listSameRef (.ref s.heap.objs.size) (.ref a) || Value.type "tuple" == Value.type "list" || Value.type "tuple" == Value.type "tuple") = true by simp)]
  refine wpAny_bind (listItems_at ho' hd (wpAny_bind (listItems_at (xs := #[]) (n := 0) new rfl ?_)))
  rw [if_neg (by simp)]
  refine wpAny_bind (listUpdate_at (xs := #[]) (n := 0) new rfl ?_ (Nat.zero_le _) (by show (#[] ++ vs.toArray).size ≤ sizeLine + 1; simp only [Array.size_append, List.size_toArray, List.length_nil]; omega))
  refine wpAny_pure ?_
  show wpAny (model prog w) A (do
      let o ← load s.heap.objs.size
      match o.data with
      | .seq xs _ => pure xs.toList
      | _ => unsupported "internal:collect") Q E { s with heap := (s.heap.push (seqObj "list" #[] 0)).update s.heap.objs.size (Obj.mapSeq (· ++ vs.toArray)) }
  refine wpAny_bind (wpAny_load (get?_update_seq new _) ?_)
  show wpAny _ _ (pure ((#[] : Array Value) ++ vs.toArray).toList) Q E _
  rw [show ((#[] : Array Value) ++ vs.toArray).toList = vs by simp]
  refine wpAny_pure (h _ (fun b u e => ?_) ?_)
  · rw [Heap.get?_update_ne _ _ _ _ (Nat.ne_of_lt (Heap.lt_size e))]
    exact Heap.get?_push_of_some _ e
  · rw [Heap.size_update, size_push']
    exact Nat.le_succ _
end
end SortT
namespace Dv
open PySem L2
section
variable {X : Cx} {e a b c : Expr} {es : List Expr} {st : Stmt} {sts : List Stmt} {G : Gs} {mu mu' : Mu} {pos p : Pos} {P : PW1}
/-- t[::-1] of a tuple -/
def tRevT (K : PySem.W.Frag) (te : TE) : TE := fun σ H Q => te σ H fun x H1 => ∃ a xs, x = .ref a ∧ SqT K H1 a xs ∧ ∀ p, H1 p = none → Q (.ref p) (upd H1 p (.tup xs.reverse))
theorem pe_revT {e : Expr} {te : TE} {k : Nat} {p1 p2 p3 pos : Pos} (he : PE X e te) : PE X (.Subscript e (.Slice none none (some (.UnaryOp .USub (.Constant (.int 1) k p1) p2)) p3) pos) (tRevT X.K te) := by
  refine ⟨fun pins s σ H Q I h => PyProof.Rows.Subscript_ (thn (he.run pins s σ H _ I h) fun v s1 ⟨x, H1, I1, r1, a, xs, ex, hx, q⟩ => ?_)⟩
  subst ex
  cases r1
  have part : PO X (some (.UnaryOp .USub (.Constant (.int 1) k p1) p2)) (tPart (tUn (rU fun i => .int (-i)) (tC (.int 1)))) := po_some (pe_un un_neg pe_int)
  refine wpAny_Slice (thn (po_none.run pins s1 σ H1 (fun o H2 => o = none ∧ H2 = H1) I1 ⟨rfl, rfl⟩) fun vl s2 ⟨l, H2, I2, pl, el, e2⟩ => ?_)
  subst el e2
  refine thn (po_none.run pins s2 σ H2 (fun o H3 => o = none ∧ H3 = H2) I2 ⟨rfl, rfl⟩) fun vu s3 ⟨u, H3, I3, pu, eu, e3⟩ => ?_
  subst eu e3
  refine thn (part.run pins s3 σ H3 (fun o H4 => o = some (-1) ∧ H4 = H3) I3 ⟨1, rfl, -1, rfl, rfl, rfl⟩) fun vs s4 ⟨o, H4, I4, ps, eo, e4⟩ => ?_
  subst eo e4
  have I5 : Inv X pins σ H4 { s4 with heap := s4.heap.push { cls := .type "slice", data := .fields #[vl, vu, vs] } } := I4.kept (t' := s4.toks) fun b ob z => Heap.get?_push_of_some _ z
  obtain ⟨its, r, ht, hz⟩ := I5.tuple hx
  have nl : vl = .none := by cases pl; rfl
  have nu : vu = .none := by cases pu; rfl
  subst nl nu
  show wpAny (model X.prog X.w) X.A (PyProof.Rows.subscriptTail e (.Slice none none (some (.UnaryOp .USub (.Constant (.int 1) k p1) p2)) p3) (.ref a) (.ref s4.heap.objs.size)) (EP X pins σ Q) X.xe { s4 with heap := s4.heap.push { cls := .type "slice", data := .fields #[.none, .none, vs] } }
  refine PyProof.Rows.tail_any (ops := [.ref a, .ref s4.heap.objs.size]) ht.typeIs PyProof.Rows.slot_tuple_getitem.lookup ?_ (by with_unfolding_all rfl)
  refine RevT.getItem_rev ht (Heap.IsSliceOf.new _ .none .none vs) ps (by rw [← r.length]; exact hz) ?_
  refine ⟨.ref _, _, I5.laid (t' := s4.toks) (o := .tup xs.reverse) (fun b ob z => Heap.get?_push_of_some _ z) (Nat.le_refl _) ?_, rfl, q _ (I5.hok.fresh (Nat.le_refl _))⟩
  exact ⟨by rw [List.length_reverse]; exact hz, _, r.reverse, PyProof.Rows.IsTup.new _ _⟩
theorem se_rev {k : Nat} {p1 p2 p3 : Pos} (h : SE X a G mu fun w mu1 => match w with | .tup us => P (.tup us.reverse) mu1 | _ => False) : SE X (.Subscript a (.Slice none none (some (.UnaryOp .USub (.Constant (.int 1) k p1) p2)) p3) pos) G mu P :=
  SE.mk (pe_revT peE) fun σ H Q d m kk => h σ H _ d m fun v w mu1 H1 h1 c1 d1 m1 => by
    cases w with
    | tup us =>
      obtain ⟨q, xs, e, sq, dx⟩ := d1
      subst e
      refine ⟨q, xs, rfl, sq, fun r hr => ?_⟩
      obtain ⟨c2, m2⟩ := laid (o := .tup xs.reverse) m1 hr
      exact kk _ _ _ _ h1 (c1.trans c2) ⟨r, _, rfl, .inl (.inl upd_same), (c2.denAll m1 dx).reverse⟩ m2
    | non => exact h1.elim
    | bl b => exact h1.elim
    | int i => exact h1.elim
    | str z => exact h1.elim
    | m q => exact h1.elim
    | fl q => exact h1.elim
    | fd q r => exact h1.elim
/-- sorted of a tuple of data -/
def rSortT (K : PySem.W.Frag) : List V → Hp → VK → Prop := fun vs H Q => ∃ (a : Addr) (xs : List V) (us : List W), vs = [.ref a] ∧ SqT K H a xs ∧ DenAll K H us xs ∧ plsW us = true ∧ PySem.W.AllAlike (dats us) ∧ PySem.W.Sortable (dats us) ∧ (∀ u ∈ us, (dat u).depth ≤ 64) ∧
  ∀ p ys, H p = none → DenAll K H (us.mergeSort leW) ys → Q (.ref p) (upd H p (.lst ys))
theorem cr_sortedT {j : Nat} (hr : Room j X.A) : CallR X (.builtin "sorted") (rSortT X.K) := by
  intro pins s σ H vs us' Q I r ⟨a, xs, us, ev, hs, dx, pl, al, so, dp, q⟩
  subst ev
  cases r with
  | cons ra rn =>
  cases rn
  cases ra
  obtain ⟨its, rv, pT, hz⟩ := I.tuple hs
  have em : (xs.zip us).map (fun b => dat b.2) = dats us := by
    have := congrArg (List.map dat) (zip_snd dx)
    rw [List.map_map] at this
    rw [show dats us = us.map dat from by simpa using dats_mapD us]
    exact this
  have hlen : (xs.zip us).length = us.length := by rw [List.length_zip, ← dx.length]; omega
  have lz : us.length ≤ sizeLine := by rw [dx.length]; exact hz
  refine SortT.sorted_by (β := V × W) (enc := fun b => dat b.2) (R := fun u b => RelV b.1 u) (OK := fun vs s1 => vs = its ∧ ∃ h', s1 = { s with heap := h' } ∧ (∀ b o, s.heap.get? b = some o → h'.get? b = some o) ∧ s.heap.objs.size ≤ h'.objs.size)
    (fun h => SortT.collect_tup pT (by rw [← rv.length]; exact hz) fun h' k z => h _ _ ⟨rfl, h', rfl, k, z⟩) ?_
  rintro vs s1 ⟨rfl, h', rfl, k0, z0⟩
  have I1 : Inv X pins σ H { s with heap := h' } := I.kept (t' := s.toks) k0
  refine ⟨xs.zip us, each_zip dx rv, each_reads I1 pl dx rv, by rw [em]; exact al, by rw [em]; exact so, by rw [hlen]; exact lz, fun b hb => ?_, fun out c h2 hl he k2 hc => ?_⟩
  · have := dp b.2 (List.of_mem_zip hb).2
    have := hr.un
    omega
  · have hn : H h'.objs.size = none := I1.hok.fresh (Nat.le_refl _)
    have dn : DenAll X.K H (us.mergeSort leW) (((xs.zip us).mergeSort (PySem.W.dataLe false fun b => dat b.2)).map (·.1)) := by
      have h1 := denAll_of (K := X.K) (H := H) (bs := (xs.zip us).mergeSort (PySem.W.dataLe false fun b => dat b.2)) fun b hb => zip_den dx b ((List.mergeSort_perm _ _).mem_iff.mp hb)
      have h2 : ((xs.zip us).mergeSort (PySem.W.dataLe false fun b => dat b.2)).map (·.2) = us.mergeSort leW :=
        (PySem.W.sort_maps (r := PySem.W.dataLe false fun b : V × W => dat b.2) (s := leW) (l := xs.zip us) (fun b : V × W => b.2) fun a _ b _ => rfl).trans (by rw [zip_snd dx])
      rw [h2] at h1
      exact h1
    refine ⟨.ref h'.objs.size, upd H h'.objs.size (.lst _), I1.laid (t' := s.toks) k2 (Nat.le_refl _) ⟨?_, out, c, each_vals he, hc⟩, rfl, q _ _ hn dn⟩
    rw [List.length_map, List.length_mergeSort, hlen]
    exact lz
abbrev sortTW (ws : List W) (mu : Mu) (P : PW1) : Prop := ∃ us, ws = [.tup us] ∧ plsW us = true ∧ PySem.W.AllAlike (dats us) ∧ PySem.W.Sortable (dats us) ∧ (∀ u ∈ us, (dat u).depth ≤ 64) ∧ ∀ p, mu p = none → P (.m p) (setM mu p (.lst (us.mergeSort leW)))
theorem sortT_w : CallW X (rSortT X.K) sortTW := fun ws vs mu H P Q d m ⟨us, e, pl, al, so, dp, q⟩ k => by
  subst e
  obtain ⟨v, ev, a, xs, e2, sq, dx⟩ := d.one
  subst ev e2
  refine ⟨a, xs, us, rfl, sq, dx, pl, al, so, dp, fun p ys hp dy => ?_⟩
  obtain ⟨c2, m2⟩ := laidC (o := .lst ys) (c := .lst (us.mergeSort leW)) m hp (newLst dy)
  exact k _ _ _ _ (q p (m.dom hp)) c2 rfl m2
theorem se_sortT {j : Nat} (hr : Room j X.A) (h : SE X e G mu fun w mu1 => sortTW [w] mu1 P) (hm : X.mg "sorted" = none) (hg : Gl X "sorted" := by rfl) (he : starEach [e] X.env = [(false, eval e X.env)] := by rfl) (hpl : (backTo pos (starEach [] X.env)).any (·.1) = false := by rfl) :
    SE X (.Call (.Name "sorted" p) [e] [] pos) G mu P := se_blt (cr_sortedT hr) sortT_w hm (sa_one h he) (by decide +kernel) hg (by decide) (by decide) he hpl
/-- repr of data, where no repr is under way -/
def rReprD (K : PySem.W.Frag) : List V → Hp → VK → Prop := fun vs H Q => ∃ a d, vs = [.ref a] ∧ Dp K H (.ref a) d ∧ d.showable = true ∧ d.hasDict = false ∧ d.depth ≤ 60 ∧ d.shown.length ≤ sizeLine ∧ Q (.str d.shown) H
theorem cr_repr {j : Nat} (hr : Room j X.A) (hg : X.A.guards = some []) : CallR X (.builtin "repr") (rReprD X.K) := by
  intro pins s σ H vs us Q I r ⟨a, d, e, dp, hs, hd, hk, hz, q⟩
  subst e
  cases r with
  | cons ra rn =>
  cases rn
  cases ra
  obtain ⟨as, rd⟩ := Dp.reads I d (.ref a) _ dp rfl
  exact repr_of_reads' rd hs (fun e => by rw [hd] at e; cases e) hg (by have := hr.un; omega) (fun _ _ e => e) (fun h' u tk k => ⟨.str _, H, I.kept (h' := h') (t' := tk) k, ⟨_, rfl⟩, q⟩) hz
def isRef : W → Prop
  | .tup _ => True
  | .fl _ => True
  | .m _ => True
  | _ => False
abbrev reprW (ws : List W) (mu : Mu) (P : PW1) : Prop := ∃ w d, ws = [w] ∧ isRef w ∧ asD mu w = some d ∧ d.showable = true ∧ d.hasDict = false ∧ d.depth ≤ 60 ∧ d.shown.length ≤ sizeLine ∧ P (.str d.shown) mu
theorem repr_w : CallW X (rReprD X.K) reprW := fun ws vs mu H P Q d m ⟨w, dd, e, hi, ha, h1, h2, h3, h4, q⟩ k => by
  subst e
  obtain ⟨v, ev, dv⟩ := d.one
  subst ev
  have dp := asD_ok m dv ha
  have rf : ∃ a, v = .ref a := by
    cases w with
    | tup us => obtain ⟨a, _, e, _⟩ := dv; exact ⟨a, e⟩
    | m a => exact ⟨a, dv⟩
    | non => exact hi.elim
    | bl b => exact hi.elim
    | int i => exact hi.elim
    | str z => exact hi.elim
    | fl us => obtain ⟨a, _, _, e, _⟩ := dv; exact ⟨a, e⟩
    | fd ks us => exact hi.elim
  obtain ⟨a, ea⟩ := rf
  subst ea
  exact ⟨a, dd, rfl, dp, h1, h2, h3, h4, k.now q rfl m⟩
theorem se_repr {j : Nat} (hr : Room j X.A) (hgd : X.A.guards = some []) (h : SE X e G mu fun w mu1 => reprW [w] mu1 P) (hm : X.mg "repr" = none) (hg : Gl X "repr" := by rfl) (he : starEach [e] X.env = [(false, eval e X.env)] := by rfl) (hpl : (backTo pos (starEach [] X.env)).any (·.1) = false := by rfl) :
    SE X (.Call (.Name "repr" p) [e] [] pos) G mu P := se_blt (cr_repr hr hgd) repr_w hm (sa_one h he) (by decide +kernel) hg (by decide) (by decide) he hpl
/-- isinstance(e, C), C a class of the text -/
abbrev isOwnW (C : Addr) (ws : List W) (mu : Mu) (P : PW1) : Prop := ∃ w, ws = [w, .m C] ∧ OthW C mu w ∧ ∀ b, isOwn w = some b → P (.bl b) mu
theorem isOwn_w {C : Addr} (Z : IsCls X.K C) : CallW X (rIsi X.K) (isOwnW C) := fun ws vs mu H P Q d m ⟨w, e, o, q⟩ k => by
  subst e
  obtain ⟨v, v2, ev, d1, d2⟩ := d.two
  have d2 : v2 = .ref C := d2
  subst ev d2
  obtain ⟨t, b, h1, h2, h3⟩ := isOwn_ok Z m d1 o
  exact ⟨v, .ref C, t, .ref C, b, rfl, .own C, h2, h3, k.now (q b h1) rfl m⟩
theorem se_isOwn {q : Pos} {x : Str} {C : Addr} (Z : IsCls X.K C) (hx : X.mg x = some (.ref C)) (h : SE X e G mu fun w mu1 => OthW C mu1 w ∧ ∀ b, isOwn w = some b → P (.bl b) mu1) (hm : X.mg "isinstance" = none)
    (hg : Gl X "isinstance" := by rfl) (hgx : Gl X x := by rfl) (hdx : (x == ("__debug__" : Str)) = false := by decide) (hs : starEach [e, .Name x q] X.env = (false, eval e X.env) :: starEach [.Name x q] X.env := by rfl)
    (hs2 : starEach [.Name x q] X.env = [(false, eval (.Name x q) X.env)] := by rfl) (hpl : (backTo pos (starEach [.Name x q] X.env)).any (·.1) = false := by rfl) : SE X (.Call (.Name "isinstance" p) [e, .Name x q] [] pos) G mu P :=
  se_blt call_isi (isOwn_w Z) hm (sa_two (h.imp fun w mu1 ⟨o, k⟩ => se_glob (w := .m C) (v := .ref C) hx rfl (fun _ _ => rfl) ⟨w, rfl, o, k⟩ hgx hdx) hs hs2) (by decide +kernel) hg (by decide) (by decide) hs hpl
end
end Dv
set_option Elab.async false
set_option linter.all false
set_option maxRecDepth 100000
/-! Defs that ask for repr: their promise where no repr is under way. -/
namespace Dv
open PySem PySem.Spec PyProof.Rows L2
structure FnG (P : Program) (w : World) (K : PySem.W.Frag) (mg : Str → Option Value) (base : Heap) (k : Nat) (f : Addr) (fd : FuncData) (ps : List Str) (sp : Sp) : Prop where
  len : ∀ vs H Q E, sp vs H Q E → vs.length = ps.length
  run : ∀ (A : Around) (outer : List Env) (s : Shared) (H : Hp) (args : Args) (us : List Value) (vs : List V) (Q : VK) (E : XK), Room k A → A.guards = some [] → Env0 P w K mg base A outer s H → BindsTo s fd args (ps.zip us) → Vals vs us → sp vs H Q E → codeAny (model P w) A (.call (.ref f) args) (CR CX0 outer P w H s Q E) s
section
variable {P : Program} {w : World} {K : PySem.W.Frag} {mg : Str → Option Value} {base : Heap}
theorem okG {x qual : Str} {st : Stmt} {f : Addr} {fd : FuncData} {N ps : List Str} {k : Nat} {S : SpW} (F : Fun K x qual st f fd) (Sc : FnScope N ps (defScope st)) (len : ∀ ws mu P, S ws mu P → ws.length = ps.length)
    (body : ∀ (cdv : Value) (A : Around) (outer : List Env) (s : Shared) (H : Hp) (E : XK), Room k (A.deeper (envOfC qual (defScope st) s.heap.objs.size f cdv)) → A.guards = some [] → ∀ ws mu Pt, S ws mu Pt →
      SSs (cxOf CX0 P w K mg base N qual (defScope st) f cdv A outer s H E).nox (defBody st) (startW N ws) mu { nx := fun _ mu' => Pt .non mu', rt := Pt }) : FnG P w K mg base (k + 1) f fd ps (spW K S) := by
  obtain ⟨oc, od, kV, doc, pm, an, cdv, ct, osl, efd, lk, hcd⟩ := F.ex
  subst efd
  have lenV : ∀ vs H Q E, spW K S vs H Q E → vs.length = ps.length := fun vs H Q E ⟨ws, mu, Pt, h, d, _, _⟩ => d.length ▸ len ws mu Pt h
  refine ⟨lenV, fun A outer s H args us vs Q E hr hgd e0 hb r hsp => ?_⟩
  have kin : K.In s.heap := e0.mod.kin.keeps fun b o e => (e0.bs b o e).1
  have nol : s.heap.NoLimit := e0.mod.nolimit.keeps fun b o e => (e0.bs b o e).1
  have kinds : ∀ y ∈ ps.zip us, (defScope st).names.lookup y.1 = some .local ∨ ((defScope st).names.lookup y.1 = some .cell ∧ ((cellsFrom (s.heap.objs.size + 1) (defScope st).names []).lookup y.1).isSome = true) := by
    intro y hy
    obtain ⟨n, v⟩ := y
    exact (Sc.par n (List.of_mem_zip hy).1).imp id fun q => ⟨q, PySem.W.cellsFrom_some _ _ _ (.inl q)⟩
  refine codeAny_call_function hr.depth (kin _ _ lk) rfl Sc.co Sc.gen rfl (PySem.W.codeRec_of kin hcd) (hb _ _ _ _ (wpAny_newFunctionEnv_cells Sc.kind kinds fun env he s1 xx => ?_))
  subst he
  refine ⟨nol.keeps xx.toInCall.keep, codeAny_func ?_⟩
  have I := inv_start (CX := CX0) (E := E) Sc hr.hd e0 (lenV _ _ _ _ hsp) r xx
  obtain ⟨ws, mu, Pt, h, d, m, kk⟩ := hsp
  have said := body cdv A outer s H E (hr.deeper _) hgd ws mu Pt h _ _ { nx := fun _ H' => Q .non H', rt := Q } (start_den d) m ⟨fun σ G mu' H' h' c d' m' => kk .non .non mu' H' h' c rfl m', kk, fun _ _ _ _ h => h.elim, fun _ _ _ _ h => h.elim⟩
  have go := (pssS (X := (cxOf CX0 P w K mg base N qual (defScope st) f cdv A outer s H E).nox) (sts := defBody st)).nox.run [] s1 (start N vs) H _ I said
  refine wpAny_mono go (fun fl s' hs => ?_) fun e s' hs => hs
  have fin : ∀ {σ' : L2.St} {H' : Hp} {v : V} {u : Value}, Inv (cxOf CX0 P w K mg base N qual (defScope st) f cdv A outer s H E) [] σ' H' s' → RelV v u → Q v H' → CE outer P w H s Q u s' := fun {_ _ v _} J rv q => ⟨v, _, J.os, J.bare, J.base, J.hok, rv, q⟩
  cases fl with
  | ret u => obtain ⟨v, σ', H', J, rv, q⟩ := hs; exact fin J rv q
  | next => obtain ⟨σ', H', J, q⟩ := hs; exact fin (v := V.non) (u := Value.none) J rfl q
  | brk => obtain ⟨_, _, _, q⟩ := hs; exact q.elim
  | cont => obtain ⟨_, _, _, q⟩ := hs; exact q.elim
structure DefG (P : Program) (w : World) (K : PySem.W.Frag) (mg : Str → Option Value) (base : Heap) (x : Str) (ps : List Str) (k : Nat) (S : SpW) : Prop where
  ex : ∃ f fd, FnG P w K mg base k f fd ps (spW K S) ∧ mg x = some (.ref f) ∧ PySem.W.keepIn K (.ref f) = true ∧ Binds K fd ps []
theorem dfnG {x : Str} {st : Stmt} {N ps : List Str} {k : Nat} {S : SpW} (D : Dfn K mg x st ps) (Sc : FnScope N ps (defScope st)) (len : ∀ ws mu P, S ws mu P → ws.length = ps.length)
    (body : ∀ (f : Addr) (cdv : Value) (A : Around) (outer : List Env) (s : Shared) (H : Hp) (E : XK), Room k (A.deeper (envOfC x (defScope st) s.heap.objs.size f cdv)) → A.guards = some [] → ∀ ws mu Pt, S ws mu Pt →
      SSs (cxOf CX0 P w K mg base N x (defScope st) f cdv A outer s H E).nox (defBody st) (startW N ws) mu { nx := fun _ mu' => Pt .non mu', rt := Pt }) : DefG P w K mg base x ps (k + 1) S := by
  obtain ⟨f, fd, F, hm, hb⟩ := D.ex
  exact ⟨f, fd, okG F Sc len (body f), hm, F.kp, hb⟩
end
section
variable {X : Cx} {e : Expr} {es : List Expr} {G : Gs} {mu : Mu} {pos p : Pos} {P : PW1}
theorem se_callG {x : Str} {ps : List Str} {k : Nat} {S : SpW} (D : DefG X.prog X.w X.K X.mg X.base x ps k S) (hr : Room k X.A) (hgd : X.A.guards = some []) (h : SA X (e :: es) G mu fun ws mu1 => S ws mu1 P)
    (hg : Gl X x := by rfl) (hdb : (x == ("__debug__" : Str)) = false := by decide) (he : starEach (e :: es) X.env = (false, eval e X.env) :: starEach es X.env := by rfl) (hpl : (backTo pos (starEach es X.env)).any (·.1) = false := by rfl) : SE X (.Call (.Name x p) (e :: es) [] pos) G mu P := by
  obtain ⟨f, fd, F, hm, hk, hb⟩ := D.ex
  intro σ H Q d m kk pins s I
  refine wpAny_Call_Name_kw (ld_glob I hg hm ?_ hdb)
  refine PySem.W.callWith_K (h₀ := X.base) I.ok.mod.kin hk (thn (h σ H (fun vs H1 => spW X.K S vs H1 Q fun _ _ _ => False) d m (fun vs ws mu1 H1 h1 c1 d1 m1 => ⟨ws, mu1, P, h1, d1, m1, kk.step c1⟩) pos pins s I) fun us s1 ⟨vs, H1, I1, r, q⟩ => ⟨I1.kIn, ?_⟩) he hpl
  have hl : (us ++ []).length = ps.length := by rw [List.append_nil, ← r.length]; exact F.len _ _ _ _ q
  have bd := hb s1 us I1.kIn hl
  rw [List.append_nil] at bd
  refine wpAny_call (codeAny_mono (F.run X.A X.stack s1 H1 ⟨us, []⟩ us vs Q _ hr hgd I1.env0 bd r q) fun z s' hq => ?_)
  cases z with
  | error e => exact False.elim hq
  | ok fl => cases fl with
    | ret u => exact I1.after hq
    | next => exact False.elim hq
    | brk => exact False.elim hq
    | cont => exact False.elim hq
end
end Dv
namespace Dv
open PySem PySem.Spec PyProof.Rows L2
/-- != of texts -/
theorem neS_w {X : Cx} : OpW X rNe fun w1 w2 mu P => ∃ i j, w1 = .str i ∧ w2 = .str j ∧ ∀ b, b = (!decide (i = j)) → P (.bl b) mu := fun w1 w2 x y mu H P Q dx dy m ⟨i, j, e1, e2, q⟩ k => by
  subst e1 e2
  have dx : x = .str i := dx
  have dy : y = .str j := dy
  subst dx dy
  refine ⟨rfl, ?_⟩
  have : (!decide (V.str i = V.str j)) = !decide (i = j) := by
    congr 1
    rw [Bool.eq_iff_iff, decide_eq_true_iff, decide_eq_true_iff]
    exact ⟨fun e => by injection e, fun e => by rw [e]⟩
  rw [this]
  exact k.now (q _ rfl) rfl m
theorem ne_self (x : Str) : (!decide (x = x)) = false := by simp
/-- the script: a list of whole numbers among what stood before -/
structure Scr (base : Heap) (a : Addr) (ns : List Int) : Prop where
  ex : ∃ vs : List Value, base.get? a = some { cls := .type "list", data := .seq vs.toArray } ∧ IntsAre vs ns
  few : ns.length ≤ 63
section
variable {X : Cx} {e a b : Expr} {es : List Expr} {G : Gs} {mu : Mu} {pos p : Pos} {P : PW1}
theorem cr_lenB {ad : Addr} {ns : List Int} (S : Scr X.base ad ns) : CallR X (.builtin "len") (fun xs H Q => xs = [.ref ad] ∧ Q (.int (ns.length : Nat)) H) := by
  intro pins s σ H xs us Q I r ⟨e, q⟩
  subst e
  obtain ⟨u, eu, ru⟩ := vals1 r
  subst eu
  cases ru
  obtain ⟨vs, hv, hi⟩ := S.ex
  have e2 := hi.length
  have e3 := S.few
  have il : s.heap.IsList ad vs.toArray := ⟨_, I.bk _ _ hv, rfl, _, rfl⟩
  exact Calls.call_len_list il (by simp only [List.size_toArray]; omega) ⟨.int (ns.length : Nat), H, I.tok _, ⟨_, by simp only [List.size_toArray]; rw [e2]⟩, q⟩
theorem se_lenB {ad : Addr} {ns : List Int} (S : Scr X.base ad ns) (h : SE X e G mu fun w mu1 => w = .m ad ∧ P (.int (ns.length : Nat)) mu1) (hm : X.mg "len" = none) (hg : Gl X "len" := by rfl) (hs : starEach [e] X.env = [(false, eval e X.env)] := by rfl) (hpl : (backTo pos (starEach [] X.env)).any (·.1) = false := by rfl) : SE X (.Call (.Name "len" p) [e] [] pos) G mu P :=
  se_blt (f := fun ws mu P => ws = [.m ad] ∧ P (.int (ns.length : Nat)) mu) (cr_lenB S) (fun ws vs mu H P Q d m ⟨e, q⟩ k => by
    subst e
    obtain ⟨v, ev, dv⟩ := d.one
    have dv : v = .ref ad := dv
    subst ev dv
    exact ⟨rfl, k.now q rfl m⟩) hm (sa_one (h.imp fun w mu1 ⟨e, q⟩ => by subst e; exact ⟨rfl, q⟩) hs) (by decide +kernel) hg (by decide) (by decide) hs hpl
theorem se_ixB {ad : Addr} {ns : List Int} (S : Scr X.base ad ns) (h : SE X a G mu fun w1 mu1 => w1 = .m ad ∧ SE X b G mu1 fun w2 mu2 => ∃ (k : Nat) (i : Int), w2 = .int (k : Nat) ∧ ns[k]? = some i ∧ P (.int i) mu2) (hs : PlainIx b := by exact fun _ _ => rfl) : SE X (.Subscript a b pos) G mu P :=
  SE.mk (pe_ix (r := fun x y H Q => ∃ (k : Nat) (i : Int), x = .ref ad ∧ y = .int (k : Nat) ∧ ns[k]? = some i ∧ Q (.int i) H) (fun value slice pins s σ H x y v u Q I rx ry ⟨k, i, e1, e2, e3, q⟩ hs => by
    subst e1 e2
    cases rx
    obtain ⟨t, et⟩ := ry
    subst et
    obtain ⟨vs, hv, hi⟩ := S.ex
    have lt : k < ns.length := (List.getElem?_eq_some_iff.mp e3).1
    have l2 := hi.length
    have l3 := S.few
    obtain ⟨z, ez, rz⟩ := (vals_ints hi).get (i := k) (x := .int i) (by rw [List.getElem?_map, e3]; rfl)
    have il : s.heap.IsList ad vs.toArray := ⟨_, I.bk _ _ hv, rfl, _, rfl⟩
    exact item_listR il (Int.natCast_nonneg k) (by have : vs.toArray.size = vs.length := List.size_toArray; omega) (by rw [Int.toNat_natCast]; simpa using ez) ⟨.int i, H, I, rz, q⟩ hs) peE peE hs) fun σ H Q d m k => h σ H _ d m fun x w1 mu1 H1 ⟨e1, h1⟩ c1 d1 m1 => h1 σ H1 _ (c1.denG m d) m1 fun y w2 mu2 H2 ⟨kk, i, e2, e3, q⟩ c2 d2 m2 => by
      subst e1 e2
      have d1 : x = .ref ad := d1
      have d2 : y = .int (kk : Nat) := d2
      subst d1 d2
      exact ⟨kk, i, rfl, rfl, e3, (k.step (c1.trans c2)).now q rfl m2⟩
end
section
variable {P : Program} {w : World} {K : PySem.W.Frag} {mg mb : Str → Option Value} {k : Nat} {fa a : Addr} {fd : FuncData} {x : Str} {sp : Sp} {s1 : Shared} {vs : List Value} {ns : List Int}
theorem lawG (KX : K.In s1.heap) (hns : s1.heap.Ns mainGlobals mg) (hb : s1.heap.Ns builtinsNs mb) (hbb : ∀ x : Str, x ≠ "__name__" → mb x = bootBuiltins x) (hlim : s1.heap.NoLimit) (hg : s1.gens = #[])
    (ha : s1.heap.get? a = some { cls := .type "list", data := .seq vs.toArray }) (hi : IntsAre vs ns) (hl : ns.length ≤ 63) (hr : Room k callerA)
    (F : ∀ base : Heap, K.In base → base.Ns mainGlobals mg → Scr base a ns → FnG P w K mg base k fa fd [x] sp) (bd : ∀ (s : Shared) (u : Value), BindsTo s fd ⟨[u], []⟩ [(x, u)])
    (hsp : sp [.ref a] (fun _ => none) (fun v _ => v = .bl true) fun _ _ _ => False) :
    codeAny (model P w) callerA (.call (.ref fa) ⟨[.ref a], []⟩) (fun r s' => r = .ok (.ret (.bool true)) ∧ OldK s1.heap s'.heap ∧ s'.os = s1.os ∧ AllBare s'.gens) s1 := by
  have ok : HOk P w (fun _ => none) s1.heap := fun b u z => nomatch z
  have md : Mod K mg s1.heap := ⟨KX, hns, ⟨mb, hb, hbb⟩, hlim⟩
  have e0 : Env0 P w K mg s1.heap callerA [] s1 (fun _ => none) := { frames := rfl, mod := md, bs := fun b o e => ⟨e, rfl⟩, bsz := Nat.le_refl _, funs := trivial, frf := fun _ _ => rfl, hok := ok, bare := .of_eq hg }
  refine codeAny_mono ((F _ KX hns ⟨⟨vs, ha, hi⟩, hl⟩).run callerA [] s1 _ ⟨[.ref a], []⟩ [.ref a] [.ref a] _ _ hr rfl e0 (bd s1 (.ref a)) (.cons rfl .nil) hsp) fun r s' h => ?_
  cases r with
  | error e => exact False.elim h
  | ok fl => cases fl with
    | next => exact h.elim
    | brk => exact h.elim
    | cont => exact h.elim
    | ret u =>
      obtain ⟨v, H', os, bare, un, ok2, rr, q⟩ := h
      have q : v = .bl true := q
      subst q
      have rr : u = Value.bool true := rr
      subst rr
      exact ⟨rfl, OldK.of_keep fun b o e => un.keep b o e rfl (by intro q; exact absurd (show b ∈ ([] : List Addr) from q) (by simp)) (by simp), os, bare⟩
end
theorem walkG {l : PySem.W.OpenLaw} {k : Nat} {q : Program} {loose : List Str} {XP : (Str → Option Value) → Heap → Prop} {YP : World → Heap → Prop} {d : DefRec} {K : Params → PySem.W.Frag} {S : Addr → SpW} {x : Str}
    (hn : l.most = some 63) (hdf : d.params.defaults = []) (hr : Room k callerA) (hY : ∀ (w : World) (h : Heap), YP w h → (K w.params).In h)
    (F : ∀ (w : World) (mg : Str → Option Value) (fa : Addr) (h : Heap), (K w.params).In h → h.Ns mainGlobals mg → mg d.name = some (.ref fa) → ∃ fd : FuncData, (∀ (s : Shared) (u : Value), BindsTo s fd ⟨[u], []⟩ [(x, u)]) ∧
      ∀ (base : Heap) (a : Addr) (ns : List Int), (K w.params).In base → base.Ns mainGlobals mg → Scr base a ns → FnG l.prog w (K w.params) mg base k fa fd [x] (spW (K w.params) (S a)))
    (hS : ∀ (a : Addr) (P : PW1), (∀ mu', P (.bl true) mu') → S a [.m a] (fun _ => none) P) :
    PySem.W.WalkO q loose XP YP l.row.toRowW d [] (fun f vs => PySem.call f vs) := by
  refine Att.attach_call hn hdf fun w s0 s1 mg mb fa o pm cd doc a vs ns G Y ho hd hcd hmg hobj hints hlen hg => ?_
  have kx := hY w _ Y
  obtain ⟨fd, bd, hF⟩ := F w mg fa _ kx G.T.g hmg
  refine lawG kx G.T.g G.T.b G.T.builtins G.T.nolimit hg hobj hints hlen hr (fun base h1 h2 sc => hF base a ns h1 h2 sc) bd ?_
  refine ⟨[.m a], fun _ => none, fun w _ => w = .bl true, hS a _ fun _ => rfl, ⟨.ref a, [], rfl, rfl, rfl⟩, fun a c z => (nomatch z), fun v w mu' H' e c d m => ?_⟩
  subst e
  exact d
end Dv
set_option Elab.async false
set_option linter.all false
set_option maxRecDepth 100000
namespace K1
open PySem L2 Dv
theorem bit01 (b : Bool) : (if b = true then (1 : Int) else 0).natAbs < 2 ^ 1 := by cases b <;> decide
theorem bitmul (b : Bool) {m A : Int} (h0 : 0 ≤ m) (h1 : m < A) : 0 ≤ m * (if b = true then (1 : Int) else 0) ∧ m * (if b = true then (1 : Int) else 0) < A := by
  cases b
  · simp; omega
  · simp; exact ⟨h0, h1⟩
section
variable {P : Program} {w : World} {K : PySem.W.Frag} {mg : Str → Option Value} {base : Heap}
abbrev s_Ljar : Stmt := top 18
theorem sc_Ljar : FnScope ["_law_script", "_law_k", "_law_cell", "_law_mine"] ["_law_script", "_law_k"] (defScope s_Ljar) := ⟨rfl, rfl, rfl, by decide +kernel, rfl, by decide +kernel, by decide +kernel⟩
def S_jar (a : Addr) : SpW := fun ws mu P => ∃ (k : Nat), ws = [.m a, .int ((k : Nat) : Int)] ∧ k ≤ 3 ∧ ∀ y mu', mu y = none → JarOk mu' y 0 → Ext mu mu' → P (.m y) mu'
theorem d_Ljar {a : Addr} {cells : List Int} (sc : Scr base a cells) (D : Dfn K mg "_law_jar" s_Ljar ["_law_script", "_law_k"]) (B : Bl mg) : DefOk P w K mg base "_law_jar" ["_law_script", "_law_k"] 1 (S_jar a) := by
  refine dfnOk D sc_Ljar (fun ws mu P ⟨k, e, _⟩ => by rw [e]; rfl) (fun f cdv A outer s H E hr ws mu Pt ⟨k, e, k3, h⟩ => ?_)
  subst e
  refine sss_cons ?_
  refine ss_asg ?_
  refine se_if ?_
  refine st_cmp op_lt cmpI_w (nomark _) ?_  -- _law_k < len(_law_script)
  refine se_var (i := 1) rfl ?_  -- _law_k
  refine se_lenB sc ?_ B.len
  refine se_var (i := 0) rfl ?_  -- _law_script
  refine ⟨rfl, ?_⟩
  have body : ∀ cell : Int, SSs (cxOf CX0 P w K mg base ["_law_script", "_law_k", "_law_cell", "_law_mine"] "_law_jar" (defScope s_Ljar) f cdv A outer s H E).nox ((defBody s_Ljar).tail) [some (.m a), some (.int (k : Int)), some (.int cell), none] mu { nx := fun _ mu' => Pt .non mu', rt := Pt } := fun cell => by
    refine sss_cons ?_
    refine ss_asg ?_
    refine se_bin op_Mult Mult_w ?_
    refine se_bin op_Mod Mod_w ?_
    refine se_intC ?_ B.int
    refine se_absC ?_ B.abs
    refine se_var (i := 2) rfl ?_  -- _law_cell
    refine ⟨cell, rfl, ?_⟩
    have hc : ∃ c, c = (if cell < 0 then -cell else cell) := ⟨_, rfl⟩
    obtain ⟨c, hc⟩ := hc
    rw [← hc]
    refine se_bin op_powW PowW_w ?_
    refine se_bin op_Pow Pow_w ?_
    refine se_int ?_  -- 10
    refine se_int ?_  -- 60
    refine ⟨⟨by decide, by decide, by decide⟩, ?_⟩
    refine se_int ?_  -- 5
    refine ⟨⟨by decide, by decide +kernel⟩, ?_⟩
    have e300 : (((10 : Int) ^ (60 : Int).toNat) ^ (5 : Int).toNat) = 10 ^ 300 := by decide +kernel
    rw [e300]
    have p300 : (0 : Int) < 10 ^ 300 := by decide +kernel
    refine ⟨p300, ?_⟩
    have m0 := Int.emod_nonneg c (Int.ne_of_gt p300)
    have m1 := Int.emod_lt_of_pos c p300
    have hm : ∃ m, m = c % 10 ^ 300 := ⟨_, rfl⟩
    obtain ⟨m, hm⟩ := hm
    rw [← hm] at m0 m1 ⊢
    refine se_intC ?_ B.int
    refine se_cmp op_ge cmpI_w (nomark _) ?_  -- abs(_law_cell) >= 10 ** 18
    refine se_absC ?_ B.abs
    refine se_var (i := 2) rfl ?_  -- _law_cell
    refine ⟨cell, rfl, ?_⟩
    refine se_bin op_Pow Pow_w ?_
    refine se_int ?_  -- 10
    refine se_int ?_  -- 18
    refine ⟨⟨by decide, by decide, by decide⟩, ?_⟩
    refine ⟨?_, ?_⟩
    · obtain ⟨n, rfl⟩ : ∃ n : Nat, m = n := ⟨m.toNat, by omega⟩
      have n1 : n < 10 ^ 300 := by
        have e : ((10 ^ 300 : Nat) : Int) = 10 ^ 300 := by decide +kernel
        rw [← e] at m1
        exact Int.ofNat_lt.mp m1
      have n2 : (10 : Nat) ^ 300 ≤ 2 ^ 1000 := by decide +kernel
      exact cmulW 1000 1 (by rw [Int.natAbs_natCast]; exact Nat.lt_of_lt_of_le n1 n2) (bit01 _) (by decide) (by decide) (by decide)
    · refine sg_name (i := 3) ?_ sc_Ljar.nd  -- _law_mine =
      have hmine : ∃ mn, mn = m * (if (decide ((if cell < 0 then -cell else cell) ≥ (10 : Int) ^ (18 : Int).toNat)) = true then 1 else 0) := ⟨_, rfl⟩
      obtain ⟨mn, hmn⟩ := hmine
      rw [← hmn]
      have mn0 : 0 ≤ mn ∧ mn < 10 ^ 300 := by
        rw [hmn]
        exact bitmul _ m0 m1
      refine sss_cons ?_
      refine ss_ret ?_
      refine se_lst ?_
      refine sa_cons ?_
      refine se_var (i := 3) rfl ?_  -- _law_mine
      refine sa_cons ?_
      refine se_bin op_Mod Mod_w ?_
      refine se_intC ?_ B.int
      refine se_bin op_Add Add_w ?_
      refine se_bin op_Add Add_w ?_
      refine se_bin op_Mult Mult_w ?_
      refine se_bin op_Mod Mod_w ?_
      refine se_intC ?_ B.int
      refine se_var (i := 2) rfl ?_  -- _law_cell
      refine se_int ?_  -- 2305843009213693951
      refine ⟨by decide, ?_⟩
      refine se_int ?_  -- 70843
      have r0 := Int.emod_nonneg cell (show (2305843009213693951 : Int) ≠ 0 by decide)
      have r1 := Int.emod_lt_of_pos cell (show (0 : Int) < 2305843009213693951 by decide)
      refine ⟨cmulW 61 17 (by omega) (by decide) (by decide) (by decide) (by decide), ?_⟩
      refine se_bin op_Mult Mult_w ?_
      refine se_bin op_Mult Mult_w ?_
      refine se_int ?_  -- 8521
      refine se_var (i := 1) rfl ?_  -- _law_k
      refine ⟨cmulW 14 2 (by decide) (by omega) (by decide) (by decide) (by decide), ?_⟩
      refine se_var (i := 1) rfl ?_  -- _law_k
      refine ⟨cmulW 16 2 (by omega) (by omega) (by decide) (by decide) (by decide), ?_⟩
      refine se_int ?_  -- 41
      refine se_int ?_  -- 2305843009213693921
      refine ⟨by decide, ?_⟩
      refine sa_cons ?_
      refine se_int ?_  -- 0
      refine sa_nil ?_
      refine ⟨by show 3 ≤ sizeLine; decide, fun y ny => ?_⟩
      have q1 := Int.emod_lt_of_pos (cell % 2305843009213693951 * 70843 + 8521 * (k : Int) * (k : Int) + 41) (show (0 : Int) < 2305843009213693921 by decide)
      have q0 := Int.emod_nonneg (cell % 2305843009213693951 * 70843 + 8521 * (k : Int) * (k : Int) + 41) (show (2305843009213693921 : Int) ≠ 0 by decide)
      exact h y _ ny ⟨_, _, _, setM_same, mn0.1, mn0.2, q0, Int.lt_trans q1 (by decide), Int.le_refl _, Int.le_refl _⟩ (Ext.refl.set ny)
  by_cases hk : (k : Int) < (cells.length : Nat)
  · show if2 (decide ((k : Int) < (cells.length : Nat))) _ _
    rw [decide_eq_true hk]
    refine se_ixB sc ?_  -- _law_script[_law_k]
    refine se_var (i := 0) rfl ?_  -- _law_script
    refine ⟨rfl, ?_⟩
    refine se_var (i := 1) rfl ?_  -- _law_k
    have hk' : k < cells.length := by omega
    refine ⟨k, cells[k], rfl, List.getElem?_eq_getElem hk', ?_⟩
    exact sg_name (i := 2) (body _) sc_Ljar.nd
  · show if2 (decide ((k : Int) < (cells.length : Nat))) _ _
    rw [decide_eq_false hk]
    refine se_bin op_Add Add_w ?_
    refine se_bin op_Mult Mult_w ?_
    refine se_int ?_  -- 29
    refine se_var (i := 1) rfl ?_  -- _law_k
    refine ⟨cmulW 5 2 (by decide) (by omega) (by decide) (by decide) (by decide), ?_⟩
    refine se_int ?_  -- 11
    exact sg_name (i := 2) (body _) sc_Ljar.nd
end
end K1
set_option Elab.async false
set_option linter.all false
set_option maxRecDepth 100000
/-! Texts cut at a separator: for promises of texts that are read back. -/
namespace Dv
open PySem L2
section
variable {X : Cx} {e o : Expr} {G : Gs} {mu : Mu} {pos apos : Pos} {P : PW1}
/-- t.split(sep): a new list of texts -/
theorem se_split (h : SE X o G mu fun w mu1 => ∃ z, w = .str z ∧ SE X e G mu1 fun w2 mu2 => ∃ y, w2 = .str y ∧ (y.length == 0) = false ∧ z.length + 2 ≤ sizeLine ∧ ∀ l, mu2 l = none → P (.m l) (setM mu2 l (.lst ((Txt.split z y).map W.str))))
    (hs : starEach [e] X.env = [(false, eval e X.env)] := by rfl) (hbase : attributeBase o "split" X.env (eval o X.env) = eval o X.env := by rfl) (hline : (apos.endLine == pos.line) = true := by rfl) : SE X (.Call (.Attribute o "split" apos) [e] [] pos) G mu P :=
  SE.mk (pe_split peE peE hs hbase hline) fun σ H Q d m k => h σ H _ d m fun x w mu1 H1 ⟨z, e1, h1⟩ c1 d1 m1 => by
    subst e1
    have d1 : x = .str z := d1
    subst d1
    refine ⟨⟨z, rfl⟩, h1 σ H1 _ (c1.denG m d) m1 fun v w2 mu2 H2 ⟨y, e2, hy, hz, q⟩ c2 d2 m2 => ?_⟩
    subst e2
    have d2 : v = .str y := d2
    subst d2
    refine ⟨z, y, rfl, rfl, hy, hz, fun l hl => ?_⟩
    have dn : DenAll X.K H2 ((Txt.split z y).map W.str) ((Txt.split z y).map V.str) := by
      generalize Txt.split z y = ys
      induction ys with
      | nil => rfl
      | cons t ys ih => exact ⟨_, _, rfl, rfl, ih⟩
    obtain ⟨c3, m3⟩ := laidC (o := .lst ((Txt.split z y).map V.str)) (c := .lst ((Txt.split z y).map W.str)) m2 hl (newLst dn)
    exact (k.step (c1.trans c2)) _ _ _ _ (q l (m2.dom hl)) c3 rfl m3
/-- what was put together with one sign between, cut at it -/
theorem cut_put {s : Nat} (hs : s < 256) {ys : List Str} (ne : ys ≠ []) (h : ∀ y ∈ ys, s ∉ y.cps.toList) : Txt.split (Txt.join ⟨#[s]⟩ ys) ⟨#[s]⟩ = ys :=
  TL.split_join (y := ⟨#[s]⟩) (s := s) (S := []) rfl (by simp [hs]) ne h
end
end Dv
set_option Elab.async false
set_option linter.all false
set_option maxRecDepth 100000
/-! Lists put together; comprehensions of new cells. -/
namespace Dv
open PySem L2
section
variable {X : Cx} {e a b c : Expr} {es : List Expr} {st : Stmt} {sts : List Stmt} {G : Gs} {mu mu' : Mu} {pos : Pos} {P : PW1}
/-! ### as in Dv3, and the new list's own place is told to be free until the end -/
theorem lc_rdN {g : TG} {tt : TT} {te : TE} {tg iter : Expr} {vs : List Nat} {σ : St} {H : Hp} {Q : VK} {P : PW1} (d : DenG X.K H G σ) (m : HM X.K H mu) (k : Kont X.K mu H P Q)
    (h : SI X tg iter G mu fun ws Gm mu1 => ∀ D, mu1 D = none → ∃ I : Nat → List W → Mu → Prop, I 0 [] mu1 ∧ (∀ i acc mu', i ≤ ws.length → I i acc mu' → Gm mu') ∧
      (∀ i w acc mu', ws[i]? = some w → I i acc mu' → acc.length < sizeLine ∧ ∀ (σ' : St) (H' : Hp) (v : V) (R : Option V → Hp → Prop), DenG X.K H' (wipeG G vs) (wipe σ vs) → HM X.K H' mu' → Den X.K H' w v →
        (∀ r y mu4 H4, Chg mu' H' mu4 H4 → HM X.K H4 mu4 → Den X.K H4 r y → I (i + 1) (acc ++ [r]) mu4 → R (some y) H4) → (∀ mu4 H4, Chg mu' H' mu4 H4 → HM X.K H4 mu4 → I (i + 1) acc mu4 → R none H4) →
        g v (wipe σ vs) H' fun σ2 H2 => wipe σ2 vs = wipe σ vs ∧ tt σ2 H2 fun b H3 => if b = true then te σ2 H3 fun y H4 => R (some y) H4 else R none H3) ∧
      ∀ acc mu', I ws.length acc mu' → mu' D = none → P (.m D) (setM mu' D (.lst acc))) : tLc (tI X tg iter) g tt te vs σ H Q := by
  refine h σ H _ d m fun J ws Gm mu1 H1 hI c1 m1 ⟨Gh, Y, wk, hg, hy⟩ D hD => ?_
  obtain ⟨I, i0, ig, it, ie⟩ := hI D (m1.dom hD)
  obtain ⟨c0, m0⟩ := laid (o := .lst []) m1 hD
  have dne : ∀ mu' H', Chg mu1 H1 mu' H' → ∀ b o, H1 b = some o → b ≠ D := fun _ _ _ b o e => ne_of_none e hD
  refine lc_it wk (fun i H' => ∃ acc mu' xs, I i acc mu' ∧ H' D = some (.lst xs) ∧ DenAll X.K H' acc xs ∧ mu' D = none ∧ HM X.K H' mu' ∧ Chg mu1 H1 mu' H') ⟨[], mu1, [], i0, upd_same, rfl, m1.dom hD, m0, c0⟩
    (fun i H' hi ⟨acc, mu', xs, q, _, _, _, m2, c2⟩ => hg mu' H' c2 m2 (ig i acc mu' hi q)) (fun i x H' H'' hi ⟨acc, mu', xs, q, hx, dx, nD, m2, c2⟩ y => ?_) fun H' ⟨acc, mu', xs, q, hx, dx, nD, m2, c2⟩ => ?_
  · obtain ⟨w, hw, c3, m3, d3⟩ := hy i H' x H'' mu' hi c2 m2 (ig i acc mu' (Nat.le_of_lt hi) q) y
    obtain ⟨hl, hh⟩ := it i w acc mu' hw q
    have dw : DenG X.K H'' (wipeG G vs) (wipe σ vs) := c3.denG m2 (c2.denG m1 (c1.denG m (wipeG_den d vs)))
    refine hh σ H'' x (fun oy H4 => match oy with
      | some y => ∃ acc', H4 D = some (.lst acc') ∧ acc'.length < sizeLine ∧ ∃ acc mu' xs, I (i + 1) acc mu' ∧ (upd H4 D (.lst (acc' ++ [y]))) D = some (.lst xs) ∧ DenAll X.K (upd H4 D (.lst (acc' ++ [y]))) acc xs ∧ mu' D = none ∧ HM X.K (upd H4 D (.lst (acc' ++ [y]))) mu' ∧ Chg mu1 H1 mu' (upd H4 D (.lst (acc' ++ [y])))
      | none => ∃ acc mu' xs, I (i + 1) acc mu' ∧ H4 D = some (.lst xs) ∧ DenAll X.K H4 acc xs ∧ mu' D = none ∧ HM X.K H4 mu' ∧ Chg mu1 H1 mu' H4) dw m3 d3 (fun r y mu4 H4 c4 m4 d4 q4 => ?_) fun mu4 H4 c4 m4 q4 => ?_
    · have hx3 := c3.keep _ _ hx nD
      have nD3 := nD
      have hx4 := c4.keep _ _ hx3 nD
      have nD4 := c4.new _ _ hx3 nD
      have dx4 := c4.denAll m3 (c3.denAll m2 dx)
      have sq0 : ∀ a ys, SqT X.K H4 a ys → SqT X.K (upd H4 D (.lst (xs ++ [y]))) a ys := fun a ys s => by
        rcases s with (s | ⟨o, s⟩) | s
        · exact .inl (.inl (by rw [upd_ne (ne_of s hx4 (by intro z; cases z))]; exact s))
        · exact .inl (.inr ⟨o, by rw [upd_ne (ne_of s hx4 (by intro z; cases z))]; exact s⟩)
        · exact .inr s
      have sq : Kps X.K H4 (upd H4 D (.lst (xs ++ [y]))) := ⟨sq0, fun a o u s => by rw [upd_ne (ne_of s hx4 (by intro z; cases z))]; exact s⟩
      refine ⟨xs, hx4, by rw [← dx4.length]; exact hl, acc ++ [r], mu4, xs ++ [y], q4, upd_same, DenAll.append (DenAll.mono sq _ dx4) ⟨y, [], rfl, Den.mono sq _ d4, rfl⟩, nD4, fun a cc ha => CellOk.mono sq (m4 a cc ha) (upd_ne fun z => by subst z; rw [nD4] at ha; cases ha), ?_⟩
      have cc := (c2.trans c3).trans c4
      exact ⟨fun b o e n => by rw [upd_ne (ne_of_none e hD)]; exact cc.keep b o e n, cc.old, cc.new⟩
    · have hx3 := c3.keep _ _ hx nD
      have hx4 := c4.keep _ _ hx3 nD
      exact ⟨acc, mu4, xs, q4, hx4, c4.denAll m3 (c3.denAll m2 dx), c4.new _ _ hx3 nD, m4, (c2.trans c3).trans c4⟩
  · refine k (.ref D) (.m D) (setM mu' D (.lst acc)) H' (ie acc mu' q nD) (c1.trans ⟨c2.keep, fun b cc e => ?_, fun b o e n => ?_⟩) rfl fun a cc ha => ?_
    · by_cases z : b = D
      · subst z; exact ⟨_, setM_same⟩
      · rw [setM_ne z]; exact c2.old b cc e
    · rw [setM_ne (ne_of_none e hD)]
      exact c2.new b o e n
    · by_cases z : a = D
      · subst z
        rw [setM_same] at ha
        cases ha
        exact ⟨xs, hx, dx⟩
      · rw [setM_ne z] at ha
        exact m2 a cc ha
abbrev lcPostN (B : (Cx → Prop) → Prop) (T : Tg) (elt : Expr) (vs : List Nat) (G : Gs) (P : PW1) : List W → (Mu → Prop) → Mu → Prop := fun ws Gm mu1 => ∀ D, mu1 D = none → ∃ I : Nat → List W → Mu → Prop, I 0 [] mu1 ∧ (∀ i acc mu', i ≤ ws.length → I i acc mu' → Gm mu') ∧
  (∀ i w acc mu', ws[i]? = some w → I i acc mu' → acc.length < sizeLine ∧ ∃ G2, T.bind w (wipeG G vs) = some G2 ∧ B fun Y => SE Y elt G2 mu' fun r mu4 => I (i + 1) (acc ++ [r]) mu4) ∧ ∀ acc mu', I ws.length acc mu' → mu' D = none → P (.m D) (setM mu' D (.lst acc))
theorem lc_tur0N {scope : Scope} {own : List (Str × Nat)} {tg iter elt : Expr} (T : Tg) {P : PW1} {σ : St} {H : Hp} {Q : VK} (ha : T.all (fun i => decide (i ∈ own.map (·.2))) = true) (d : DenG X.K H G σ) (m : HM X.K H mu) (k : Kont X.K mu H P Q)
    (h : SI X tg iter G mu (lcPostN (InBlk X scope) T elt (own.map (·.2)) G P)) :
    tLc (tI X tg iter) (gT X.K T) tYes (fun σ2 H2 Q2 => ∀ (s : Shared) (H : Hp) (C : Addr) (cl : List (Str × Addr)) (fp : List Addr), tE (X.blk s H scope (compEnvC scope cl C X.env) fp) elt σ2 H2 Q2) (own.map (·.2)) σ H Q := by
  refine lc_rdN d m k (fun σ0 H0 R d0 m0 kk => h σ0 H0 R d0 m0 fun J ws Gm mu1 H1 hI c1 m1 iw => kk J ws Gm mu1 H1 (fun D hD => ?_) c1 m1 iw)
  obtain ⟨I, i0, ig, it, ie⟩ := hI D hD
  refine ⟨I, i0, ig, fun i w acc mu' hw q => ?_, ie⟩
  obtain ⟨hl, G2, hb, he⟩ := it i w acc mu' hw q
  refine ⟨hl, fun σ' H' v R dw m3 dv r1 r2 => gT_run T hb ha dw dv fun σ2 d2 e2 => ⟨e2.trans wipe_wipe, iteT (B := R none H') fun s Hs C cl fp => he s Hs C cl fp σ2 H' _ d2 m3 fun y r mu4 H4 q4 c4 d4 m4 => r1 r y mu4 H4 c4 m4 d4 q4⟩⟩
theorem se_lcN {scope : Scope} {own : List (Str × Nat)} {tg iter elt : Expr} (T : Tg) (hc : X.calm = true) (hN : X.N.Nodup) (ok : BlkOk X.N X.env.scope scope own) (ha : T.all (fun i => decide (i ∈ own.map (·.2))) = true)
    (hg : ∀ (s : Shared) (H : Hp) (C : Addr) (cl : List (Str × Addr)) (fp : List Addr), PG (X.blk s H scope (compEnvC scope cl C X.env) fp) tg (gT X.K T)) (hs : ∀ x, foldedSetIterable iter X.env x = pure x)
    (h : SI X tg iter G mu (lcPostN (InBlk X scope) T elt (own.map (·.2)) G P)) : SE X (.ListComp elt [⟨tg, iter, [], 0⟩] scope pos) G mu P :=
  SE.mk (pe_lc hc hN piI ok hg (fun _ _ _ _ _ => pts_nil) (fun s H C cl fp => ⟨fun pins s' σ H' Q I h => h s H C cl fp pins s' I⟩) hs) fun σ H Q d m k => lc_tur0N T ha d m k h

/-- a comprehension whose items are new lists, by a function of the items -/
theorem lc_rows {mu1 : Mu} {B : (Cx → Prop) → Prop} {T : Tg} {vs : List Nat} {elt : Expr} {ws : List W} {Gm : Mu → Prop} (g : W → List W) (hG : ∀ mu', Ext mu1 mu' → Gm mu') (hl : ws.length ≤ sizeLine)
    (hs : ∀ w mu', w ∈ ws → Ext mu1 mu' → ∃ G2, T.bind w (wipeG G vs) = some G2 ∧ B fun Y => SE Y elt G2 mu' fun r mu4 => Ext mu' mu4 ∧ ∃ a, r = .m a ∧ mu1 a = none ∧ mu4 a = some (.lst (g w)))
    (hB : ∀ {p q : Cx → Prop}, (∀ Y, p Y → q Y) → B p → B q)
    (hd : ∀ D mu' (rs : List (Addr × W)), mu1 D = none → mu' D = none → Ext mu1 mu' → rs.map (·.2) = ws → (∀ r ∈ rs, mu' r.1 = some (.lst (g r.2)) ∧ mu1 r.1 = none) → P (.m D) (setM mu' D (.lst (rs.map fun r => .m r.1)))) : lcPostN B T elt vs G P ws Gm mu1 := by
  intro D hD
  refine ⟨fun i acc mu' => ∃ rs : List (Addr × W), acc = rs.map (fun r => .m r.1) ∧ rs.map (·.2) = ws.take i ∧ (∀ r ∈ rs, mu' r.1 = some (.lst (g r.2)) ∧ mu1 r.1 = none) ∧ Ext mu1 mu', ⟨[], rfl, rfl, fun r hr => (by cases hr), Ext.refl⟩,
    fun i acc mu' _ ⟨rs, _, _, _, ex⟩ => hG mu' ex, fun i w acc mu' hw ⟨rs, ea, er, hr, ex⟩ => ?_, fun acc mu' ⟨rs, ea, er, hr, ex⟩ hn => ?_⟩
  · have hi : i < ws.length := (List.getElem?_eq_some_iff.mp hw).1
    have l1 : rs.length ≤ i := by
      have := congrArg List.length er
      rw [List.length_map, List.length_take] at this
      omega
    refine ⟨by rw [ea, List.length_map]; omega, ?_⟩
    obtain ⟨G2, h1, h2⟩ := hs w mu' (List.mem_of_getElem? hw) ex
    refine ⟨G2, h1, hB (fun Y hY => hY.imp fun r mu4 ⟨e4, a, e5, h6, h7⟩ => ?_) h2⟩
    refine ⟨rs ++ [(a, w)], by rw [ea, e5, List.map_append]; rfl, by rw [List.map_append, er, List.take_add_one, hw]; rfl, fun q hq => ?_, ex.trans e4⟩
    rcases List.mem_append.mp hq with hq | hq
    · exact ⟨e4 _ _ (hr q hq).1, (hr q hq).2⟩
    · rw [List.mem_singleton.mp hq]; exact ⟨h7, h6⟩
  · subst ea
    rw [List.take_length] at er
    exact hd D mu' rs hD hn ex er hr
abbrev catLV (w1 w2 : W) (mu : Mu) (P : PW1) : Prop := ∃ a b us zs, w1 = .m a ∧ w2 = .m b ∧ mu a = some (.lst us) ∧ mu b = some (.lst zs) ∧ us.length + zs.length ≤ sizeLine ∧ ∀ q, mu q = none → P (.m q) (setM mu q (.lst (us ++ zs)))
theorem catL_w : OpW X rCat catLV := fun w1 w2 x y mu H P Q dx dy m ⟨a, b, us, zs, e1, e2, h1, h2, hl, q⟩ k => by
  subst e1 e2
  have dx : x = .ref a := dx
  have dy : y = .ref b := dy
  subst dx dy
  obtain ⟨xs, hx, d1⟩ := m a _ h1
  obtain ⟨ys, hy, d2⟩ := m b _ h2
  refine ⟨a, b, xs, ys, rfl, rfl, hx, hy, by rw [← d1.length, ← d2.length]; exact hl, fun p hp => ?_⟩
  obtain ⟨c2, m2⟩ := laidC (o := .lst (xs ++ ys)) (c := .lst (us ++ zs)) m hp (newLst (DenAll.append d1 d2))
  exact k _ _ _ _ (q p (m.dom hp)) c2 rfl m2
end
end Dv
set_option Elab.async false
set_option linter.all false
set_option maxRecDepth 100000
/-! A def of one parameter, called by its name. -/
namespace Dv
open PySem PySem.Spec PyProof.Rows L2
structure DefKw (P : Program) (w : World) (K : PySem.W.Frag) (mg : Str → Option Value) (base : Heap) (x nm : Str) (k : Nat) (S : SpW) : Prop where
  ex : ∃ f fd, FnOk P w K mg base CX0 k f fd [nm] (spW K S) ∧ mg x = some (.ref f) ∧ PySem.W.keepIn K (.ref f) = true ∧ ∀ (s : Shared) (u : Value), BindsTo s fd ⟨[], [(nm, u)]⟩ [(nm, u)]
section
variable {X : Cx} {e : Expr} {G : Gs} {mu : Mu} {pos p kpos : Pos} {P : PW1}
theorem se_kw1 {x nm : Str} {k : Nat} {S : SpW} (D : DefKw X.prog X.w X.K X.mg X.base x nm k S) (hr : Room k X.A) (h : SE X e G mu fun w mu1 => S [w] mu1 P)
    (hg : Gl X x := by rfl) (hdb : (x == ("__debug__" : Str)) = false := by decide) (hall : (backToKw pos (keywordEach [⟨some nm, e, kpos⟩] X.env)).all (·.1.isSome) = true := by rfl) (hks : (backToKw pos (keywordEach [⟨some nm, e, kpos⟩] X.env)).filterMap (·.1) = [nm] := by rfl)
    (hpl : ((backTo pos (starEach [] X.env)).any (·.1) || (backToKw pos (keywordEach [⟨some nm, e, kpos⟩] X.env)).any (·.1.isNone)) = false := by rfl) : SE X (.Call (.Name x p) [] [⟨some nm, e, kpos⟩] pos) G mu P := by
  obtain ⟨f, fd, F, hm, hk, hb⟩ := D.ex
  intro σ H Q d m kk pins s I
  refine wpAny_Call_Name_kw (ld_glob I hg hm ?_ hdb)
  have pk : PK X [⟨some nm, e, kpos⟩] (tCons (tE X e) tNil) := pk_cons peE pk_nil
  refine PySem.W.callWith_KW0 (h₀ := X.base) I.ok.mod.kin hk hall (thn (pk.run pos pins s σ H (fun vs H1 => spW X.K S vs H1 Q fun _ _ _ => False) I ?_) fun us s1 ⟨vs, H1, I1, r, q⟩ => ⟨I1.kIn, ?_⟩) hpl
  · exact h σ H _ d m fun v w mu1 H1 h1 c1 d1 m1 => ⟨[w], mu1, P, h1, ⟨v, [], rfl, d1, rfl⟩, m1, kk.step c1⟩
  · rw [hks]
    have hl : us.length = 1 := by rw [← r.length]; exact F.len _ _ _ _ q
    obtain ⟨u, rfl⟩ : ∃ u, us = [u] := by
      match us, hl with
      | [u], _ => exact ⟨u, rfl⟩
    refine wpAny_call (codeAny_mono (F.run X.A X.stack s1 H1 ⟨[], [(nm, u)]⟩ [u] vs Q _ hr I1.env0 (hb s1 u) r q) fun z s' hq => ?_)
    cases z with
    | error e => exact False.elim hq
    | ok fl => cases fl with
      | ret u => exact I1.after hq
      | next => exact False.elim hq
      | brk => exact False.elim hq
      | cont => exact False.elim hq
end
end Dv
set_option Elab.async false
set_option linter.all false
set_option maxRecDepth 100000
/-! Stars over lists, f-strings, is None, bools compared, a global tuple of texts and its index, dict comprehensions of new cells. -/
namespace Dv
open PySem L2
section
variable {X : Cx} {e a b c : Expr} {es : List Expr} {st : Stmt} {sts : List Stmt} {G : Gs} {mu mu' : Mu} {pos p apos cpos : Pos} {P : PW1}
/-- a star over a list cell -/
theorem sa_starL {P : List W → Mu → Prop} {p : Pos} (h : SE X e G mu fun w mu1 => ∃ a us, w = .m a ∧ mu1 a = some (.lst us) ∧ SA X es G mu1 fun ws mu2 => P (us ++ ws) mu2) (hs : starEach (.Starred e p :: es) X.env = (true, eval e X.env) :: starEach es X.env := by rfl) : SA X (.Starred e p :: es) G mu P :=
  SA.mk (StX.pa_star peE paA hs) fun σ H Q d m k => h σ H _ d m fun v w mu1 H1 ⟨a, us, e1, e2, h1⟩ c1 d1 m1 => by
    subst e1
    have d1 : v = .ref a := d1
    obtain ⟨xs, hx, dx⟩ := m1 a _ e2
    exact ⟨a, xs, d1, .inr (SqL.of hx), h1 σ H1 _ (c1.denG m d) m1 fun vs ws mu2 H2 h2 c2 d2 m2 => k _ _ _ _ h2 (c1.trans c2) (DenAll.append (c2.denAll m1 dx) d2) m2⟩
/-! f-strings -/
theorem se_fmt (h : SE X e G mu fun w mu1 => (∃ y, w = .str y ∧ y.length ≤ sizeLine ∧ P (.str y) mu1) ∨ ∃ i : Int, w = .int i ∧ i.natAbs.log2 < 1920 ∧ P (.str (toString i)) mu1) : SE X (.FormattedValue e (-1) none pos) G mu P :=
  SE.mk (pe_fmt peE) fun σ H Q d m k => h σ H _ d m fun v w mu1 H1 h1 c1 d1 m1 => by
    rcases h1 with ⟨y, rfl, hl, q⟩ | ⟨i, rfl, hl, q⟩
    · exact .inl ⟨y, d1, hl, k _ _ _ _ q c1 rfl m1⟩
    · exact .inr ⟨i, d1, hl, k _ _ _ _ q c1 rfl m1⟩
def SJs (X : Cx) : List Expr → Str → Gs → Mu → (Str → Mu → Prop) → Prop
  | [], acc, _, mu, Post => Post acc mu
  | e :: es, acc, G, mu, Post => SE X e G mu fun w mu1 => ∃ y, w = .str y ∧ (acc ++ y).length ≤ sizeLine ∧ SJs X es (acc ++ y) G mu1 Post
theorem pj_all : ∀ es : List Expr, PJ X es (es.map fun e => tE X e)
  | [] => .nil
  | _ :: es => .cons peE (pj_all es)
theorem sjs_rd : ∀ (es : List Expr) {acc : Str} {mu : Mu} {σ : St} {H : Hp} {Post : Str → Mu → Prop} {Q : Str → Hp → Prop}, SJs X es acc G mu Post → DenG X.K H G σ → HM X.K H mu →
    (∀ y mu' H', Post y mu' → Chg mu H mu' H' → HM X.K H' mu' → Q y H') → tJs (es.map fun e => tE X e) acc σ H Q
  | [], acc, mu, σ, H, Post, Q, h, d, m, k => k acc mu H h Chg.refl m
  | e :: es, acc, mu, σ, H, Post, Q, h, d, m, k => by
    show tE X e σ H _
    refine (show SE X e G mu _ from h) σ H _ d m fun v w mu1 H1 ⟨y, e1, hl, h1⟩ c1 d1 m1 => ?_
    subst e1
    exact ⟨y, d1, hl, sjs_rd es h1 (c1.denG m d) m1 fun z mu2 H2 h2 c2 m2 => k z mu2 H2 h2 (c1.trans c2) m2⟩
theorem se_joined {v1 v2 : Expr} {rest : List Expr} (h : SJs X (v1 :: v2 :: rest) Str.empty G mu fun y mu1 => P (.str y) mu1) : SE X (.JoinedStr (v1 :: v2 :: rest) pos) G mu P :=
  SE.mk (pe_joined (pj_all _)) fun σ H Q d m k => sjs_rd _ h d m fun y mu1 H1 h1 c1 m1 => k _ _ _ _ h1 c1 rfl m1
/-! is None; bools and ints and texts compared -/
def isNo : W → Bool
  | .non => true
  | _ => false
theorem isNo_den {K : PySem.W.Frag} {H : Hp} {w : W} {x : V} (d : Den K H w x) : decide (x = V.non) = isNo w := by
  cases w with
  | non => have d : x = _ := d; subst d; rfl
  | bl b => have d : x = _ := d; subst d; rfl
  | int i => have d : x = _ := d; subst d; rfl
  | str z => have d : x = _ := d; subst d; rfl
  | m a => have d : x = _ := d; subst d; rfl
  | tup ws => obtain ⟨a, xs, e, _⟩ := d; subst e; rfl
  | fl ws => obtain ⟨a, o, xs, e, _⟩ := d; subst e; rfl
  | fd ks ws => obtain ⟨a, o, xs, e, _⟩ := d; subst e; rfl
theorem isN_w : OpW X (fun x y H Q => y = .non ∧ Q (.bl (decide (x = .non))) H) fun w1 w2 mu P => w2 = .non ∧ ∀ b, b = isNo w1 → P (.bl b) mu := fun w1 w2 x y mu H P Q dx dy m ⟨e, q⟩ k => by
  subst e
  have dy : y = .non := dy
  exact ⟨dy, by rw [isNo_den dx]; exact k.now (q _ rfl) rfl m⟩
theorem notN_w : OpW X (fun x y H Q => y = .non ∧ Q (.bl (!decide (x = .non))) H) fun w1 w2 mu P => w2 = .non ∧ ∀ b, b = (!isNo w1) → P (.bl b) mu := fun w1 w2 x y mu H P Q dx dy m ⟨e, q⟩ k => by
  subst e
  have dy : y = .non := dy
  exact ⟨dy, by rw [isNo_den dx]; exact k.now (q _ rfl) rfl m⟩
theorem neB_w : OpW X rNe fun w1 w2 mu P => ∃ i j, w1 = .bl i ∧ w2 = .bl j ∧ ∀ b, b = (i != j) → P (.bl b) mu := fun w1 w2 x y mu H P Q dx dy m ⟨i, j, e1, e2, q⟩ k => by
  subst e1 e2
  have dx : x = .bl i := dx
  have dy : y = .bl j := dy
  subst dx dy
  refine ⟨rfl, ?_⟩
  rw [dec_bl]
  exact k.now (q _ rfl) rfl m
theorem eqT_w : OpW X rEq fun w1 w2 mu P => ∃ i j, w1 = .str i ∧ w2 = .str j ∧ ∀ b, b = decide (i = j) → P (.bl b) mu := fun w1 w2 x y mu H P Q dx dy m ⟨i, j, e1, e2, q⟩ k => by
  subst e1 e2
  have dx : x = .str i := dx
  have dy : y = .str j := dy
  subst dx dy
  refine ⟨rfl, ?_⟩
  have : decide (V.str i = V.str j) = decide (i = j) := by
    rw [Bool.eq_iff_iff, decide_eq_true_iff, decide_eq_true_iff]
    exact ⟨fun e => by injection e, fun e => by rw [e]⟩
  rw [this]
  exact k.now (q _ rfl) rfl m
theorem eqN_w : OpW X rEq fun w1 w2 mu P => ∃ i j, w1 = .int i ∧ w2 = .int j ∧ ∀ b, b = (i == j) → P (.bl b) mu := fun w1 w2 x y mu H P Q dx dy m ⟨i, j, e1, e2, q⟩ k => by
  subst e1 e2
  have dx : x = .int i := dx
  have dy : y = .int j := dy
  subst dx dy
  refine ⟨rfl, ?_⟩
  rw [dec_int]
  exact k.now (q _ rfl) rfl m
theorem cmpN_w {g : Int → Int → Bool} : OpW X (rI0 fun i j => V.bl (g i j)) fun w1 w2 mu P => ∃ i j, w1 = .int i ∧ w2 = .int j ∧ ∀ b, b = g i j → P (.bl b) mu := fun w1 w2 x y mu H P Q dx dy m ⟨i, j, e1, e2, q⟩ k => by
  subst e1 e2
  exact cmpI_w (.int i) (.int j) x y mu H P Q dx dy m (q _ rfl) k
/-! a global tuple of texts -/
structure KTup (K : PySem.W.Frag) (mg : Str → Option Value) (x : Str) (ys : List Str) : Prop where
  ex : ∃ a o its n, mg x = some (.ref a) ∧ K.lookup a = some o ∧ o.cls = .type "tuple" ∧ o.dict = none ∧ o.data = .seq its n ∧ its.size ≤ sizeLine ∧ Vals (ys.map V.str) its.toList
theorem den_strs {K : PySem.W.Frag} {H : Hp} : ∀ ys : List Str, DenAll K H (ys.map W.str) (ys.map V.str)
  | [] => rfl
  | _ :: ys => ⟨_, _, rfl, rfl, den_strs ys⟩
theorem se_globT {x : Str} {ys : List Str} (T : KTup X.K X.mg x ys) (h : P (.tup (ys.map W.str)) mu) (hg : Gl X x := by rfl) (hd : (x == ("__debug__" : Str)) = false := by decide) : SE X (.Name x pos) G mu P := by
  obtain ⟨a, o, its, n, hm, hk, hc, _, hs, hz, r⟩ := T.ex
  exact SE.mk (pe_glob hg hm (v := .ref a) rfl hd) fun σ H Q d m k => k.now h ⟨a, _, rfl, .inr ⟨o, its, n, hk, hc, hs, hz, r⟩, den_strs ys⟩ m
theorem se_globIndex {x : Str} {ys : List Str} (T : KTup X.K X.mg x ys) (h : SE X e G mu fun w mu1 => ∃ z j, w = .str z ∧ ys[j]? = some z ∧ (∀ m, m < j → ys[m]? ≠ some z) ∧ P (.int (j : Nat)) mu1) (hg : Gl X x := by rfl) (hd : (x == ("__debug__" : Str)) = false := by decide)
    (hb : attributeBase (.Name x p) "index" X.env (eval (.Name x p) X.env) = eval (.Name x p) X.env := by rfl) (hq : (((backTo cpos (starEach [e] X.env)).all fun x => !x.1) && (backToKw cpos (keywordEach [] X.env)).all (fun x => x.1.isSome) && decide (([e].length + ([] : List Keyword).length + if ([] : List Keyword).isEmpty = true then 0 else 1) < 30)) = true := by rfl)
    (hl : (apos.endLine == cpos.line) = true := by rfl) (he : starEach [e] X.env = (false, eval e X.env) :: starEach [] X.env := by rfl) (hpl : (backTo cpos (starEach [] X.env)).any (·.1) = false := by rfl) : SE X (.Call (.Attribute (.Name x p) "index" apos) [e] [] cpos) G mu P := by
  obtain ⟨a, o, its, n, hm, hk, hc, hdc, hs, hz, r⟩ := T.ex
  refine SE.mk (pe_bm PySem.F.plainAttrs_tuple PySem.F.slot_tuple_index PySem.F.type_tuple_index mt_tup_index (pe_glob hg hm (v := .ref a) rfl hd) (pa_cons peE pa_nil he) hb hq hl he hpl) fun σ H Q d m k => ?_
  refine ⟨.inr (.inl ⟨rfl, o, hk, hc, hdc⟩), ?_⟩
  refine h σ H _ d m fun v w mu1 H1 ⟨z, j, e1, h1, h2, h3⟩ c1 d1 m1 => ?_
  subst e1
  have d1 : v = .str z := d1
  subst d1
  exact ⟨a, ys, z, j, rfl, rfl, .inr ⟨o, its, n, hk, hc, hs, hz, r⟩, h1, h2, k _ _ _ _ h3 c1 rfl m1⟩
/-! a dict comprehension, and the new dict's own place is told to be free until the end -/
abbrev dcPostN (B : (Cx → Prop) → Prop) (T : Tg) (kx vx : Expr) (vs : List Nat) (G : Gs) (P : PW1) : List W → (Mu → Prop) → Mu → Prop := fun ws Gm mu1 => ∀ D, mu1 D = none → ∃ I : Nat → List (Key × W) → Mu → Prop, I 0 [] mu1 ∧ (∀ i acc mu', i ≤ ws.length → I i acc mu' → Gm mu') ∧
  (∀ i w acc mu', ws[i]? = some w → I i acc mu' → acc.length < sizeLine ∧ (acc.map (·.1)).Nodup ∧ ∃ G2, T.bind w (wipeG G vs) = some G2 ∧ B fun Y => SE Y kx G2 mu' fun kw mu3 => ∃ k, keyOf kw = some k ∧ B fun Z => SE Z vx G2 mu3 fun r mu4 => I (i + 1) (putW acc k r) mu4) ∧
  ∀ acc mu', I ws.length acc mu' → mu' D = none → P (.m D) (setM mu' D (.dic acc))
theorem dc_rdN {scope : Scope} {own : List (Str × Nat)} {tg iter kx vx : Expr} (T : Tg) {P : PW1} {σ : St} {H : Hp} {Q : VK} (ha : T.all (fun i => decide (i ∈ own.map (·.2))) = true) (d : DenG X.K H G σ) (m : HM X.K H mu) (k : Kont X.K mu H P Q)
    (h : SI X tg iter G mu (dcPostN (InBlk X scope) T kx vx (own.map (·.2)) G P)) :
    tDc (tI X tg iter) (gT X.K T) tYes (fun σ2 H2 Q2 => ∀ (s : Shared) (H : Hp) (C : Addr) (cl : List (Str × Addr)) (fp : List Addr), tE (X.blk s H scope (compEnvC scope cl C X.env) fp) kx σ2 H2 Q2)
      (fun σ2 H2 Q2 => ∀ (s : Shared) (H : Hp) (C : Addr) (cl : List (Str × Addr)) (fp : List Addr), tE (X.blk s H scope (compEnvC scope cl C X.env) fp) vx σ2 H2 Q2) (own.map (·.2)) σ H Q := by
  refine h σ H _ d m fun J ws Gm mu1 H1 hI c1 m1 ⟨Gh, Y, wk, hg, hy⟩ D hD => ?_
  obtain ⟨I, i0, ig, it, ie⟩ := hI D (m1.dom hD)
  obtain ⟨c0, m0⟩ := laid (o := .dK []) m1 hD
  refine ⟨fun i n H' => n = ws.length - i ∧ i ≤ ws.length ∧ ∃ acc mu' xs, I i acc mu' ∧ H' D = some (.dK xs) ∧ DKV X.K H' acc xs ∧ mu' D = none ∧ HM X.K H' mu' ∧ Chg mu1 H1 mu' H',
    ⟨ws.length, by simp, Nat.zero_le _, [], mu1, [], i0, upd_same, ⟨rfl, rfl⟩, m1.dom hD, m0, c0⟩, ?_⟩
  rintro i n H' ⟨rfl, hi, acc, mu', xs, q, hx, dx, nD, m2, c2⟩
  have gh := hg mu' H' c2 m2 (ig i acc mu' hi q)
  by_cases hlt : i < ws.length
  · refine .inr ⟨wk.goes i H' hlt gh, fun H' => ∃ acc mu' xs, I (i + 1) acc mu' ∧ H' D = some (.dK xs) ∧ DKV X.K H' acc xs ∧ mu' D = none ∧ HM X.K H' mu' ∧ Chg mu1 H1 mu' H', fun H'' hN => ⟨ws.length - (i + 1), by omega, rfl, hlt, hN⟩, fun x H'' y => ?_⟩
    obtain ⟨w, hw, c3, m3, d3⟩ := hy i H' x H'' mu' hlt c2 m2 (ig i acc mu' hi q) (wk.yields i H' x H'' hlt gh y)
    obtain ⟨hl, hn, G2, hb, he⟩ := it i w acc mu' hw q
    have dw : DenG X.K H'' (wipeG G (own.map (·.2))) (wipe σ (own.map (·.2))) := c3.denG m2 (c2.denG m1 (c1.denG m (wipeG_den d _)))
    refine gT_run T hb ha dw d3 fun σ2 d2 e2 => ⟨e2.trans wipe_wipe, ?_⟩
    simp only [tYes, if_true]
    intro s Hs C cl fp
    refine he s Hs C cl fp σ2 H'' _ d2 m3 fun kv kw mu4 H4 h4 c4 d4 m4 s' Hs' C' cl' fp' => ?_
    obtain ⟨kk, hk, hv⟩ := h4
    refine hv s' Hs' C' cl' fp' σ2 H4 _ (c4.denG m3 d2) m4 fun v r mu5 H5 h5 c5 d5 m5 => ?_
    have hx5 := c5.keep _ _ (c4.keep _ _ (c3.keep _ _ hx nD) nD) (c4.new _ _ (c3.keep _ _ hx nD) nD)
    have nD5 := c5.new _ _ (c4.keep _ _ (c3.keep _ _ hx nD) nD) (c4.new _ _ (c3.keep _ _ hx nD) nD)
    have dx5 : DKV X.K H5 acc xs := ⟨dx.1, c5.denAll m4 (c4.denAll m3 (c3.denAll m2 dx.2))⟩
    have sq0 : ∀ a ys, SqT X.K H5 a ys → SqT X.K (upd H5 D (.dK (putK xs kk v))) a ys := fun a ys s => by
      rcases s with (s | ⟨o, s⟩) | s
      · exact .inl (.inl (by rw [upd_ne (ne_of s hx5 (by intro z; cases z))]; exact s))
      · exact .inl (.inr ⟨o, by rw [upd_ne (ne_of s hx5 (by intro z; cases z))]; exact s⟩)
      · exact .inr s
    have sq : Kps X.K H5 (upd H5 D (.dK (putK xs kk v))) := ⟨sq0, fun a o u s => by rw [upd_ne (ne_of s hx5 (by intro z; cases z))]; exact s⟩
    have cc := ((c2.trans c3).trans c4).trans c5
    refine ⟨xs, kk, keyOf_den hk d4, hx5, ?_, putW acc kk r, mu5, putK xs kk v, h5, upd_same, ?_, nD5, fun a cc ha => CellOk.mono sq (m5 a cc ha) (upd_ne fun z => by subst z; rw [nD5] at ha; cases ha), ⟨fun b o e n => by rw [upd_ne (ne_of_none e hD)]; exact cc.keep b o e n, cc.old, cc.new⟩⟩
    · have := congrArg List.length dx.1
      simp only [List.length_map] at this
      omega
    · have := dx5.put hn d5 (k := kk)
      exact ⟨this.1, DenAll.mono sq _ this.2⟩
  · have ei : i = ws.length := by omega
    subst ei
    refine .inl ⟨wk.stops H' gh, k (.ref D) (.m D) (setM mu' D (.dic acc)) H' (ie acc mu' q nD) (c1.trans ⟨c2.keep, fun b cc e => ?_, fun b o e n => ?_⟩) rfl fun a cc ha => ?_⟩
    · by_cases z : b = D
      · subst z; exact ⟨_, setM_same⟩
      · rw [setM_ne z]; exact c2.old b cc e
    · rw [setM_ne (ne_of_none e hD)]
      exact c2.new b o e n
    · by_cases z : a = D
      · subst z
        rw [setM_same] at ha
        cases ha
        exact ⟨xs, hx, dx.1, dx.2⟩
      · rw [setM_ne z] at ha
        exact m2 a cc ha
theorem se_dcN {scope : Scope} {own : List (Str × Nat)} {tg iter kx vx : Expr} (T : Tg) (hc : X.calm = true) (hN : X.N.Nodup) (ok : BlkOk X.N X.env.scope scope own) (ha : T.all (fun i => decide (i ∈ own.map (·.2))) = true)
    (hg : ∀ (s : Shared) (H : Hp) (C : Addr) (cl : List (Str × Addr)) (fp : List Addr), PG (X.blk s H scope (compEnvC scope cl C X.env) fp) tg (gT X.K T)) (hs : ∀ x, foldedSetIterable iter X.env x = pure x)
    (h : SI X tg iter G mu (dcPostN (InBlk X scope) T kx vx (own.map (·.2)) G P)) : SE X (.DictComp kx vx [⟨tg, iter, [], 0⟩] scope pos) G mu P :=
  SE.mk (pe_dc hc hN piI ok hg (fun _ _ _ _ _ => pts_nil) (fun s H C cl fp => ⟨fun pins s' σ H' Q I h => h s H C cl fp pins s' I⟩) (fun s H C cl fp => ⟨fun pins s' σ H' Q I h => h s H C cl fp pins s' I⟩) hs) fun σ H Q d m k => dc_rdN T ha d m k h
open PySem.Spec PyProof PyProof.Rows in
/-- name = {..: ..} on one line, the name a local -/
theorem ps_setDc {i : Nat} {y : Str} {py : Pos} {kx vx tg iter : Expr} {ifs : List Expr} {scope : Scope} {own : List (Str × Nat)} {pos spos : Pos} {wi : TI} {g : TG} {tt : TT} {tk tv : TE} (hc : X.calm = true) (hN : X.N.Nodup) (hy : X.N[i]? = some y) (hyl : X.env.scope.names.lookup y = some .local)
    (hsw : swapsWith (.DictComp kx vx [⟨tg, iter, ifs, 0⟩] scope pos) (some (.Name y py)) spos.line X.env = pure true) (hi : PI X tg iter wi) (ok : BlkOk X.N X.env.scope scope own)
    (hg : ∀ (s : Shared) (H : Hp) (C : Addr) (cl : List (Str × Addr)) (fp : List Addr), PG (X.blk s H scope (compEnvC scope cl C X.env) fp) tg g) (ht : ∀ (s : Shared) (H : Hp) (C : Addr) (cl : List (Str × Addr)) (fp : List Addr), PTs (X.blk s H scope (compEnvC scope cl C X.env) fp) ifs tt)
    (hk : ∀ (s : Shared) (H : Hp) (C : Addr) (cl : List (Str × Addr)) (fp : List Addr), PE (X.blk s H scope (compEnvC scope cl C X.env) fp) kx tk)
    (he : ∀ (s : Shared) (H : Hp) (C : Addr) (cl : List (Str × Addr)) (fp : List Addr), PE (X.blk s H scope (compEnvC scope cl C X.env) fp) vx tv) (hs : ∀ x, foldedSetIterable iter X.env x = pure x := by intro _; rfl) :
    PS X (.Assign [.Name y py] (.DictComp kx vx [⟨tg, iter, ifs, 0⟩] scope pos) spos) (tAsg (tDc wi g tt tk tv (own.map (·.2))) (gName i)) := by
  refine ⟨fun pins s σ H D I h => ?_⟩
  rw [exec_Assign_Name_used _ _ _ _ hsw]
  refine wpAny_bind (wpAny_standAt (wpAny_bind ?_))
  show wpAny _ X.A (do let _ ← comprehension (.DictComp kx vx [⟨tg, iter, ifs, 0⟩] scope pos) scope X.env (firstIterPos [⟨tg, iter, ifs, 0⟩] pos) newDict false (eval iter X.env) (some (assign (.Name y py) X.env))) _ _ s
  have h : tDc wi g tt tk tv (own.map (·.2)) σ H (fun x H1 => gName i x σ H1 D.nx) := h
  refine wpAny_bind (thn (dc_core (Qf := fun _ s' => SP X pins D .next s') hc hN I hi ok hg ht hk he hs h fun L C s' m H' I' q hn f => ?_) fun _ s' hq => wpAny_pure (wpAny_pure hq))
  show wpAny _ _ (assign (.Name y py) X.env (.ref L)) _ _ _
  refine wpAny_assign_Name (store_ok2 (v := V.ref L) I' hN hy (.inl hyl) rfl (fun s2 I2 ⟨a, sb, ha⟩ => ?_) (.inr hyl))
  obtain ⟨f0, f1, f2, f3, f4, f5⟩ := f
  have haC : C ≠ a := by
    rcases ha with z | z
    · rw [z]; exact f1
    · exact fun e => f4 y a z e.symm
  refine ⟨m, hn.sameBut sb haC, fun h3 sb3 => ?_⟩
  exact ⟨_, H', I2.turned (t' := s2.toks) (fun b o hb e => (sb3.2 b hb).trans e) f0 f1 f3 f4 f5, q⟩
theorem sw_trueD {kx vx : Expr} {gs : List Comprehension} {scope : Scope} {pos py : Pos} {y : Str} {l : Nat} {env : Env} (hk : env.scope.kind = .function) (hy : env.scope.names.lookup y = some .local) (hl : (py.line == pos.line) = true)
    (ha : (scope.names.any fun (n, k) => n == y && (k == .local || k == .cell)) = false) : swapsWith (.DictComp kx vx gs scope pos) (some (.Name y py)) l env = pure true := by
  have ky : env.kindOf y = some .local := hy
  have hb : env.blockKind = .function := by unfold Env.blockKind; rw [hk]; rfl
  unfold swapsWith
  simp only [hb, ky, ha, Expr.pos, hl]
  rfl
theorem ss_setdc {E : WE} {i : Nat} {y : Str} {py spos : Pos} {scope : Scope} {own : List (Str × Nat)} {tg iter kx vx : Expr} (T : Tg) (hc : X.calm = true) (hN : X.N.Nodup) (hy : X.N[i]? = some y) (hyl : X.env.scope.names.lookup y = some .local)
    (hsw : swapsWith (.DictComp kx vx [⟨tg, iter, [], 0⟩] scope pos) (some (.Name y py)) spos.line X.env = pure true) (ok : BlkOk X.N X.env.scope scope own) (ha : T.all (fun i => decide (i ∈ own.map (·.2))) = true)
    (hg : ∀ (s : Shared) (H : Hp) (C : Addr) (cl : List (Str × Addr)) (fp : List Addr), PG (X.blk s H scope (compEnvC scope cl C X.env) fp) tg (gT X.K T)) (hs : ∀ x, foldedSetIterable iter X.env x = pure x)
    (h : SI X tg iter G mu (dcPostN (InBlk X scope) T kx vx (own.map (·.2)) G fun w mu1 => E.nx (G.set i (some w)) mu1)) : SS X (.Assign [.Name y py] (.DictComp kx vx [⟨tg, iter, [], 0⟩] scope pos) spos) G mu E :=
  SS.mk (ps_setDc hc hN hy hyl hsw piI ok hg (fun _ _ _ _ _ => pts_nil) (fun s H C cl fp => ⟨fun pins s' σ H' Q I h => h s H C cl fp pins s' I⟩) (fun s H C cl fp => ⟨fun pins s' σ H' Q I h => h s H C cl fp pins s' I⟩) hs) fun σ H D d m k =>
    dc_rdN (P := fun w mu1 => E.nx (G.set i (some w)) mu1) T ha d m (fun v w mu1 H1 h1 c1 d1 m1 => k.nx _ _ _ _ h1 c1 (DenG.set (c1.denG m d) d1) m1) h
end
end Dv
set_option Elab.async false
set_option linter.all false
set_option maxRecDepth 100000
/-! A def of one parameter: called by place and by name. -/
namespace Dv
open PySem PySem.Spec PyProof.Rows L2
section
variable {P : Program} {w : World} {K : PySem.W.Frag} {mg : Str → Option Value} {base : Heap}
theorem dfnBoth {x nm : Str} {st : Stmt} {N : List Str} {k : Nat} {S : SpW} (D : Dfn K mg x st [nm]) (Sc : FnScope N [nm] (defScope st))
    (hkw : ∀ (kV doc pm : Value) (an : Option Addr) (cdv ct : Value) (s : Shared) (u : Value), BindsTo s (PySem.W.fnOf x x (defArgs st) (defBody st) (defScope st) .none kV doc pm an cdv ct) ⟨[], [(nm, u)]⟩ [(nm, u)])
    (len : ∀ ws mu P, S ws mu P → ws.length = [nm].length)
    (body : ∀ (f : Addr) (cdv : Value) (A : Around) (outer : List Env) (s : Shared) (H : Hp) (E : XK), Room k (A.deeper (PyProof.Rows.envOfC x (defScope st) s.heap.objs.size f cdv)) → ∀ ws mu Pt, S ws mu Pt →
      SSs (cxOf CX0 P w K mg base N x (defScope st) f cdv A outer s H E).nox (defBody st) (startW N ws) mu { nx := fun _ mu' => Pt .non mu', rt := Pt }) : DefOk P w K mg base x [nm] (k + 1) S ∧ DefKw P w K mg base x nm (k + 1) S := by
  obtain ⟨f, fd, F, hm, hb⟩ := D.ex
  refine ⟨⟨f, fd, okW F Sc len (body f), hm, F.kp, hb⟩, ⟨f, fd, okW F Sc len (body f), hm, F.kp, ?_⟩⟩
  obtain ⟨oc, od, kV, doc, pm, an, cdv, ct, osl, efd, lk, hcd⟩ := F.ex
  subst efd
  exact fun s u => hkw _ _ _ _ _ _ s u
end
end Dv
set_option Elab.async false
set_option linter.all false
set_option maxRecDepth 100000
/-! A def of two parameters: called by two places, and by a place and a name. -/
namespace Dv
open PySem PySem.Spec PyProof.Rows L2
structure DefKw2 (P : Program) (w : World) (K : PySem.W.Frag) (mg : Str → Option Value) (base : Heap) (x n1 nm : Str) (k : Nat) (S : SpW) : Prop where
  ex : ∃ f fd, FnOk P w K mg base CX0 k f fd [n1, nm] (spW K S) ∧ mg x = some (.ref f) ∧ PySem.W.keepIn K (.ref f) = true ∧ ∀ (s : Shared) (u v : Value), BindsTo s fd ⟨[u], [(nm, v)]⟩ [(n1, u), (nm, v)]
section
variable {X : Cx} {a e : Expr} {G : Gs} {mu : Mu} {pos p kpos : Pos} {P : PW1}
theorem se_kw2 {x n1 nm : Str} {k : Nat} {S : SpW} (D : DefKw2 X.prog X.w X.K X.mg X.base x n1 nm k S) (hr : Room k X.A) (h : SE X a G mu fun w1 mu1 => SE X e G mu1 fun w2 mu2 => S [w1, w2] mu2 P)
    (hg : Gl X x := by rfl) (hdb : (x == ("__debug__" : Str)) = false := by decide) (hall : (backToKw pos (keywordEach [⟨some nm, e, kpos⟩] X.env)).all (·.1.isSome) = true := by rfl) (hks : (backToKw pos (keywordEach [⟨some nm, e, kpos⟩] X.env)).filterMap (·.1) = [nm] := by rfl)
    (he : starEach [a] X.env = (false, eval a X.env) :: starEach [] X.env := by rfl)
    (hpl : ((backTo pos (starEach [a] X.env)).any (·.1) || (backToKw pos (keywordEach [⟨some nm, e, kpos⟩] X.env)).any (·.1.isNone)) = false := by rfl) : SE X (.Call (.Name x p) [a] [⟨some nm, e, kpos⟩] pos) G mu P := by
  obtain ⟨f, fd, F, hm, hk, hb⟩ := D.ex
  intro σ H Q d m kk pins s I
  refine wpAny_Call_Name_kw (ld_glob I hg hm ?_ hdb)
  have pa : PA X [a] (tCons (tE X a) tNil) := pa_cons peE pa_nil he
  have pk : PK X [⟨some nm, e, kpos⟩] (tCons (tE X e) tNil) := pk_cons peE pk_nil
  refine PySem.W.callWith_KW (h₀ := X.base) I.ok.mod.kin hk hall (thn (pa.run pos pins s σ H (fun vs H1 => (∃ v1, vs = [v1]) ∧ tCons (tE X e) tNil σ H1 fun zs H2 => (∃ v2, zs = [v2]) ∧ spW X.K S (vs ++ zs) H2 Q fun _ _ _ => False) I ?_) fun us s1 ⟨vs, H1, I1, r, ⟨v1, e1⟩, q⟩ => ?_) hpl he
  · exact h σ H _ d m fun v w1 mu1 H1 h1 c1 d1 m1 => ⟨⟨v, rfl⟩, h1 σ H1 _ (c1.denG m d) m1 fun v2 w2 mu2 H2 h2 c2 d2 m2 => ⟨⟨v2, rfl⟩, [w1, w2], mu2, P, h2, ⟨v, [v2], rfl, c2.den m1 d1, ⟨v2, [], rfl, d2, rfl⟩⟩, m2, kk.step (c1.trans c2)⟩⟩
  · refine thn (pk.run pos pins s1 σ H1 _ I1 q) fun ws s2 ⟨zs, H2, I2, rz, ⟨v2, e2⟩, q2⟩ => ⟨I2.kIn, ?_⟩
    rw [hks]
    subst e1 e2
    obtain ⟨u1, rfl⟩ : ∃ u1, us = [u1] := by
      match us, r.length with
      | [u], _ => exact ⟨u, rfl⟩
    obtain ⟨u2, rfl⟩ : ∃ u2, ws = [u2] := by
      match ws, rz.length with
      | [u], _ => exact ⟨u, rfl⟩
    refine wpAny_call (codeAny_mono (F.run X.A X.stack s2 H2 ⟨[u1], [(nm, u2)]⟩ [u1, u2] [v1, v2] Q _ hr I2.env0 (hb s2 u1 u2) (r.append rz) q2) fun z s' hq => ?_)
    cases z with
    | error e => exact False.elim hq
    | ok fl => cases fl with
      | ret u => exact I2.after hq
      | next => exact False.elim hq
      | brk => exact False.elim hq
      | cont => exact False.elim hq
end
section
variable {P : Program} {w : World} {K : PySem.W.Frag} {mg : Str → Option Value} {base : Heap}
theorem dfnBoth2 {x n1 nm : Str} {st : Stmt} {N : List Str} {k : Nat} {S : SpW} (D : Dfn K mg x st [n1, nm]) (Sc : FnScope N [n1, nm] (defScope st))
    (hkw : ∀ (kV doc pm : Value) (an : Option Addr) (cdv ct : Value) (s : Shared) (u v : Value), BindsTo s (PySem.W.fnOf x x (defArgs st) (defBody st) (defScope st) .none kV doc pm an cdv ct) ⟨[u], [(nm, v)]⟩ [(n1, u), (nm, v)])
    (len : ∀ ws mu P, S ws mu P → ws.length = [n1, nm].length)
    (body : ∀ (f : Addr) (cdv : Value) (A : Around) (outer : List Env) (s : Shared) (H : Hp) (E : XK), Room k (A.deeper (PyProof.Rows.envOfC x (defScope st) s.heap.objs.size f cdv)) → ∀ ws mu Pt, S ws mu Pt →
      SSs (cxOf CX0 P w K mg base N x (defScope st) f cdv A outer s H E).nox (defBody st) (startW N ws) mu { nx := fun _ mu' => Pt .non mu', rt := Pt }) : DefOk P w K mg base x [n1, nm] (k + 1) S ∧ DefKw2 P w K mg base x n1 nm (k + 1) S := by
  obtain ⟨f, fd, F, hm, hb⟩ := D.ex
  refine ⟨⟨f, fd, okW F Sc len (body f), hm, F.kp, hb⟩, ⟨f, fd, okW F Sc len (body f), hm, F.kp, ?_⟩⟩
  obtain ⟨oc, od, kV, doc, pm, an, cdv, ct, osl, efd, lk, hcd⟩ := F.ex
  subst efd
  exact fun s u v => hkw _ _ _ _ _ _ s u v
end
end Dv
set_option Elab.async false
set_option linter.all false
set_option maxRecDepth 100000
/-! Frozen lists and dicts: what is read of them, shown. -/
namespace DvLow
open PySem PySem.Spec PyProof.Rows
/-- what is read is not the dict of the modules -/
def NoSys (h : Heap) (as : List Addr) : Prop := ∀ o es n, h.get? sysModules = some o → o.data = .dict es n → sysModules ∉ as
theorem NoSys.sub {h : Heap} {as bs : List Addr} (x : NoSys h as) (s : ∀ b ∈ bs, b ∈ as) : NoSys h bs := fun o es n e d m => x o es n e d (s _ m)
section
variable {pr : Program} {ww : World} {h : Heap}
mutual
theorem rk_of : ∀ {v : Value} {d : PyData} {as : List Addr}, Reads h v d as → d.showable = true → NoSys h as → d.shown.length ≤ sizeLine → ∃ bs, ReadAtMost h d.depth bs ∧ ReprK pr ww bs h d.depth v d.shown
  | _, _, _, .none, a, _, c => ReprK.of_reads .none a (PyData.noDict_hsm (by simp [PyData.hasDict])) c
  | _, _, _, .bool b, a, _, c => ReprK.of_reads (.bool b) a (PyData.noDict_hsm (by simp [PyData.hasDict])) c
  | _, _, _, .int i t, a, _, c => ReprK.of_reads (.int i t) a (PyData.noDict_hsm (by simp [PyData.hasDict])) c
  | _, _, _, .str x t, a, _, c => ReprK.of_reads (.str x t) a (PyData.noDict_hsm (by simp [PyData.hasDict])) c
  | _, _, _, .list (a := a) (vs := vs) (xs := xs) g1 g2 g3 g4, hs, ns, hz => by
    have z : (listText (PyData.shownAll xs)).length ≤ sizeLine := by simpa only [PyData.shown] using hz
    obtain ⟨bs, m, k⟩ := rks_of g4 (by simpa [PyData.showable] using hs) (ns.sub fun b hb => List.mem_cons_of_mem _ hb) fun t ht => Nat.le_trans (listText_mem_le ht) z
    have rr := Reads.list g1 g2 g3 g4
    have lt : PyData.depthAll xs < (PyData.list xs).depth := by simp only [PyData.depth]; omega
    refine ⟨a :: bs, ReadAtMost.cons rr (Nat.le_of_lt lt) m, ?_⟩
    have nm := not_mem_of_deeper rr lt m
    simp only [PyData.depth, PyData.shown]
    obtain ⟨l⟩ := vs
    match l, g4 with
    | [], .nil => simp only [PyData.shownAll, listText_nil]; exact .listEmpty g1 g2 g3
    | x :: l, g4 => exact .list g1 g2 g3 nm (by simpa using k.length_eq) fun i y e => k.item i y (by simpa using e)
  | _, _, _, .tuple (a := a) (xs := xs) g1 g2 g3 g4, hs, ns, hz => by
    have z : (tupleText (PyData.shownAll xs)).length ≤ sizeLine := by simpa only [PyData.shown] using hz
    obtain ⟨bs, m, k⟩ := rks_of g4 (by simpa [PyData.showable] using hs) ns fun t ht => Nat.le_trans (tupleText_mem_le ht) z
    have rr := Reads.tuple g1 g2 g3 g4
    have lt : PyData.depthAll xs < (PyData.tuple xs).depth := by simp only [PyData.depth]; omega
    refine ⟨a :: bs, ReadAtMost.cons rr (Nat.le_of_lt lt) m, ?_⟩
    have nm := not_mem_of_deeper rr lt m
    simp only [PyData.depth, PyData.shown]
    exact .tuple g1 g2 g3 nm k
  | _, _, _, .dict (a := a) (es := es) (kvs := kvs) (as := as1) (bs := bs1) g1 g2 g3 g4 g5, hs, ns, hz => by
    have z : (dictText (PyData.shownKv kvs)).length ≤ sizeLine := by simpa only [PyData.shown] using hz
    obtain ⟨q1, q2⟩ := PyData.showableKv_split kvs (by simpa [PyData.showable] using hs)
    have lk : ∀ t ∈ PyData.shownAll (kvs.map (·.1)), t.length ≤ sizeLine := fun t ht => by
      obtain ⟨p, hp, l⟩ := PyData.shownKv_key_le kvs t ht
      exact Nat.le_trans l (Nat.le_trans (dictText_mem_le hp) z)
    have lv : ∀ t ∈ PyData.shownAll (kvs.map (·.2)), t.length ≤ sizeLine := fun t ht => by
      obtain ⟨p, hp, l⟩ := PyData.shownKv_val_le kvs t ht
      exact Nat.le_trans l (Nat.le_trans (dictText_mem_le hp) z)
    obtain ⟨c1, m1, k1⟩ := rks_of g4 q1 (ns.sub fun b hb => List.mem_append_left _ (List.mem_cons_of_mem _ hb)) lk
    obtain ⟨c2, m2, k2⟩ := rks_of g5 q2 (ns.sub fun b hb => List.mem_append_right _ hb) lv
    have rr := Reads.dict g1 g2 g3 g4 g5
    have mm := (m1.mono (PyData.depthAll_keys_le kvs)).append (m2.mono (PyData.depthAll_vals_le kvs))
    have lt : PyData.depthKv kvs < (PyData.dict kvs).depth := by simp only [PyData.depth]; omega
    have nm := not_mem_of_deeper rr lt mm
    have sy : (a == sysModules) = false := beq_eq_false_iff_ne.mpr fun e => ns _ _ _ (e ▸ g1) g3 (List.mem_append_left _ (e ▸ List.mem_cons_self))
    refine ⟨a :: (c1 ++ c2), ReadAtMost.cons rr (Nat.le_of_lt lt) mm, ?_⟩
    simp only [PyData.depth, PyData.shown, PyData.shownKv_eq]
    exact .dict g1 g2 g3 sy nm (.of_two es.toList _ _ (k1.more_le (fun b hb => List.mem_append_left _ hb) (PyData.depthAll_keys_le kvs)) (k2.more_le (fun b hb => List.mem_append_right _ hb) (PyData.depthAll_vals_le kvs)))
theorem rks_of : ∀ {vs : List Value} {ds : List PyData} {as : List Addr}, ReadsAll h vs ds as → PyData.showableAll ds = true → NoSys h as → (∀ t ∈ PyData.shownAll ds, t.length ≤ sizeLine) → ∃ bs, ReadAtMost h (PyData.depthAll ds) bs ∧ ReprAllK pr ww bs h (PyData.depthAll ds) vs (PyData.shownAll ds)
  | _, _, _, .nil, _, _, _ => ⟨[], (fun _ m => nomatch m), by simp only [PyData.shownAll]; exact .nil⟩
  | _, _, _, .cons (d := d) (ds := ds) r rs, hs, ns, hz => by
    have q : d.showable = true ∧ PyData.showableAll ds = true := by simpa [PyData.showableAll] using hs
    obtain ⟨c1, m1, k1⟩ := rk_of r q.1 (ns.sub fun b hb => List.mem_append_left _ hb) (hz _ (by simp [PyData.shownAll]))
    obtain ⟨c2, m2, k2⟩ := rks_of rs q.2 (ns.sub fun b hb => List.mem_append_right _ hb) fun t ht => hz t (by simp [PyData.shownAll, ht])
    have l1 : d.depth ≤ PyData.depthAll (d :: ds) := by simp only [PyData.depthAll]; exact Nat.le_max_left _ _
    have l2 : PyData.depthAll ds ≤ PyData.depthAll (d :: ds) := by simp only [PyData.depthAll]; exact Nat.le_max_right _ _
    refine ⟨c1 ++ c2, (m1.mono l1).append (m2.mono l2), ?_⟩
    simp only [PyData.shownAll]
    exact .cons ((k1.more fun b hb => List.mem_append_left _ hb).level_le l1) (k2.more_le (fun b hb => List.mem_append_right _ hb) l2)
end
variable {A : Around} {E : Value → Shared → Prop} {s : Shared} {Q : Value → Shared → Prop}
theorem repr_any {v : Value} {d : PyData} {as : List Addr} (r : Reads s.heap v d as) (hs : d.showable = true) (ns : NoSys s.heap as) (hg : A.guards = some []) (hu : A.units + (d.depth + 1) < cLine) (hz : d.shown.length ≤ sizeLine)
    (q : ∀ h' u tk, (∀ b o, s.heap.get? b = some o → h'.get? b = some o) → Q (.str d.shown u) { s with heap := h', toks := tk }) : wpAny (model pr ww) A (call (.builtin "repr") [v]) Q E s := by
  have hu1 : A.units + 1 < cLine := by omega
  cases r with
  | none => exact PySem.P.repr_of_none (q _ _ _ fun _ _ e => e)
  | bool b => exact PySem.P.repr_of_bool (q _ _ _ fun _ _ e => e)
  | int i t =>
    have hi : i.natAbs.log2 < 1920 := by simpa [PyData.showable] using hs
    exact PySem.P.repr_of_int hi (q _ _ _ fun _ _ e => e)
  | str x t => exact PySem.P.repr_of_str (q _ _ _ fun _ _ e => e) (by simpa only [PyData.shown] using hz)
  | list g1 g2 g3 g4 =>
    rename_i a o vs n xs bs
    have z : (listText (PyData.shownAll xs)).length ≤ sizeLine := by simpa only [PyData.shown] using hz
    obtain ⟨cs, m, k⟩ := rks_of (pr := pr) (ww := ww) g4 (by simpa [PyData.showable] using hs) (ns.sub fun b hb => List.mem_cons_of_mem _ hb) fun t ht => Nat.le_trans (listText_mem_le ht) z
    have lt : PyData.depthAll xs < (PyData.list xs).depth := by simp only [PyData.depth]; omega
    have nm := not_mem_of_deeper (Reads.list g1 g2 g3 g4) lt m
    simp only [PyData.depth] at hu
    simp only [PyData.shown] at q
    refine call_repr_slot hu1 ⟨o, g1, g2⟩ F.slot_list_repr.toG ?_
    obtain ⟨l⟩ := vs
    match l, g4 with
    | [], .nil =>
      simp only [PyData.shownAll, listText_nil] at q
      exact call_list_repr_empty ⟨o, g1, g2⟩ g1 g3 ⟨_, _, rfl, q s.heap _ _ fun _ _ e => e⟩
    | x :: l, g4 => exact call_list_reprK g1 g2 g3 nm (by simpa using k.length_eq) (fun i y e => k.item i y (by simpa using e)) hg (fun b _ => Clear.nil b) (by show A.units + 1 + _ < cLine; omega) (fun _ _ e => e) (fun h' u tk kk => ⟨_, _, rfl, q h' u tk kk⟩) z
  | tuple g1 g2 g3 g4 =>
    rename_i a o vs n xs
    have z : (tupleText (PyData.shownAll xs)).length ≤ sizeLine := by simpa only [PyData.shown] using hz
    obtain ⟨cs, m, k⟩ := rks_of (pr := pr) (ww := ww) g4 (by simpa [PyData.showable] using hs) ns fun t ht => Nat.le_trans (tupleText_mem_le ht) z
    have lt : PyData.depthAll xs < (PyData.tuple xs).depth := by simp only [PyData.depth]; omega
    have nm := not_mem_of_deeper (Reads.tuple g1 g2 g3 g4) lt m
    simp only [PyData.depth] at hu
    simp only [PyData.shown] at q
    refine call_repr_slot hu1 ⟨o, g1, g2⟩ F.slot_tuple_repr ?_
    exact call_tuple_reprK g1 g2 g3 nm k hg (fun b _ => Clear.nil b) (by show A.units + 1 + _ < cLine; omega) (fun _ _ e => e) (fun h' u tk kk => ⟨_, _, rfl, q h' u tk kk⟩) z
  | dict g1 g2 g3 g4 g5 =>
    rename_i a o es n kvs as1 bs1
    have z : (dictText (PyData.shownKv kvs)).length ≤ sizeLine := by simpa only [PyData.shown] using hz
    obtain ⟨q1, q2⟩ := PyData.showableKv_split kvs (by simpa [PyData.showable] using hs)
    have lk : ∀ t ∈ PyData.shownAll (kvs.map (·.1)), t.length ≤ sizeLine := fun t ht => by
      obtain ⟨p, hp, l⟩ := PyData.shownKv_key_le kvs t ht
      exact Nat.le_trans l (Nat.le_trans (dictText_mem_le hp) z)
    have lv : ∀ t ∈ PyData.shownAll (kvs.map (·.2)), t.length ≤ sizeLine := fun t ht => by
      obtain ⟨p, hp, l⟩ := PyData.shownKv_val_le kvs t ht
      exact Nat.le_trans l (Nat.le_trans (dictText_mem_le hp) z)
    obtain ⟨c1, m1, k1⟩ := rks_of (pr := pr) (ww := ww) g4 q1 (ns.sub fun b hb => List.mem_append_left _ (List.mem_cons_of_mem _ hb)) lk
    obtain ⟨c2, m2, k2⟩ := rks_of (pr := pr) (ww := ww) g5 q2 (ns.sub fun b hb => List.mem_append_right _ hb) lv
    have mm := (m1.mono (PyData.depthAll_keys_le kvs)).append (m2.mono (PyData.depthAll_vals_le kvs))
    have lt : PyData.depthKv kvs < (PyData.dict kvs).depth := by simp only [PyData.depth]; omega
    have nm := not_mem_of_deeper (Reads.dict g1 g2 g3 g4 g5) lt mm
    have sy : (a == sysModules) = false := beq_eq_false_iff_ne.mpr fun e => ns _ _ _ (e ▸ g1) g3 (List.mem_append_left _ (e ▸ List.mem_cons_self))
    simp only [PyData.depth] at hu
    simp only [PyData.shown, PyData.shownKv_eq] at q
    refine call_repr_slot hu1 ⟨o, g1, g2⟩ F.slot_dict_repr ?_
    exact call_dict_reprK g1 g2 g3 sy nm (.of_two es.toList _ _ (k1.more_le (fun b hb => List.mem_append_left _ hb) (PyData.depthAll_keys_le kvs)) (k2.more_le (fun b hb => List.mem_append_right _ hb) (PyData.depthAll_vals_le kvs))) hg (fun b _ => Clear.nil b)
      (by show A.units + 1 + _ < cLine; omega) (fun _ _ e => e) (fun h' u tk kk => ⟨_, _, rfl, q h' u tk kk⟩) (by rw [← PyData.shownKv_eq]; exact z)
end
/-! a text against a dict -/
theorem dict_dec_str (l : Addr) (es : Array DictEntry) (n : Nat) (b : Str) (u : Tok) : Meets (Builtin.«dict.__eq__» ⟨[.ref l, .str b u], []⟩) (fun _ R s => s.heap.get? l = some { cls := .type "dict", dict := none, data := .dict es n, slots := #[] } ∧ R (.ok (.ret .notImplemented)) s) :=
  .of_wp fun prog w A R s h => by
    obtain ⟨hp, g, d, tk, os⟩ := s
    obtain ⟨hl, h⟩ := h
    have f1 := F.sub_str_dict
    wp_walk using wpAny_loadPart' hl, wpAny_load hl
    exact ⟨_, rfl, h⟩
theorem str_dec_dict (l : Addr) (es : Array DictEntry) (n : Nat) (b : Str) (u : Tok) : Meets (Builtin.«str.__eq__» ⟨[.str b u, .ref l], []⟩) (fun _ R s => s.heap.get? l = some { cls := .type "dict", dict := none, data := .dict es n, slots := #[] } ∧ R (.ok (.ret .notImplemented)) s) :=
  .of_wp fun prog w A R s h => by
    obtain ⟨hp, g, d, tk, os⟩ := s
    obtain ⟨hl, h⟩ := h
    wp_walk using wpAny_loadPart' hl, wpAny_load hl
    exact ⟨_, rfl, h⟩
section
variable {A : Around} {s : Shared}
theorem rc_str_dict {l : Addr} {es : Array DictEntry} {n : Nat} (b : Str) (u : Tok) (ho : s.heap.get? l = some { cls := .type "dict", dict := none, data := .dict es n, slots := #[] }) (hu : A.units < cLine) : SeqAt.RcAt A s (.str b u) (.ref l) false := fun prog w E Q h =>
  SeqAt.rc_eq_decline_or (k := false) (typeIs_str s b u) ⟨_, ho, rfl⟩ (by decide) F.sub_dict_str F.slot_str_eq F.slot_dict_eq_refl
    (fun _ hq => call_meets F.slot_str_eq (typeIs_str s b u) F.entry_str_eq (F.args_str_eq_2 _ _) (str_dec_dict l es n b u) ⟨ho, hq⟩)
    (fun _ hq => call_meets F.slot_dict_eq_refl ⟨_, ho, rfl⟩ F.entry_dict_eq (F.args_dict_eq_2 _ _) (dict_dec_str l es n b u) ⟨ho, hq⟩)
    (fun _ hq => wpAny_of_eq (rfl : isSame (.str b u) (.ref l) = pure false) hq) (.inr hu) h
theorem eq_str_dict {l : Addr} {es : Array DictEntry} {n : Nat} (b : Str) (u : Tok) (ho : s.heap.get? l = some { cls := .type "dict", dict := none, data := .dict es n, slots := #[] }) (hu : A.units < cLine) : SeqAt.EqAt A s (.str b u) (.ref l) false := fun prog w E Q h => by
  unfold eqBool
  refine wpAny_holding (wpAny_ite_split (fun z => absurd (eq_of_beq z) nofun) fun _ => ?_)
  exact wpAny_bind (rc_str_dict b u ho hu prog w E _ (wpAny_truthy_bool h))
end
end DvLow
set_option Elab.async false
set_option linter.all false
set_option maxRecDepth 100000
/-! Frozen values: shown, looked for among texts, frozen. -/
namespace Dv
open PySem L2
mutual
/-- no cell in it -/
def frW : W → Bool
  | .m _ => false
  | .tup ws => frWs ws
  | .fl ws => frWs ws
  | .fd _ ws => frWs ws
  | _ => true
def frWs : List W → Bool
  | [] => true
  | w :: ws => frW w && frWs ws
end
theorem noSys_nil {h : Heap} : DvLow.NoSys h [] := fun _ _ _ _ _ m => nomatch m
theorem keys_rd {P : Program} {w : World} {h : Heap} : ∀ {es : List DictEntry} {vs : List (Key × Value)} {kvs : List (Key × V)} {ks : List Str}, Pairs (mixKind P w) es vs → KV kvs vs → kvs.map (·.1) = ks.map Sum.inr →
    ReadsAll h (es.map (·.key)) (ks.map PyData.str) [] ∧ es.map (·.val) = vs.map (·.2) ∧ Vals (kvs.map (·.2)) (vs.map (·.2)) ∧ kvs.length = ks.length
  | _, _, _, ks, .nil, .nil, e => by
    cases ks with
    | nil => exact ⟨.nil, rfl, .nil, rfl⟩
    | cons k ks => simp at e
  | _, _, _, ks, .cons (e := ee) (kv := kk) hk hv hp, .cons r rs, e => by
    have hk : keyIs kk.1 ee.key = true := hk
    cases ks with
    | nil => simp at e
    | cons k ks =>
      simp only [List.map_cons, List.cons.injEq] at e
      obtain ⟨a1, a2, a3, a4⟩ := keys_rd (h := h) hp rs e.2
      have ek : kk.1 = Sum.inr k := r.1.symm.trans e.1
      rcases keyIs_shape hk with ⟨i, t, q, _⟩ | ⟨x, t, q, z⟩
      · rw [ek] at q; cases q
      · have q2 : k = x := by rw [ek] at q; exact Sum.inr.inj q
        subst q2
        refine ⟨?_, ?_, .cons r.2 a3, by simp [a4]⟩
        · rw [List.map_cons, List.map_cons, z]
          exact .cons (as := []) (.str k t) a1
        · rw [List.map_cons, List.map_cons, a2, hv]
section
variable {X : Cx} {pins : List (Addr × Obj)} {σ : St} {H : Hp} {s : Shared}
mutual
theorem Den.rd (I : Inv X pins σ H s) : ∀ (w : W) {v : V} {u : Value}, frW w = true → Den X.K H w v → RelV v u → ∃ as, Reads s.heap u (dat w) as ∧ DvLow.NoSys s.heap as
  | .non, v, u, _, d, r => by
    have d : v = .non := d
    subst d
    cases r
    exact ⟨_, .none, noSys_nil⟩
  | .bl b, v, u, _, d, r => by
    have d : v = .bl b := d
    subst d
    cases r
    exact ⟨_, .bool b, noSys_nil⟩
  | .int b, v, u, _, d, r => by
    have d : v = .int b := d
    subst d
    obtain ⟨t, rfl⟩ := r
    exact ⟨_, .int b t, noSys_nil⟩
  | .str b, v, u, _, d, r => by
    have d : v = .str b := d
    subst d
    obtain ⟨t, rfl⟩ := r
    exact ⟨_, .str b t, noSys_nil⟩
  | .m a, v, u, f, _, _ => by unfold frW at f; cases f
  | .tup ws, v, u, f, ⟨a, xs, e, sq, dx⟩, r => by
    subst e
    cases r
    obtain ⟨its, rv, ⟨o, ho, hc, n, hd⟩, _⟩ := I.tuple sq
    obtain ⟨as, g, ns⟩ := DenAll.rd I ws (by unfold frW at f; exact f) dx rv
    exact ⟨_, .tuple ho hc hd g, ns⟩
  | .fl ws, v, u, f, ⟨a, ob, xs, e, hx, dx⟩, r => by
    subst e
    cases r
    obtain ⟨its, rv, ⟨o, n, ho, hc, _, hd⟩, _⟩ := I.list (.inl (.inr ⟨ob, hx⟩))
    obtain ⟨as, g, ns⟩ := DenAll.rd I ws (by unfold frW at f; exact f) dx rv
    refine ⟨_, .list ho hc hd g, fun o2 es n2 h1 h2 m => ?_⟩
    rcases List.mem_cons.mp m with z | z
    · rw [z, ho] at h1
      cases h1
      rw [hd] at h2
      cases h2
    · exact ns o2 es n2 h1 h2 z
  | .fd ks ws, v, u, f, ⟨a, ob, kvs, e, hx, hk, dx⟩, r => by
    subst e
    cases r
    obtain ⟨_, _, sy, vs, kv, o, es, ep, h1, ex, hd, _, prs, _⟩ := (show ObjOk X.prog X.w H s.heap a (.frz ob (.dK kvs)) from I.hok a _ hx)
    obtain ⟨k1, k2, k3, k4⟩ := keys_rd (h := s.heap) prs kv hk
    obtain ⟨as, g, ns⟩ := DenAll.rd I ws (by unfold frW at f; exact f) dx k3
    have lw : ks.length = (dats ws).length := by
      have q1 := dx.length
      have q2 : (dats ws).length = ws.length := by rw [dats_mapD, List.length_map]
      rw [List.length_map] at q1
      omega
    have e1 : ((ks.map PyData.str).zip (dats ws)).map (·.1) = ks.map PyData.str := List.map_fst_zip (by rw [List.length_map]; omega)
    have e2 : ((ks.map PyData.str).zip (dats ws)).map (·.2) = dats ws := List.map_snd_zip (by rw [List.length_map]; omega)
    refine ⟨_, .dict (as := []) h1 ex.1 hd (by rw [e1]; exact k1) (by rw [e2, k2]; exact g), fun o2 es n2 h1 h2 m => ?_⟩
    rcases List.mem_append.mp m with z | z
    · rcases List.mem_cons.mp z with z | z
      · rw [z] at sy
        simp at sy
      · cases z
    · exact ns o2 es n2 h1 h2 z
theorem DenAll.rd (I : Inv X pins σ H s) : ∀ (ws : List W) {vs : List V} {us : List Value}, frWs ws = true → DenAll X.K H ws vs → Vals vs us → ∃ as, ReadsAll s.heap us (dats ws) as ∧ DvLow.NoSys s.heap as
  | [], vs, us, _, d, r => by
    have d : vs = [] := d
    subst d
    cases r
    exact ⟨_, .nil, noSys_nil⟩
  | w :: ws, vs, us, f, ⟨v, vr, e, d1, d2⟩, r => by
    subst e
    cases r with
    | cons r1 r2 =>
    unfold frWs at f
    rw [Bool.and_eq_true] at f
    obtain ⟨as, g1, n1⟩ := Den.rd I w f.1 d1 r1
    obtain ⟨bs, g2, n2⟩ := DenAll.rd I ws f.2 d2 r2
    refine ⟨_, .cons g1 g2, fun o2 es n h1 h2 m => ?_⟩
    rcases List.mem_append.mp m with z | z
    · exact n1 o2 es n h1 h2 z
    · exact n2 o2 es n h1 h2 z
end
end
/-! shown -/
/-- data that can be shown -/
structure ShowOk (d : PyData) : Prop where
  sh : d.showable = true
  dp : d.depth ≤ 100
  ln : d.shown.length ≤ sizeLine
/-- a frozen value, or a list of such -/
def asF (mu : Mu) : W → Option PyData
  | .m a => match mu a with
    | some (.lst ws) => if frWs ws then some (.list (dats ws)) else none
    | _ => none
  | w => if frW w then some (dat w) else none
section
variable {X : Cx} {e a b c : Expr} {es : List Expr} {G : Gs} {mu : Mu} {pos p : Pos} {P : PW1}
/-- a value is read as data -/
def RdV (X : Cx) (v : V) (d : PyData) (H : Hp) : Prop := ∀ (pins : List (Addr × Obj)) (σ : St) (s : Shared) (u : Value), Inv X pins σ H s → RelV v u → ∃ as, Reads s.heap u d as ∧ DvLow.NoSys s.heap as
theorem rdv_fr {H : Hp} {w : W} {v : V} (f : frW w = true) (d : Den X.K H w v) : RdV X v (dat w) H := fun pins σ s u I r => Den.rd I w f d r
theorem asF_ok {H : Hp} {w : W} {v : V} {d : PyData} (m : HM X.K H mu) (dv : Den X.K H w v) (h : asF mu w = some d) : RdV X v d H := by
  have go : ∀ w : W, (if frW w = true then some (dat w) else none) = some d → Den X.K H w v → RdV X v d H := fun w h dv => by
    by_cases q : frW w = true
    · rw [if_pos q] at h; cases h; exact rdv_fr q dv
    · rw [if_neg q] at h; cases h
  cases w with
  | m a =>
    have dv : v = .ref a := dv
    subst dv
    have h : (match mu a with | some (.lst ws) => if frWs ws = true then some (PyData.list (dats ws)) else none | _ => none) = some d := h
    cases e : mu a with
    | none => rw [e] at h; cases h
    | some c =>
      rw [e] at h
      cases c with
      | lst ws =>
        have h : (if frWs ws = true then some (PyData.list (dats ws)) else none) = some d := h
        by_cases q : frWs ws = true
        · rw [if_pos q] at h
          cases h
          obtain ⟨xs, hx, dx⟩ := m a _ e
          intro pins σ s u I r
          cases r
          obtain ⟨its, rv, ⟨o, n, ho, hc, _, hd⟩, _⟩ := I.list (SqL.of hx)
          obtain ⟨as, g, ns⟩ := DenAll.rd I ws q dx rv
          refine ⟨_, .list ho hc hd g, fun o2 es n2 h1 h2 m => ?_⟩
          rcases List.mem_cons.mp m with z | z
          · rw [z, ho] at h1
            cases h1
            rw [hd] at h2
            cases h2
          · exact ns o2 es n2 h1 h2 z
        · rw [if_neg q] at h; cases h
      | dic _ => cases h
      | ins _ _ => cases h
  | non => exact go .non h dv
  | bl b => exact go (.bl b) h dv
  | int b => exact go (.int b) h dv
  | str b => exact go (.str b) h dv
  | tup b => exact go (.tup b) h dv
  | fl b => exact go (.fl b) h dv
  | fd b c => exact go (.fd b c) h dv
def rReprA (X : Cx) : List V → Hp → VK → Prop := fun vs H Q => ∃ v d, vs = [v] ∧ RdV X v d H ∧ ShowOk d ∧ Q (.str d.shown) H
theorem cr_reprA {j : Nat} (hr : Room j X.A) (hg : X.A.guards = some []) : CallR X (.builtin "repr") (rReprA X) := by
  intro pins s σ H vs us Q I r ⟨v, d, e, rd, ok, q⟩
  subst e
  cases r with
  | cons ra rn =>
  cases rn
  obtain ⟨as, g, ns⟩ := rd pins σ s _ I ra
  have := ok.dp
  exact DvLow.repr_any g ok.sh ns hg (by have := hr.un; omega) ok.ln fun h' u tk k => ⟨.str _, H, I.kept (h' := h') (t' := tk) k, ⟨_, rfl⟩, q⟩
abbrev reprAW (ws : List W) (mu : Mu) (P : PW1) : Prop := ∃ w d, ws = [w] ∧ asF mu w = some d ∧ ShowOk d ∧ P (.str d.shown) mu
theorem reprA_w : CallW X (rReprA X) reprAW := fun ws vs mu H P Q d m ⟨w, dd, e, ha, ok, q⟩ k => by
  subst e
  obtain ⟨v, ev, dv⟩ := d.one
  subst ev
  exact ⟨v, dd, rfl, asF_ok m dv ha, ok, k.now q rfl m⟩
theorem se_reprA {j : Nat} (hr : Room j X.A) (hgd : X.A.guards = some []) (h : SE X e G mu fun w mu1 => reprAW [w] mu1 P) (hm : X.mg "repr" = none) (hg : Gl X "repr" := by rfl) (he : starEach [e] X.env = [(false, eval e X.env)] := by rfl) (hpl : (backTo pos (starEach [] X.env)).any (·.1) = false := by rfl) :
    SE X (.Call (.Name "repr" p) [e] [] pos) G mu P := se_blt (cr_reprA hr hgd) reprA_w hm (sa_one h he) (by decide +kernel) hg (by decide) (by decide) he hpl
end
/-! frozen -/
def remM (mu : Mu) (a : Addr) : Mu := fun b => if b = a then none else mu b
theorem rem_set {mu : Mu} {a : Addr} {c : C} (h : mu a = none) : remM (setM mu a c) a = mu := by
  funext b
  unfold remM setM
  by_cases e : b = a
  · rw [if_pos e, e, h]
  · rw [if_neg e, if_neg e]
section
variable {X : Cx} {e : Expr} {G : Gs} {mu : Mu} {P : PW1}
abbrev frzW (mu : Mu) (P : PW1) (w : W) (mu1 : Mu) : Prop := ∃ a, w = .m a ∧ mu a = none ∧ ((∃ ws, mu1 a = some (.lst ws) ∧ P (.fl ws) (remM mu1 a)) ∨ ∃ ks ws, mu1 a = some (.dic ((ks.map Sum.inr).zip ws)) ∧ ks.length = ws.length ∧ P (.fd ks ws) (remM mu1 a))
theorem se_frz (h : SE X e G mu fun w mu1 => frzW mu P w mu1) : SE X e G mu P := fun σ H Q d m k pins s I => by
  refine wpAny_mono (h σ H (fun v H1 => ∃ w mu1, frzW mu P w mu1 ∧ Chg mu H mu1 H1 ∧ Den X.K H1 w v ∧ HM X.K H1 mu1) d m (fun v w mu1 H1 f c d1 m1 => ⟨w, mu1, f, c, d1, m1⟩) pins s I) (fun u s1 hu => ?_) fun _ _ q => q
  obtain ⟨v, H1, I1, r, w, mu1, ⟨a, e, na, f⟩, c, d1, m1⟩ := hu
  subst e
  have d1 : v = .ref a := d1
  subst d1
  have fresh : H a = none := by
    cases hh : H a with
    | none => rfl
    | some o =>
      have := c.new a o hh na
      rcases f with ⟨ws, f, _⟩ | ⟨ks, ws, f, _⟩ <;> rw [f] at this <;> cases this
  have step : ∀ (u : HO) (w2 : W) (od : Obj), H1 a = some u → Inv X pins σ (upd H1 a (.frz od u)) s1 → mu1 a ≠ none → Den X.K (upd H1 a (.frz od u)) w2 (.ref a) → P w2 (remM mu1 a) → (∀ o2 u2, u ≠ .frz o2 u2) → (∀ xs, u ≠ .tup xs) → EP X pins σ Q _ s1 := fun u w2 od hu I2 hc dw pw nf nt => by
    have ne : ∀ b, mu1 b = none → b ≠ a := fun b hb z => hc (z ▸ hb)
    have kp : Kps X.K H1 (upd H1 a (.frz od u)) := ⟨fun b xs sq => by
      rcases sq with (q | ⟨o, q⟩) | q
      · exact .inl (.inl (by rw [upd_ne fun z => (by rw [z, hu] at q; cases q; exact nt _ rfl)]; exact q))
      · exact .inl (.inr ⟨o, by rw [upd_ne fun z => (by rw [z, hu] at q; cases q; exact nf _ _ rfl)]; exact q⟩)
      · exact .inr q, fun b o u2 q => by rw [upd_ne fun z => (by rw [z, hu] at q; cases q; exact nf _ _ rfl)]; exact q⟩
    refine ⟨.ref a, _, I2, r, k (.ref a) w2 (remM mu1 a) _ pw ⟨fun b o hb n => ?_, fun b cc hb => ?_, fun b o hb n => ?_⟩ dw fun b cc hb => ?_⟩
    · have nb : b ≠ a := fun z => by rw [z, fresh] at hb; cases hb
      rw [upd_ne nb]
      exact c.keep b o hb n
    · have nb : b ≠ a := fun z => by rw [z, na] at hb; cases hb
      obtain ⟨c2, q⟩ := c.old b cc hb
      exact ⟨c2, by unfold remM; rw [if_neg nb]; exact q⟩
    · unfold remM
      split
      · rfl
      · exact c.new b o hb n
    · unfold remM at hb
      split at hb
      · cases hb
      · rename_i nb
        exact CellOk.mono kp (m1 b cc hb) (upd_ne nb)
  rcases f with ⟨ws, f, p⟩ | ⟨ks, ws, f, hl, p⟩
  · obtain ⟨xs, hx, dx⟩ := m1 a _ f
    obtain ⟨od, I2⟩ := I1.lock hx trivial
    refine step (.lst xs) (.fl ws) od hx I2 (by rw [f]; intro z; cases z) ⟨a, od, xs, rfl, upd_same, DenAll.mono ⟨fun b xs2 sq => ?_, fun b o u2 q => ?_⟩ _ dx⟩ p (fun _ _ z => nomatch z) (fun _ z => nomatch z)
    · rcases sq with (q | ⟨o, q⟩) | q
      · exact .inl (.inl (by rw [upd_ne fun z => (by rw [z, hx] at q; cases q)]; exact q))
      · exact .inl (.inr ⟨o, by rw [upd_ne fun z => (by rw [z, hx] at q; cases q)]; exact q⟩)
      · exact .inr q
    · rw [upd_ne fun z => (by rw [z, hx] at q; cases q)]; exact q
  · obtain ⟨vs, hx, k1, dx⟩ := m1 a _ f
    obtain ⟨od, I2⟩ := I1.lock hx trivial
    have e1 : ((ks.map (Sum.inr : Str → Key)).zip ws).map (·.1) = ks.map Sum.inr := List.map_fst_zip (by rw [List.length_map]; omega)
    have e2 : ((ks.map (Sum.inr : Str → Key)).zip ws).map (·.2) = ws := List.map_snd_zip (by rw [List.length_map]; omega)
    rw [e1] at k1
    rw [e2] at dx
    refine step (.dK vs) (.fd ks ws) od hx I2 (by rw [f]; intro z; cases z) ⟨a, od, vs, rfl, upd_same, k1.symm, DenAll.mono ⟨fun b xs2 sq => ?_, fun b o u2 q => ?_⟩ _ dx⟩ p (fun _ _ z => nomatch z) (fun _ z => nomatch z)
    · rcases sq with (q | ⟨o, q⟩) | q
      · exact .inl (.inl (by rw [upd_ne fun z => (by rw [z, hx] at q; cases q)]; exact q))
      · exact .inl (.inr ⟨o, by rw [upd_ne fun z => (by rw [z, hx] at q; cases q)]; exact q⟩)
      · exact .inr q
    · rw [upd_ne fun z => (by rw [z, hx] at q; cases q)]; exact q
end
end Dv
set_option Elab.async false
set_option linter.all false
set_option maxRecDepth 100000
/-! sorted(set(xs)) of texts, any number. -/
namespace TO
open PySem PySem.Spec PyProof.Rows L2 PySem.Froz
/-- a set of texts whose places rise -/
structure TxR (pr : Program) (ww : World) (h : Heap) (a : Addr) (l : List Str) : Prop where
  ex : ∃ D : SD, h.get? a = some (sObj "set" D) ∧ TxOk pr ww D l ∧ Ris D.2.2.place.toList ∧ (ww.params.followText "set-order" = true ∨ D.2.2.led = true)
theorem TxR.keep {pr : Program} {ww : World} {h h' : Heap} {a : Addr} {l : List Str} (R : TxR pr ww h a l) (k : ∀ o, h.get? a = some o → h'.get? a = some o) : TxR pr ww h' a l := by
  obtain ⟨D, h1, h2⟩ := R.ex
  exact ⟨D, k _ h1, h2⟩
theorem tail_ris {ep : Nat} {es : Array (Int × Value)} {t : SetTable} {b : Bool} (r : Ris t.place.toList) : Ris (tailTx ep es t b).2.2.place.toList ∧ (tailTx ep es t b).2.2.led = t.led := by
  unfold tailTx
  by_cases c : (!b && t.tooFull) = true
  · rw [if_pos c]; exact ⟨relayAll_ris t es _, relayAll_led t es _⟩
  · rw [if_neg c]; exact ⟨r, rfl⟩
theorem add_ris {D : SD} {h : Int} {v : Value} (r : Ris D.2.2.place.toList) : Ris (addTx h v D).2.2.place.toList ∧ (addTx h v D).2.2.led = D.2.2.led := by
  have h1 := layNew_ris D.2.2 D.1 h v r
  have h2 := layNew_led D.2.2 D.1 h v
  unfold addTx
  by_cases c : (layNew D.2.2 D.1 h v).2.1.plain = true
  · rw [if_pos c]
    have q := tail_ris (ep := D.2.1) (es := (layNew D.2.2 D.1 h v).1) (t := { (layNew D.2.2 D.1 h v).2.1 with plain := false }) (b := (layNew D.2.2 D.1 h v).2.2.1) h1
    exact ⟨q.1, q.2.trans h2⟩
  · rw [if_neg c]
    have q := tail_ris (ep := D.2.1) (es := (layNew D.2.2 D.1 h v).1) (t := (layNew D.2.2 D.1 h v).2.1) (b := (layNew D.2.2 D.1 h v).2.2.1) h1
    exact ⟨q.1, q.2.trans h2⟩
section
variable {pr : Program} {ww : World} {A : Around} {E : Value → Shared → Prop} {s : Shared}
/-- a text that is a member already -/
theorem add_old {a : Addr} {D : SD} {l : List Str} {k : Str} {u : Tok} {Q : Bool → Shared → Prop} (ho : s.heap.get? a = some (sObj "set" D)) (F : TxOk pr ww D l) (hk : k ∈ l) (hb : l.length < scanBound) (h : Q false s) : wpAny (model pr ww) A (setAddHashed a (.str k u) (hashStr ww k)) Q E s := by
  obtain ⟨es, ep, t⟩ := D
  have hsz : es.size < scanBound := by have : es.size = l.length := F.sz; omega
  have key : (strKind pr ww).is k (.str k u) = true := is_str k u
  obtain ⟨e, he, hi⟩ := (F.mem k).mp hk
  have some1 : ∃ j, List.findIdx? (fun e => (strKind pr ww).is k e.2) es.toList = some j := by
    cases q : List.findIdx? (fun e => (strKind pr ww).is k e.2) es.toList with
    | some j => exact ⟨j, rfl⟩
    | none => exact absurd hi (by simpa using List.findIdx?_eq_none_iff.mp q e he)
  obtain ⟨j, hj⟩ := some1
  unfold setAddHashed
  refine wpAny_holding ?_
  unfold setAddHashedIn
  refine wpAny_bind (wpAny_setState_of (o := sObj "set" (es, ep, t)) ho rfl F.fit ?_)
  dsimp only
  rw [byScan_of (knd := strKind pr ww) rfl hsz F.el, if_pos rfl]
  unfold setAddByScan
  refine wpAny_bind (wpAny_bind (wpAny_rule (wpAny_bind ((show wpAny (model pr ww) A (setScan a (.str k u) ((strKind pr ww).hash k) true es) _ E s from wpAny_setScan_of (knd := strKind pr ww) key ho rfl F.fit F.el (by
    rw [hj]
    exact wpAny_pure (wpAny_pure h)))))))
theorem add_any {a : Addr} {l : List Str} {k : Str} {u : Tok} {Q : Bool → Shared → Prop} (R : TxR pr ww s.heap a l) (hb : l.length + 1 < scanBound)
    (h : ∀ b h' l', Heap.SameBut a s.heap h' → TxR pr ww h' a l' → (∀ y, y ∈ l' ↔ y = k ∨ y ∈ l) → l'.length ≤ l.length + 1 → Q b { s with heap := h' }) : wpAny (model pr ww) A (setAddHashed a (.str k u) (hashStr ww k)) Q E s := by
  obtain ⟨D, ho, F, r, lg⟩ := R.ex
  by_cases hk : k ∈ l
  · refine add_old ho F hk (by omega) ?_
    exact h false s.heap l ⟨rfl, fun b hb => rfl⟩ R (fun y => ⟨.inr, fun q => q.elim (fun e => e ▸ hk) id⟩) (Nat.le_succ _)
  · refine add_x ho F hk hb ?_
    have r2 := add_ris (h := hashStr ww k) (v := .str k u) r
    refine h true _ (k :: l) ?_ ⟨addTx (hashStr ww k) (.str k u) D, get_upd _ ho rfl, add_ok u F, r2.1, lg.imp id fun q => r2.2.trans q⟩ (fun y => List.mem_cons) (by simp)
    exact Heap.SameBut.update _ _ _
theorem fresh_r {h : Heap} {a : Addr} (ho : h.get? a = some (TxSet.bare (!ww.params.followText "set-order"))) : TxR pr ww h a [] :=
  ⟨(#[], 0, .fresh 0 0 (!ww.params.followText "set-order")), ho, .nil rfl, List.Pairwise.nil, by
    show _ ∨ (!ww.params.followText "set-order") = true
    cases ww.params.followText "set-order"
    · exact .inr rfl
    · exact .inl rfl⟩
/-- one text after another -/
theorem fillR {R : Result → Shared → Prop} {I D : Addr} {fp wr : List Addr} {G : Array GenState → Array GenState → Prop} {m : Nat} {Pv : Nat → Value → Prop} {St : Nat → Shared → Prop}
    (Wk : WalksS pr ww A.in1 I fp wr G m Pv St) (hD : D ∉ fp) (xs : List Str) (hm : xs.length = m) (few : m + 1 < scanBound) (hP : ∀ i v, Pv i v → ∃ x t, xs[i]? = some x ∧ v = .str x t) :
    ∀ (left i : Nat) (sh : Shared), m - i = left → i ≤ m → St i sh → (∃ l, TxR pr ww sh.heap D l ∧ l.length ≤ i ∧ ∀ y, y ∈ l ↔ y ∈ xs.take i) →
      (∀ sh2, Moved (D :: wr) G sh sh2 → (∃ l, TxR pr ww sh2.heap D l ∧ l.length ≤ m ∧ ∀ y, y ∈ l ↔ y ∈ xs) → R (.ok (.ret .none)) sh2) → codeAny (model pr ww) A (.builtin "set.update.loop" ⟨[.ref D, .ref I], []⟩) R sh := by
  have outw : D ∉ wr := fun z => hD (Wk.sub _ z)
  have more : ∀ b ∈ wr, b ∈ D :: wr := fun b z => List.mem_cons_of_mem _ z
  intro left
  induction left with
  | zero =>
    rintro i sh z0 hi st ⟨l, hS, ll, lm⟩ fin
    have e : i = m := by omega
    subst e
    (refine codeAny_builtin F.entry_set_update_loop ?_; rw [Around.under_plainId F.plain_set_update_loop _])
    show wpAny _ A.in1 (pyNext (.ref I) >>= _) _ _ sh
    refine wpAny_bind (Wk.done sh _ _ st fun sh2 mv => ?_)
    show wpAny _ A.in1 (ret Value.none) _ _ sh2
    rw [← hm, List.take_length] at lm
    exact wpAny_pure (fin sh2 (mv.mono more) ⟨l, hS.keep fun o e => mv.heap D o outw e, by omega, lm⟩)
  | succ left ih =>
    rintro i sh z0 hi st ⟨l, hS, ll, lm⟩ fin
    have lt : i < m := by omega
    (refine codeAny_builtin F.entry_set_update_loop ?_; rw [Around.under_plainId F.plain_set_update_loop _])
    show wpAny _ A.in1 (pyNext (.ref I) >>= _) _ _ sh
    refine wpAny_bind (Wk.item i sh _ _ lt st fun v sh2 hv st2 mv => ?_)
    obtain ⟨x, t, hx, rfl⟩ := hP i v hv
    have hS2 : TxR pr ww sh2.heap D l := hS.keep fun o e => mv.heap D o outw e
    show wpAny _ A.in1 (holding [Value.str x t] (setAdd D (.str x t)) >>= _) _ _ sh2
    (refine wpAny_bind (wpAny_holding ?_); unfold setAdd)
    refine wpAny_holding (wpAny_bind ((strKind pr ww).pyHash (k := x) (strKind_is _ _ _ _) ?_))
    refine add_any (s := { sh2 with toks := sh2.toks + 1 }) hS2 (by omega) fun b h3 l3 same hS3 hm3 hl3 => ?_
    refine wpAny_pure ⟨plainId_quiet F.plain_set_update_loop _, ih (i + 1) _ (by omega) lt (Wk.frame _ sh2 _ _ st2 (Nat.le_succ _) fun b z o e => (same.2 b fun q : b = D => hD (q ▸ z)).trans e) ⟨l3, hS3, by omega, fun y => ?_⟩
      fun sh3 mv3 hS5 => fin sh3 (Moved.trans Wk.gtrans ((mv.mono more).then_heap (Nat.le_succ _) fun b o z e => (same.2 b fun q : b = D => z (by rw [q]; exact List.mem_cons_self)).trans e) mv3) hS5⟩
    rw [hm3, List.take_add_one, hx, List.mem_append, lm]
    simp [or_comm]
end
section
variable {pr : Program} {ww : World} {A : Around} {E : Value → Shared → Prop} {sh : Shared}
set_option maxHeartbeats 3300000 in
theorem newR {ad : Addr} {its : Array Value} {xs : List Str} {Q : Value → Shared → Prop} (noExc : A.handled = none) (hseq : sh.heap.IsList ad its) (tx : StrsAre its.toList xs) (few : its.size + 1 < scanBound)
    (fin : ∀ (h2 : Heap) (t2 : Nat), (∃ l, TxR pr ww h2 sh.heap.objs.size l ∧ l.length ≤ xs.length ∧ ∀ y, y ∈ l ↔ y ∈ xs) → (∀ b o, b < sh.heap.objs.size → sh.heap.get? b = some o → h2.get? b = some o) → Q (.ref sh.heap.objs.size) { sh with heap := h2, toks := t2 }) : wpAny (model pr ww) A (call (.type "set") [.ref ad]) Q E sh := by
  obtain ⟨cc, rest, mro⟩ := F.called_set.mro
  have made := F.called_set.made
  have subS := F.called_set.sub
  (refine wpAny_call (codeAny_of_tree ?_); show wpAny _ _ (callAny (.type "set") _) _ _ sh; refine wpAny_pure ⟨Code.quiet_builtin _ (by decide +kernel), codeAny_builtin F.entry_type_call ?_⟩)
  rw [Around.under_plain (weight_type_call_type "set" [.ref ad] []) rfl]
  have n1 := F.called_set.notType
  have n2 := F.called_set.canCreate
  have n3 := F.typeCall_set_1 (.ref ad)
  repeat any_goals first | assumption | wp_step
  obtain ⟨ld, eld⟩ : ∃ ld, ld = !ww.params.followText "set-order" := ⟨_, rfl⟩
  refine codeAny_mono (code_set_led1 (.ref ad) (E := E) (Q₁ := fun ob sh1 => ob = .ref sh.heap.objs.size ∧ sh1 = { sh with heap := sh.heap.push (TxSet.bare ld) }) ⟨rfl, by rw [eld]⟩) fun r sh1 hr => ?_
  rcases r with ex | fl
  · exact hr
  cases fl with
  | ret ob =>
    obtain ⟨rfl, rfl⟩ := hr
    have at0 : (sh.heap.push (TxSet.bare ld)).get? sh.heap.objs.size = some (TxSet.bare ld) := Heap.get?_push_size _ rfl
    have ty0 : Shared.TypeIs { sh with heap := sh.heap.push (TxSet.bare ld) } (.ref sh.heap.objs.size) "set" := ⟨_, at0, rfl⟩
    have in1 := F.called_set.init.lookup
    have in2 := F.called_set.init.bind (.ref sh.heap.objs.size)
    repeat any_goals first | assumption | wp_step
    refine codeAny_mono (codeAny_call_builtin (R := wants (fun r sh2 => r = .none ∧ ∃ h2 t2, sh2 = { sh with heap := h2, toks := t2 } ∧ (∃ l, TxR pr ww h2 sh.heap.objs.size l ∧ l.length ≤ xs.length ∧ ∀ y, y ∈ l ↔ y ∈ xs) ∧ (∀ b o, b < sh.heap.objs.size → sh.heap.get? b = some o → h2.get? b = some o)) E) F.called_set.init.plain F.entry_set_init (check_set_init_1 ty0 ?_)) fun r2 sh2 hr2 => ?_
    · obtain ⟨⟨oc, odt, oda, osl⟩, hol, hcl, nl, hdl⟩ := hseq
      simp only at hcl hdl
      subst hcl hdl
      have hol2 : (sh.heap.push (TxSet.bare ld)).get? ad = some { cls := .type "list", dict := odt, data := .seq its nl, slots := osl } := Heap.get?_push_of_some _ hol
      have sub1 := PySem.F.sub_list_set
      have sub2 := PySem.F.sub_list_frozenset
      have neD : (Value.type "list" == Value.type "dict") = false := by decide
      have seq2 : (sh.heap.push (TxSet.bare ld)).IsList ad its := ⟨_, hol2, rfl, nl, rfl⟩
      (unfold Builtin.«set.__init__» noKeywords Builtin.Frozenset.updateFrom; generalize ePI : pyIter = PI)
      wp_walk
      subst ePI
      refine wpAny_pyIter_list seq2 (wpAny_bind (wpAny_runValue ?_))
      have adLt : ad < sh.heap.objs.size := Heap.lt_size hol
      have noExc3 : A.in1.in1.in1.handled = none := by simp [noExc]
      have apart : ad ≠ (sh.heap.push (TxSet.bare ld)).objs.size := by rw [Heap.size_push]; exact Nat.ne_of_lt (Nat.lt_succ_of_lt adLt)
      have out : sh.heap.objs.size ∉ [(sh.heap.push (TxSet.bare ld)).objs.size, ad] := by
        rw [Heap.size_push]
        simp only [List.mem_cons, List.mem_singleton, List.not_mem_nil, or_false, not_or]
        exact ⟨Nat.ne_of_lt (Nat.lt_succ_self _), Nat.ne_of_gt adLt⟩
      have lenX : xs.length = its.size := by rw [← StrsAre.len_eq tx, Array.length_toList]
      have each : ∀ (i : Nat) (v : Value), its[i]? = some v → ∃ x t, xs[i]? = some x ∧ v = .str x t := fun i v hv => by
        have il : i < xs.length := by rw [lenX]; exact (Array.getElem?_eq_some_iff.mp hv).1
        obtain ⟨t, e⟩ := SS.strs_at tx i v (by rw [Array.getElem?_toList]; exact hv)
        refine ⟨xs[i], t, List.getElem?_eq_getElem il, ?_⟩
        rw [e, List.getD_eq_getElem?_getD, List.getElem?_eq_getElem il]
        rfl
      refine fillR ((Walks.list noExc3 _ ad apart its).toS) out xs lenX few each (its.size - 0) 0 _ (by omega) (Nat.zero_le _) ⟨⟨_, Heap.get?_push_size _ rfl, rfl, rfl⟩, seq2.push _⟩ ?begin ?after
      case begin =>
        have at1 : ((sh.heap.push (TxSet.bare ld)).push { cls := .type "list_iterator", data := .fields #[.ref ad, .int 0 0] }).get? sh.heap.objs.size = some (TxSet.bare ld) := Heap.get?_push_of_some _ at0
        rw [eld] at at1 ⊢
        exact ⟨[], fresh_r at1, Nat.le_refl _, fun y => by simp⟩
      case after =>
        intro sh3 mv hS
        obtain ⟨h3, g3, d3, t3, o3⟩ := sh3
        have eg : g3 = sh.gens := mv.gens
        have ed : d3 = sh.drawn := mv.drawn
        have eo : o3 = sh.os := mv.os
        subst eg ed eo
        show wpAny _ _ _ _ _ _
        (refine wpAny_pure ?_; show wpAny _ _ (ret Value.none) _ _ _)
        refine wpAny_pure ⟨rfl, h3, t3, rfl, (by rw [lenX]; exact hS), fun b o hb e => mv.heap b o ?_ (Heap.get?_push_of_some _ (Heap.get?_push_of_some _ e))⟩
        have b1 : b ≠ sh.heap.objs.size := Nat.ne_of_lt hb
        have b2 : b ≠ (sh.heap.push (TxSet.bare ld)).objs.size := by rw [Heap.size_push]; exact Nat.ne_of_lt (Nat.lt_succ_of_lt hb)
        simp only [List.mem_cons, List.mem_singleton, List.not_mem_nil, or_false, not_or]
        exact ⟨b1, b2⟩
    · rcases r2 with ex | fl2
      · exact hr2
      cases fl2 with
      | ret r =>
        obtain ⟨rfl, h2, t2, rfl, hS, hk⟩ := hr2
        repeat any_goals first | assumption | wp_step
        exact fin _ _ hS hk
      | _ => exact hr2.elim
  | _ => exact hr.elim
end
end TO
set_option Elab.async false
set_option linter.all false
set_option maxRecDepth 100000
/-! sorted(set(xs)) of texts: the rule. -/
namespace TO
open PySem PySem.Spec PyProof.Rows L2 PySem.Froz
def txt : Value → Str
  | .str x _ => x
  | _ => Str.empty
theorem mem_txt {pr : Program} {ww : World} {D : SD} {l : List Str} (F : TxOk pr ww D l) {vs : List Value} (pm : vs.Perm (D.1.toList.map (·.2))) : (∀ v ∈ vs, ∃ t, v = .str (txt v) t ∧ txt v ∈ l) ∧ ∀ y ∈ l, y ∈ vs.map txt := by
  have one : ∀ k v, (strKind pr ww).is k v = true → ∃ t, v = .str k t := fun k v h => by
    have h : Value.isStrOf k v = true := h
    cases v with
    | str x t => exact ⟨t, by have := (show x = k from by simpa [Value.isStrOf] using h); rw [this]⟩
    | _ => simp [Value.isStrOf] at h
  refine ⟨fun v hv => ?_, fun y hy => ?_⟩
  · obtain ⟨e, he, rfl⟩ := List.mem_map.mp (pm.mem_iff.mp hv)
    obtain ⟨⟨k, hk, _⟩, _⟩ := F.el e he
    obtain ⟨t, ht⟩ := one k e.2 hk
    refine ⟨t, by rw [ht]; rfl, ?_⟩
    rw [ht]
    exact (F.mem k).mpr ⟨e, he, hk⟩
  · obtain ⟨e, he, hk⟩ := (F.mem y).mp hy
    obtain ⟨t, ht⟩ := one y e.2 hk
    refine List.mem_map.mpr ⟨e.2, pm.mem_iff.mpr (List.mem_map.mpr ⟨e, he, rfl⟩), ?_⟩
    rw [ht]
    rfl
theorem alike_txt (ys : List Str) : PySem.W.AllAlike (ys.map PyData.str) ∧ PySem.W.Sortable (ys.map PyData.str) := by
  have each : ∀ d ∈ ys.map PyData.str, ∃ x, d = .str x := fun d hd => by
    obtain ⟨x, _, rfl⟩ := List.mem_map.mp hd
    exact ⟨x, rfl⟩
  refine ⟨fun d hd d' hd' => ?_, .inr fun d hd => ?_⟩
  · obtain ⟨x, rfl⟩ := each d hd
    obtain ⟨y, rfl⟩ := each d' hd'
    simp [PySem.W.alike]
  · obtain ⟨x, rfl⟩ := each d hd
    exact ⟨by simp, by simp⟩
theorem each_txt {R : Value → Str → Prop} : ∀ {vs : List Value}, (∀ v ∈ vs, R v (txt v)) → PySem.W.EachIs R vs (vs.map txt)
  | [], _ => .nil
  | v :: vs, h => .cons (h v (by simp)) (each_txt fun u hu => h u (by simp [hu]))
theorem vals_txt : ∀ {vs : List Value} {ys : List Str}, PySem.W.EachIs (fun v y => ∃ t, v = Value.str y t) vs ys → Vals (ys.map V.str) vs
  | _, _, .nil => .nil
  | _, _, .cons h r => .cons h (vals_txt r)
def tSortTx (K : PySem.W.Frag) (ta : TE) : TE := fun σ H Q => ta σ H fun x H1 => ∃ (l : Addr) (xs : List Str), x = .ref l ∧ SqL K H1 l (xs.map V.str) ∧ xs.length ≤ 1000 ∧ ∀ (y : Addr) (ys : List Str), H1 y = none → (∀ z, z ∈ ys ↔ z ∈ xs) → ys.length ≤ xs.length → Q (.ref y) (upd H1 y (.lst (ys.map V.str)))
set_option maxHeartbeats 1000000 in
theorem pe_sortTx {X : Cx} {a : Expr} {ta : TE} {p p2 q pos : Pos} {j : Nat} (hr : Room j X.A) (hc : X.calm = true) (hg : Gl X "sorted") (hm : X.mg "sorted" = none) (hg2 : Gl X "set") (hm2 : X.mg "set" = none) (ha : PE X a ta) (na : starEach [a] X.env = (false, eval a X.env) :: starEach [] X.env := by rfl) :
    PE X (.Call (.Name "sorted" p) [.Call (.Name "set" p2) [a] [] q] [] pos) (tSortTx X.K ta) := by
  refine ⟨fun pins s σ H Q I h => Call_ (ld_blt I hg hm boot_sorted (PyProof.Rows.callWith_builtin1 (PyProof.Rows.args_cons (Call_ (ld_blt I hg2 hm2 boot_set (PyProof.Rows.callWith_type1 (PyProof.Rows.args_cons (thn (ha.run pins s σ H _ I h) fun v s1 ⟨x, H1, I1, r1, l, xs, ex, hq, l3, qq⟩ => PyProof.Rows.args_nil ?_) na) na rfl))) rfl) rfl rfl))⟩
  subst ex
  cases r1
  obtain ⟨itms, rv, pl, hz⟩ := I1.list hq
  have hl := rv.length
  rw [List.length_map] at hl
  have un := hr.un
  have noExc : X.A.handled = none := I1.ok.hd hc
  refine newR (xs := xs) noExc pl.isList (by simpa using strsAre_of rv) (by simp; unfold scanBound; omega) fun h' tk ⟨ls, R, ll, lm⟩ hk => ?_
  refine PyProof.Rows.args_nil ?_
  have J : L2.Inv X pins σ H1 { s1 with heap := h', toks := tk } := I1.kept fun b ob z => hk b ob (Heap.lt_size z) z
  obtain ⟨D, ho, F, ris, led⟩ := R.ex
  have sz : D.1.size = ls.length := F.sz
  refine SortT.sorted_by (β := Str) (enc := fun b => PyData.str b) (R := fun u b => ∃ t, u = Value.str b t) (OK := fun vs s2 => vs.Perm (D.1.toList.map (·.2)) ∧ (∀ b u, h'.get? b = some u → s2.heap.get? b = some u) ∧ h'.objs.size ≤ s2.heap.objs.size ∧ s2.gens = s1.gens ∧ s2.os = s1.os)
    (fun h => L2.collect_set (s := { s1 with heap := h', toks := tk }) (by simp [noExc]) ⟨_, ho, rfl, rfl⟩ F.fit (by rw [sz]; unfold scanBound; omega) ris led fun s2 vs k1 hz g1 o1 pm => h vs s2 ⟨pm, k1, hz, g1, o1⟩) ?_
  rintro vs s2 ⟨pm, k1, z1, g1, o1⟩
  obtain ⟨m1, m2⟩ := mem_txt F pm
  have vl : vs.length = ls.length := by rw [pm.length_eq, List.length_map, Array.length_toList, sz]
  have J2 : L2.Inv X pins σ H1 { s1 with heap := s2.heap, toks := tk } := J.kept (t' := tk) k1
  refine ⟨vs.map txt, each_txt fun v hv => ?_, each_txt fun v hv => ?_, (alike_txt _).1, (alike_txt _).2, by rw [List.length_map, vl, sizeLine_eq]; omega, fun b hb => ?_, fun out c h2 hlo he k2 hcc => ?_⟩
  · obtain ⟨t, e, _⟩ := m1 v hv
    exact ⟨t, e⟩
  · obtain ⟨t, e, _⟩ := m1 v hv
    exact Dp.reads J2 (.str (txt v)) (.str (txt v)) v (.str _) ⟨t, e⟩
  · show X.A.units + 2 + 0 < cLine
    omega
  · have hn : H1 s2.heap.objs.size = none := J.hok.fresh z1
    have prm := List.mergeSort_perm (vs.map txt) (PySem.W.dataLe false fun b => PyData.str b)
    generalize (vs.map txt).mergeSort (PySem.W.dataLe false fun b => PyData.str b) = cs at he prm
    have cl : cs.length = ls.length := by rw [prm.length_eq, List.length_map, vl]
    have kk : ∀ b u, h'.get? b = some u → h2.get? b = some u := fun b u e => k2 b u (k1 b u e)
    have JJ : L2.Inv X pins σ (upd H1 s2.heap.objs.size (.lst (cs.map V.str))) { s1 with heap := h2, gens := s2.gens, drawn := s2.drawn, toks := s2.toks } :=
      L2.Inv.call (s := { s1 with heap := h', toks := tk }) (ch := []) J (Un.laid kk z1 hn) (J.hok.laid kk z1 ⟨by rw [List.length_map, cl, sizeLine_eq]; omega, out, c, vals_txt he, hcc⟩) (by rw [g1]; exact I1.bare) (fun _ z => nomatch z)
    have e : { s2 with heap := h2 } = { s1 with heap := h2, gens := s2.gens, drawn := s2.drawn, toks := s2.toks } := by
      cases s2
      cases s1
      cases o1
      rfl
    rw [e]
    refine ⟨.ref s2.heap.objs.size, _, JJ, rfl, qq _ cs hn (fun z => ?_) (by omega)⟩
    rw [prm.mem_iff, ← lm z]
    exact ⟨fun hz => by obtain ⟨v, hv, rfl⟩ := List.mem_map.mp hz; exact (m1 v hv).choose_spec.2, m2 z⟩
end TO
namespace Dv
open PySem L2
theorem denAll_txt {K : PySem.W.Frag} {H : Hp} : ∀ {xs : List Str} {vs : List V}, DenAll K H (xs.map W.str) vs → vs = xs.map V.str
  | [], _, d => d
  | x :: xs, _, ⟨v, r, e, d1, d2⟩ => by
    have d1 : v = .str x := d1
    rw [e, d1, denAll_txt d2]
    rfl
theorem se_sortTx {X : Cx} {e : Expr} {G : Gs} {mu : Mu} {p p2 q pos : Pos} {P : PW1} {j : Nat} (hr : Room j X.A) (h : SE X e G mu fun w mu1 => ∃ a, ∃ xs : List Str, w = .m a ∧ mu1 a = some (.lst (xs.map W.str)) ∧ xs.length ≤ 1000 ∧
      ∀ y (ys : List Str), mu1 y = none → (∀ z, z ∈ ys ↔ z ∈ xs) → ys.length ≤ xs.length → P (.m y) (setM mu1 y (.lst (ys.map W.str))))
    (hm : X.mg "sorted" = none) (hm2 : X.mg "set" = none) (hc : X.calm = true := by rfl) (hg : Gl X "sorted" := by rfl) (hg2 : Gl X "set" := by rfl) (na : starEach [e] X.env = (false, eval e X.env) :: starEach [] X.env := by rfl) : SE X (.Call (.Name "sorted" p) [.Call (.Name "set" p2) [e] [] q] [] pos) G mu P :=
  SE.mk (TO.pe_sortTx hr hc hg hm hg2 hm2 peE na) fun σ H Q d m k => h σ H _ d m fun v w mu1 H1 h1 c1 d1 m1 => by
    obtain ⟨a, xs, hw, ha, l3, qq⟩ := h1
    subst hw
    have d1 : v = .ref a := d1
    subst d1
    obtain ⟨vs, hx, dx⟩ := m1 a _ ha
    have := denAll_txt dx
    subst this
    refine ⟨a, xs, rfl, SqL.of hx, l3, fun y ys hy h1 h2 => ?_⟩
    obtain ⟨c2, m2⟩ := laidC (o := .lst (ys.map V.str)) (c := .lst (ys.map W.str)) m1 hy (newLst (den_strs ys))
    exact (k.step c1) _ _ _ _ (qq y ys (m1.dom hy) h1 h2) c2 rfl m2
end Dv
set_option Elab.async false
set_option linter.all false
set_option maxRecDepth 100000
/-! Globals (ints, dicts of tuples), sets of ints, lists unpacked, is not True, d.get(k, x), str and int of texts, functions held by names. -/
namespace Dv
open PySem L2
section
variable {X : Cx} {e a b c o f : Expr} {es : List Expr} {G : Gs} {mu mu' : Mu} {pos p apos cpos : Pos} {P : PW1}
/-- a global whole number -/
structure KInt (mg : Str → Option Value) (x : Str) (n : Int) : Prop where
  ex : ∃ t, mg x = some (.int n t)
theorem se_globI {x : Str} {n : Int} (T : KInt X.mg x n) (h : P (.int n) mu) (hg : Gl X x := by rfl) (hd : (x == ("__debug__" : Str)) = false := by decide) : SE X (.Name x pos) G mu P := by
  obtain ⟨t, ht⟩ := T.ex
  exact se_glob (w := .int n) (v := .int n) ht ⟨t, rfl⟩ (fun _ _ => rfl) h hg hd
/-- a name that is none of the module's -/
structure KNo (mg : Str → Option Value) (x : Str) : Prop where
  no : mg x = none
/-- a global text -/
structure KStr (mg : Str → Option Value) (x : Str) (z : Str) : Prop where
  ex : ∃ t, mg x = some (.str z t)
theorem se_globS {x : Str} {z : Str} (T : KStr X.mg x z) (h : P (.str z) mu) (hg : Gl X x := by rfl) (hd : (x == ("__debug__" : Str)) = false := by decide) : SE X (.Name x pos) G mu P := by
  obtain ⟨t, ht⟩ := T.ex
  exact se_glob (w := .str z) (v := .str z) ht ⟨t, rfl⟩ (fun _ _ => rfl) h hg hd
/-- a global dict of tuples of texts -/
structure KDic (K : PySem.W.Frag) (w : World) (mg : Str → Option Value) (x : Str) (f : Str → Option (List Str)) : Prop where
  ex : ∃ p, mg x = some (.ref p) ∧ ∀ z ys, f z = some ys → ∃ a o its n, KDct K w p z (.ref a) ∧ K.lookup a = some o ∧ o.cls = .type "tuple" ∧ o.data = .seq its n ∧ its.size ≤ sizeLine ∧ Vals (ys.map V.str) its.toList
theorem se_globIx {x : Str} {f : Str → Option (List Str)} (T : KDic X.K X.w X.mg x f) (h : SE X b G mu fun w mu1 => ∃ z ys, w = .str z ∧ f z = some ys ∧ P (.tup (ys.map W.str)) mu1) (hg : Gl X x := by rfl) (hd : (x == ("__debug__" : Str)) = false := by decide) (hs : PlainIx b := by exact fun _ _ => rfl) : SE X (.Subscript (.Name x p) b pos) G mu P := by
  obtain ⟨q, hm, hf⟩ := T.ex
  refine SE.mk (pe_ix ix_kdict (pe_glob hg hm (v := .ref q) rfl hd) peE hs) fun σ H Q d m k => ?_
  refine h σ H _ d m fun v w mu1 H1 ⟨z, ys, e1, e2, h1⟩ c1 d1 m1 => ?_
  subst e1
  have d1 : v = .str z := d1
  subst d1
  obtain ⟨a, o, its, n, hk, hl, hc, hs', hz, r⟩ := hf z ys e2
  exact ⟨q, z, .ref a, rfl, rfl, hk, k _ _ _ _ h1 c1 ⟨a, _, rfl, .inr ⟨o, its, n, hl, hc, hs', hz, r⟩, den_strs ys⟩ m1⟩
/-- len(set(ns)), ns different whole numbers -/
theorem denAll_int {K : PySem.W.Frag} {H : Hp} : ∀ {xs : List Int} {vs : List V}, DenAll K H (xs.map W.int) vs → vs = xs.map V.int
  | [], _, d => d
  | x :: xs, _, ⟨v, r, e, d1, d2⟩ => by
    have d1 : v = .int x := d1
    rw [e, d1, denAll_int d2]
    rfl
theorem se_lenSetI {p2 q : Pos} (h : SE X a G mu fun w mu1 => ∃ l, ∃ ns : List Int, w = .m l ∧ mu1 l = some (.lst (ns.map W.int)) ∧ ns.Nodup ∧ ns.length ≤ 4000 ∧ P (.int (ns.length : Nat)) mu1)
    (hm : X.mg "len" = none) (hm2 : X.mg "set" = none) (hc : X.calm = true := by rfl) (hg : Gl X "len" := by rfl) (hg2 : Gl X "set" := by rfl) (na : starEach [a] X.env = (false, eval a X.env) :: starEach [] X.env := by rfl) : SE X (.Call (.Name "len" p) [.Call (.Name "set" p2) [a] [] q] [] pos) G mu P :=
  SE.mk (RZ.pe_lenSetI hg hm hg2 hm2 peE hc na) fun σ H Q d m k => h σ H _ d m fun v w mu1 H1 ⟨l, ns, e1, hl, nd, hn, q⟩ c1 d1 m1 => by
    subst e1
    have d1 : v = .ref l := d1
    subst d1
    obtain ⟨vs, hx, dx⟩ := m1 l _ hl
    have := denAll_int dx
    subst this
    exact ⟨l, ns, rfl, SqL.of hx, nd, hn, k _ _ _ _ q c1 rfl m1⟩
/-- a list unpacked into names -/
theorem sg_unl {n : Nat} {kk : Nat} {l : Addr} {ws : List W} {Post : Gs → Mu → Prop} (hl : mu l = some (.lst ws)) (h : SGs X es ws G mu Post) (hc : X.calm = true := by rfl) (hn : ws.length = n := by rfl)
    (ht : ∀ {t : TGs}, PGs X es t → PG X (.Tuple es kk pos) (gUnl X.K n t) := by exact fun h => pg_unl rfl h) : SG X (.Tuple es kk pos) (.m l) G mu Post :=
  SG.mk (ht pgsG) fun σ H v Q d m dv k => by
    have dv : v = .ref l := dv
    subst dv
    obtain ⟨xs, hx, dx⟩ := m l _ hl
    exact ⟨l, xs, rfl, SqL.of hx, by rw [← dx.length]; exact hn, h σ H xs Q d m dx k⟩
theorem notB_w : OpW X rNotB fun w1 w2 mu P => ∃ i j, w1 = .bl i ∧ w2 = .bl j ∧ ∀ b, b = (!decide (i = j)) → P (.bl b) mu := fun w1 w2 x y mu H P Q dx dy m ⟨i, j, e1, e2, q⟩ k => by
  subst e1 e2
  exact ⟨i, j, dx, dy, k.now (q _ rfl) rfl m⟩
/-- d.get(k, x) -/
theorem se_get2 (hu : X.A.units + 1 < cLine) (h : SE X o G mu fun w mu1 => ∃ a kvs0, w = .m a ∧ mu1 a = some (.dic kvs0) ∧ SE X e G mu1 fun w2 mu2 => SE X f G mu2 fun w3 mu3 => ∃ kvs k, mu3 a = some (.dic kvs) ∧ keyOf w2 = some k ∧ P ((valW kvs k).getD w3) mu3)
    (m2 : M2 X o "get" apos e f cpos := by exact ⟨rfl, rfl, rfl, rfl⟩) : SE X (.Call (.Attribute o "get" apos) [e, f] [] cpos) G mu P :=
  SE.mk (pe_dget2 hu peE peE peE m2) fun σ H Q d m k => h σ H _ d m fun v w mu1 H1 ⟨a, kvs0, e1, h0, h1⟩ c1 d1 m1 => by
    subst e1
    have d1 : v = .ref a := d1
    subst d1
    obtain ⟨vs0, hx0, _⟩ := m1 a _ h0
    refine ⟨a, rfl, .inl ⟨vs0, .inl hx0⟩, h1 σ H1 _ (c1.denG m d) m1 fun y w2 mu2 H2 h2 c2 d2 m2 => h2 σ H2 _ ((c1.trans c2).denG m d) m2 fun z w3 mu3 H3 ⟨kvs, kk, h3, hk, q⟩ c3 d3 m3 => ?_⟩
    obtain ⟨vs, hx, dk⟩ := m3 a _ h3
    have ey := keyOf_den hk (c3.den m2 d2)
    subst ey
    refine ⟨valV vs kk, DGet.k hx, k _ _ _ _ q ((c1.trans c2).trans c3) ?_ m3⟩
    cases hv : valW kvs kk with
    | none => rw [DKV.getN (K := X.K) (H := H3) dk hv]; exact d3
    | some u =>
      obtain ⟨v', q1, q2⟩ := DKV.get (K := X.K) (H := H3) dk hv
      rw [q1]
      exact q2
/-- str of a whole number, of a text -/
abbrev strIW (ws : List W) (mu : Mu) (P : PW1) : Prop := ∃ i : Int, ws = [.int i] ∧ i.natAbs.log2 < 1920 ∧ P (.str (toString i)) mu
theorem strI_w : CallW X (fun xs H Q => ∃ i : Int, xs = [.int i] ∧ i.natAbs.log2 < 1920 ∧ Q (.str (toString i)) H) strIW := fun ws vs mu H P Q d m ⟨i, e, hl, q⟩ k => by
  subst e
  obtain ⟨v, rfl, dv⟩ := d.one
  have dv : v = .int i := dv
  subst dv
  exact ⟨i, rfl, hl, k.now q rfl m⟩
theorem se_strI (h : SE X e G mu fun w mu1 => strIW [w] mu1 P) (hm : X.mg "str" = none) (hg : Gl X "str" := by rfl) (he : starEach [e] X.env = [(false, eval e X.env)] := by rfl) (hpl : (backTo pos (starEach [] X.env)).any (·.1) = false := by rfl) : SE X (.Call (.Name "str" p) [e] [] pos) G mu P :=
  se_bty call_str_int strI_w hm (sa_one h he) (by decide +kernel) hg (by decide) (by decide) he hpl
theorem strS_w : CallW X (fun xs H Q => ∃ a : Str, xs = [.str a] ∧ Q (.str a) H) fun ws mu P => ∃ z, ws = [.str z] ∧ P (.str z) mu := fun ws vs mu H P Q d m ⟨z, e, q⟩ k => by
  subst e
  obtain ⟨v, rfl, dv⟩ := d.one
  have dv : v = .str z := dv
  subst dv
  exact ⟨z, rfl, k.now q rfl m⟩
theorem se_strS (h : SE X e G mu fun w mu1 => ∃ z, [w] = [.str z] ∧ P (.str z) mu1) (hm : X.mg "str" = none) (hg : Gl X "str" := by rfl) (he : starEach [e] X.env = [(false, eval e X.env)] := by rfl) (hpl : (backTo pos (starEach [] X.env)).any (·.1) = false := by rfl) : SE X (.Call (.Name "str" p) [e] [] pos) G mu P :=
  se_bty SkE.call_str_str strS_w hm (sa_one h he) (by decide +kernel) hg (by decide) (by decide) he hpl
theorem intS_w : CallW X (fun xs H Q => ∃ a n, xs = [.str a] ∧ PySem.intText? a = some n ∧ a.length ≤ 640 ∧ Q (.int n) H) fun ws mu P => ∃ a n, ws = [.str a] ∧ PySem.intText? a = some n ∧ a.length ≤ 640 ∧ P (.int n) mu := fun ws vs mu H P Q d m ⟨a, n, e, h1, h2, q⟩ k => by
  subst e
  obtain ⟨v, rfl, dv⟩ := d.one
  have dv : v = .str a := dv
  subst dv
  exact ⟨a, n, rfl, h1, h2, k.now q rfl m⟩
theorem se_intS (h : SE X e G mu fun w mu1 => ∃ a n, [w] = [.str a] ∧ PySem.intText? a = some n ∧ a.length ≤ 640 ∧ P (.int n) mu1) (hm : X.mg "int" = none) (hg : Gl X "int" := by rfl) (he : starEach [e] X.env = [(false, eval e X.env)] := by rfl) (hpl : (backTo pos (starEach [] X.env)).any (·.1) = false := by rfl) : SE X (.Call (.Name "int" p) [e] [] pos) G mu P :=
  se_bty call_int_str intS_w hm (sa_one h he) (by decide +kernel) hg (by decide) (by decide) he hpl
end
/-! a function held by a name -/
structure DefVal (P : Program) (w : World) (K : PySem.W.Frag) (mg : Str → Option Value) (base : Heap) (f : Addr) (k : Nat) (S : SpW) : Prop where
  ex : ∃ fd ps, FnOk P w K mg base CX0 k f fd ps (spW K S) ∧ PySem.W.keepIn K (.ref f) = true ∧ Binds K fd ps []
section
variable {X : Cx} {e : Expr} {es : List Expr} {G : Gs} {mu : Mu} {pos p : Pos} {P : PW1}
theorem se_fun {x : Str} {ps : List Str} {k : Nat} {S : SpW} (D : DefOk X.prog X.w X.K X.mg X.base x ps k S) (h : ∀ f, DefVal X.prog X.w X.K X.mg X.base f k S → P (.m f) mu) (hg : Gl X x := by rfl) (hd : (x == ("__debug__" : Str)) = false := by decide) : SE X (.Name x pos) G mu P := by
  obtain ⟨f, fd, F, hm, hk, hb⟩ := D.ex
  exact SE.mk (pe_glob hg hm (v := .ref f) rfl hd) fun σ H Q d m kk => kk.now (h f ⟨fd, ps, F, hk, hb⟩) rfl m
theorem se_callV {x : Str} {i : Nat} {f : Addr} {k : Nat} {S : SpW} (D : DefVal X.prog X.w X.K X.mg X.base f k S) (hr : Room k X.A) (hG : G[i]? = some (some (.m f))) (h : SA X (e :: es) G mu fun ws mu1 => S ws mu1 P) (hN : X.N[i]? = some x := by rfl)
    (hv : Vis X.env.scope x := by first | exact Or.inl rfl | exact Or.inr (Or.inl rfl) | exact Or.inr (Or.inr rfl)) (hdb : (x == ("__debug__" : Str)) = false := by decide) (hcd : (x == ("__classdict__" : Str)) = false := by decide)
    (he : starEach (e :: es) X.env = (false, eval e X.env) :: starEach es X.env := by rfl) (hpl : (backTo pos (starEach es X.env)).any (·.1) = false := by rfl) : SE X (.Call (.Name x p) (e :: es) [] pos) G mu P := by
  obtain ⟨fd, ps, F, hk, hb⟩ := D.ex
  refine SE.mk (pe_callA (S := fun a => if a = f then some (spW X.K S) else none) (fun a sp hs => ?_) hr hN hv paA hdb hcd he hpl) fun σ H Q d m kk => ?_
  · by_cases ea : a = f
    · rw [if_pos ea] at hs
      cases hs
      subst ea
      exact ⟨fd, ps, F, hk, hb⟩
    · rw [if_neg ea] at hs
      cases hs
  · obtain ⟨v, e1, dv⟩ := d.2 i _ hG
    have dv : v = .ref f := dv
    subst dv
    exact ⟨f, spW X.K S, e1, if_pos rfl, h σ H _ d m fun vs ws mu1 H1 h1 c1 d1 m1 => ⟨ws, mu1, P, h1, d1, m1, kk.step c1⟩⟩
end
end Dv
set_option Elab.async false
set_option linter.all false
set_option maxRecDepth 100000
/-! insert, remove (of texts), update. -/
namespace Dv
open PySem L2 PySem.Spec PyProof.Rows
section
variable {X : Cx}
def isTxt (k : Str) : Value → Bool
  | .str x _ => x.cps.toList == k.cps.toList
  | _ => false
theorem txt_at {k : Str} {ns : List Str} {vs : List Value} (r : Vals (ns.map V.str) vs) : ∀ (i : Nat) (h : i < vs.length), (∃ x t, vs[i] = .str x t ∧ ns[i]? = some x) := fun i h => by
  have hl : i < (ns.map V.str).length := by rw [r.length]; exact h
  obtain ⟨x, hx⟩ : ∃ x, ns[i]? = some x := ⟨_, List.getElem?_eq_getElem (by rwa [List.length_map] at hl)⟩
  obtain ⟨v, h1, h2⟩ := r.get (i := i) (x := V.str x) (by rw [List.getElem?_map, hx]; rfl)
  rw [List.getElem?_eq_getElem h] at h1
  cases h1
  obtain ⟨t, ht⟩ := (show ∃ t, vs[i] = Value.str x t from h2)
  exact ⟨x, t, ht, hx⟩
theorem mt_removeT : MtR X "list.remove" (fun x vs H Q => ∃ (l : Addr) (ns : List Str) (k : Str) (j : Nat), x = .ref l ∧ vs = [.str k] ∧ H l = some (.lst (ns.map V.str)) ∧ ns[j]? = some k ∧ (∀ i, i < j → ns[i]? ≠ some k) ∧ Q .non (upd H l (.lst ((ns.eraseIdx j).map V.str)))) := by
  intro pins s σ H x v vs us Q I rx rv h
  obtain ⟨l, ns, k, j, rfl, rfl, hH, hj, hno, q⟩ := h
  cases rx
  obtain ⟨u, rfl, ru⟩ := vals1 rv
  obtain ⟨t, rfl⟩ := (show ∃ t, u = Value.str k t from ru)
  obtain ⟨z, its, n, r, hl, e0⟩ := I.lstM hH
  have hnl : ns.length = its.length := by rw [← hl, List.length_map]
  have hsz : its.toArray.size ≤ sizeLine := by rw [List.size_toArray, ← hl]; exact z
  have hj1 : j < its.length := by rw [← hnl]; exact (List.getElem?_eq_some_iff.mp hj).1
  have heq : ∀ y, y ∈ its → MeetsSeq.EqGives y (.str k t) (isTxt k y) := fun y hy => by
    obtain ⟨i, hi, e⟩ := List.getElem_of_mem hy
    obtain ⟨x, t', ht, hx⟩ := txt_at (k := k) r i hi
    rw [← e, ht]
    exact SeqRoads2.EqGives.str x k t' t
  have str_eq : ∀ x : Str, (x.cps.toList == k.cps.toList) = true → x = k := fun x e => by
    have e := eq_of_beq e
    cases x; cases k
    simp only [Str.mk.injEq]
    exact Array.toList_inj.mp e
  refine call_meets PySem.F.slot_list_remove ⟨_, e0, rfl⟩ PySem.F.entry_list_remove (PySem.F.args_list_remove_2 _ _)
    (MeetsSeq.list_remove l its.toArray n (.str k t) (isTxt k) (fun y hy => heq y (by simpa using hy)) j (by rw [List.size_toArray]; exact hj1) ?hit (fun i hi2 hlt => ?hno) hsz) ⟨e0, ?_⟩
  case hit =>
    show isTxt k its[j] = true
    obtain ⟨x, t', ht, hx⟩ := txt_at (k := k) r j hj1
    rw [hj] at hx
    cases hx
    rw [ht]
    exact beq_self_eq_true _
  case hno =>
    have hi3 : i < its.length := by rw [List.size_toArray] at hi2; exact hi2
    show isTxt k its[i] = false
    rw [Bool.eq_false_iff]
    intro w
    obtain ⟨x, t', ht, hx⟩ := txt_at (k := k) r i hi3
    rw [ht] at w
    rw [str_eq x w] at hx
    exact hno i hlt hx
  have r2 : Vals ((ns.eraseIdx j).map V.str) (its.eraseIdx j) := by
    have w := r.eraseIdx j
    have e : ∀ (ns : List Str) (j : Nat), (ns.map V.str).eraseIdx j = (ns.eraseIdx j).map V.str := fun ns => by
      induction ns with
      | nil => intro j; rfl
      | cons a b ih =>
        intro j
        cases j with
        | zero => rfl
        | succ j => simp only [List.map_cons, List.eraseIdx_cons_succ, ih]
    rwa [e] at w
  refine ⟨.non, _, I.lset (its' := its.eraseIdx j) hH e0 ?_ r2 ?_, rfl, q⟩
  · show its.toArray.eraseIdxIfInBounds j = (its.eraseIdx j).toArray
    rw [List.eraseIdxIfInBounds_toArray]
  · rw [List.length_map]
    have := List.length_eraseIdx_le ns j
    rw [List.length_map] at z
    omega
theorem mt_updD : MtR X "dict.update" (fun x vs H Q => ∃ (d o : Addr) (kvs more : List (Key × V)), x = .ref d ∧ vs = [.ref o] ∧ H d = some (.dK kvs) ∧ H o = some (.dK more) ∧ d ≠ o ∧ kvs.length + more.length ≤ sizeLine ∧ Q .non (upd H d (.dK (mergeK kvs more)))) := by
  intro pins s σ H x v vs us Q I rx rv h
  obtain ⟨d, o, kvs, more, rfl, rfl, hd, ho, hne, hsz, q⟩ := h
  cases rx
  obtain ⟨u, rfl, ru⟩ := vals1 rv
  cases ru
  obtain ⟨z1, l1, vs1, rel1, dd1⟩ := dk_of I.hok hd
  obtain ⟨z2, l2, vs2, rel2, dd2⟩ := dk_of I.hok ho
  refine call_meetsIn PySem.F.slot_dict_update dd1.typeIs PySem.F.entry_dict_update (PySem.F.args_dict_update_2 _ _) (meets_dict_update (mixKind X.prog X.w) d o hne l2)
    ⟨vs1, vs2, dd1, dd2, (by rw [← rel1.length, ← rel2.length]; exact hsz), fun h' hmm _ hs => ?_⟩
  have hl : (mergeK kvs more).length ≤ sizeLine := Nat.le_trans (length_mergeK more kvs) hsz
  have he : ∃ q, h'.get? d = some q := let ⟨q, _, _, hq, _⟩ := hmm; ⟨q, hq⟩
  exact ⟨.non, _, d_write I (by rw [hd]; exact True.intro) hs he (dk_new hl l1 (KV.merge rel2 rel1) hmm), rfl, q⟩
end
section
variable {X : Cx} {e a b c : Expr} {es : List Expr} {G : Gs} {mu mu' : Mu} {pos p apos cpos : Pos} {P : PW1}
abbrev insW (w : W) (ws : List W) (mu : Mu) (P : PW1) : Prop := match w, ws with | .m a, [.int i, y] => ∃ us, mu a = some (.lst us) ∧ us.length < sizeLine ∧ 0 ≤ i ∧ i < 2 ^ 63 ∧ P .non (setM mu a (.lst (us.take i.toNat ++ [y] ++ us.drop i.toNat))) | _, _ => False
theorem ins_w : MtW X (fun x vs H Q => ∃ (l : Addr) (xs : List V) (i : Int) (y : V), x = .ref l ∧ vs = [.int i, y] ∧ H l = some (.lst xs) ∧ xs.length < sizeLine ∧ 0 ≤ i ∧ i < 2 ^ 63 ∧ Q .non (upd H l (.lst (xs.take i.toNat ++ [y] ++ xs.drop i.toNat)))) insW := fun w ws v vs mu H P Q dv dvs m h k => by
  unfold insW at h
  split at h
  · rename_i aa i y
    obtain ⟨us, e, hl, h0, h1, q⟩ := h
    obtain ⟨i', y', rfl, di, dy⟩ := dvs.two
    have di : i' = .int i := di
    have dv : v = .ref aa := dv
    subst dv di
    obtain ⟨xs, hx, dx⟩ := m aa _ e
    obtain ⟨c2, m2⟩ := wrote (o := .lst (xs.take i.toNat ++ [y'] ++ xs.drop i.toNat)) (c := .lst (us.take i.toNat ++ [y] ++ us.drop i.toNat)) m e (newLst (DenAll.append (DenAll.append (DenAll.take _ dx) ⟨y', [], rfl, dy, rfl⟩) (DenAll.drop _ dx)))
    exact ⟨aa, xs, i, y', rfl, rfl, hx, by rw [← dx.length]; exact hl, h0, h1, k _ _ _ _ q c2 rfl m2⟩
  · exact h.elim
theorem se_insert (h : SE X a G mu fun w mu1 => match w with | .m aa => (∃ ws, mu1 aa = some (.lst ws)) ∧ SA X [e, b] G mu1 fun ws mu2 => insW (.m aa) ws mu2 P | _ => False)
    (hb : attributeBase a "insert" X.env (eval a X.env) = eval a X.env := by rfl) (hq : (((backTo cpos (starEach [e, b] X.env)).all fun x => !x.1) && (backToKw cpos (keywordEach [] X.env)).all (fun x => x.1.isSome) && decide (([e, b].length + ([] : List Keyword).length + if ([] : List Keyword).isEmpty = true then 0 else 1) < 30)) = true := by rfl)
    (hl : (apos.endLine == cpos.line) = true := by rfl) (he : starEach [e, b] X.env = (false, eval e X.env) :: starEach [b] X.env := by rfl) (hpl : (backTo cpos (starEach [b] X.env)).any (·.1) = false := by rfl) : SE X (.Call (.Attribute a "insert" apos) [e, b] [] cpos) G mu P :=
  se_lm PySem.F.slot_list_insert PySem.F.type_list_insert mt_insert ins_w h hb hq hl he hpl
abbrev remW (w : W) (ws : List W) (mu : Mu) (P : PW1) : Prop := match w, ws with | .m a, [.str k] => ∃ (ns : List Str) (j : Nat), mu a = some (.lst (ns.map W.str)) ∧ ns[j]? = some k ∧ (∀ i, i < j → ns[i]? ≠ some k) ∧ P .non (setM mu a (.lst ((ns.eraseIdx j).map W.str))) | _, _ => False
theorem rem_w : MtW X (fun x vs H Q => ∃ (l : Addr) (ns : List Str) (k : Str) (j : Nat), x = .ref l ∧ vs = [.str k] ∧ H l = some (.lst (ns.map V.str)) ∧ ns[j]? = some k ∧ (∀ i, i < j → ns[i]? ≠ some k) ∧ Q .non (upd H l (.lst ((ns.eraseIdx j).map V.str)))) remW := fun w ws v vs mu H P Q dv dvs m h k => by
  unfold remW at h
  split at h
  · rename_i aa y
    obtain ⟨ns, j, e, hj, hno, q⟩ := h
    obtain ⟨y', rfl, dy⟩ := dvs.one
    have dy : y' = .str y := dy
    have dv : v = .ref aa := dv
    subst dv dy
    obtain ⟨xs, hx, dx⟩ := m aa _ e
    have ex := denAll_txt dx
    subst ex
    obtain ⟨c2, m2⟩ := wrote (o := .lst ((ns.eraseIdx j).map V.str)) (c := .lst ((ns.eraseIdx j).map W.str)) m e (newLst (den_strs _))
    exact ⟨aa, ns, y, j, rfl, rfl, hx, hj, hno, k _ _ _ _ q c2 rfl m2⟩
  · exact h.elim
theorem se_remove (h : SE X a G mu fun w mu1 => match w with | .m aa => (∃ ws, mu1 aa = some (.lst ws)) ∧ SA X [e] G mu1 fun ws mu2 => remW (.m aa) ws mu2 P | _ => False)
    (hb : attributeBase a "remove" X.env (eval a X.env) = eval a X.env := by rfl) (hq : (((backTo cpos (starEach [e] X.env)).all fun x => !x.1) && (backToKw cpos (keywordEach [] X.env)).all (fun x => x.1.isSome) && decide (([e].length + ([] : List Keyword).length + if ([] : List Keyword).isEmpty = true then 0 else 1) < 30)) = true := by rfl)
    (hl : (apos.endLine == cpos.line) = true := by rfl) (he : starEach [e] X.env = (false, eval e X.env) :: starEach [] X.env := by rfl) (hpl : (backTo cpos (starEach [] X.env)).any (·.1) = false := by rfl) : SE X (.Call (.Attribute a "remove" apos) [e] [] cpos) G mu P :=
  se_lm PySem.F.slot_list_remove PySem.F.type_list_remove mt_removeT rem_w h hb hq hl he hpl
def mergeW (kvs more : List (Key × W)) : List (Key × W) := more.foldl (fun acc kv => putW acc kv.1 kv.2) kvs
theorem dkv_merge {K : PySem.W.Frag} {H : Hp} : ∀ {more : List (Key × W)} {ms : List (Key × V)} {kvs : List (Key × W)} {vs : List (Key × V)}, (kvs.map (·.1)).Nodup → DKV K H kvs vs → DKV K H more ms → DKV K H (mergeW kvs more) (mergeK vs ms) ∧ ((mergeW kvs more).map (·.1)).Nodup
  | [], ms, kvs, vs, hn, d, dm => by
    rw [dm.nil]
    exact ⟨d, hn⟩
  | (j, u) :: more, ms, kvs, vs, hn, d, dm => by
    obtain ⟨v, vs', rfl, d1, d2⟩ := dm.cons
    show DKV K H (mergeW (putW kvs j u) more) (mergeK (putK vs j v) vs') ∧ ((mergeW (putW kvs j u) more).map (·.1)).Nodup
    exact dkv_merge (putW_nodup hn) (d.put hn d1) d2
abbrev updW (w : W) (ws : List W) (mu : Mu) (P : PW1) : Prop := match w, ws with | .m a, [.m o] => ∃ kvs more, isDic mu a kvs ∧ mu o = some (.dic more) ∧ a ≠ o ∧ kvs.length + more.length ≤ sizeLine ∧ P .non (setM mu a (.dic (mergeW kvs more))) | _, _ => False
theorem upd_w : MtW X (fun x vs H Q => ∃ (d o : Addr) (kvs more : List (Key × V)), x = .ref d ∧ vs = [.ref o] ∧ H d = some (.dK kvs) ∧ H o = some (.dK more) ∧ d ≠ o ∧ kvs.length + more.length ≤ sizeLine ∧ Q .non (upd H d (.dK (mergeK kvs more)))) updW := fun w ws v vs mu H P Q dv dvs m h k => by
  unfold updW at h
  split at h
  · rename_i aa oo
    obtain ⟨kvs, more, ⟨e, hn⟩, e2, hne, hl, q⟩ := h
    obtain ⟨y', rfl, dy⟩ := dvs.one
    have dy : y' = .ref oo := dy
    have dv : v = .ref aa := dv
    subst dv dy
    obtain ⟨vs, hx, dk⟩ := m aa _ e
    obtain ⟨ms, hy, dm⟩ := m oo _ e2
    have dk : DKV X.K H kvs vs := dk
    have dm : DKV X.K H more ms := dm
    have l1 := congrArg List.length dk.1
    have l2 := congrArg List.length dm.1
    simp only [List.length_map] at l1 l2
    obtain ⟨c2, m2⟩ := wrote (o := .dK (mergeK vs ms)) (c := .dic (mergeW kvs more)) m e (newDic (dkv_merge hn dk dm).1)
    exact ⟨aa, oo, vs, ms, rfl, rfl, hx, hy, hne, by omega, k _ _ _ _ q c2 rfl m2⟩
  · exact h.elim
theorem se_update (h : SE X a G mu fun w mu1 => match w with | .m aa => (∃ kvs, mu1 aa = some (.dic kvs)) ∧ SA X [e] G mu1 fun ws mu2 => updW (.m aa) ws mu2 P | _ => False)
    (hb : attributeBase a "update" X.env (eval a X.env) = eval a X.env := by rfl) (hq : (((backTo cpos (starEach [e] X.env)).all fun x => !x.1) && (backToKw cpos (keywordEach [] X.env)).all (fun x => x.1.isSome) && decide (([e].length + ([] : List Keyword).length + if ([] : List Keyword).isEmpty = true then 0 else 1) < 30)) = true := by rfl)
    (hl : (apos.endLine == cpos.line) = true := by rfl) (he : starEach [e] X.env = (false, eval e X.env) :: starEach [] X.env := by rfl) (hpl : (backTo cpos (starEach [] X.env)).any (·.1) = false := by rfl) : SE X (.Call (.Attribute a "update" apos) [e] [] cpos) G mu P :=
  SE.mk (pe_bm PySem.F.plainAttrs_dict PySem.F.slot_dict_update PySem.F.type_dict_update mt_updD peE paA hb hq hl he hpl) fun σ H Q d m k => h σ H _ d m fun v w mu1 H1 h1 c1 d1 m1 => by
    cases w with
    | m aa =>
      obtain ⟨⟨kvs, e0⟩, h2⟩ := h1
      have d1 : v = .ref aa := d1
      subst d1
      obtain ⟨xs, hx, dx⟩ := m1 aa _ e0
      exact ⟨.inr (.inr (.inl ⟨rfl, .inl ⟨xs, hx⟩⟩)), h2 σ H1 _ (c1.denG m d) m1 fun vs ws' mu2 H2 h3 c2 d2 m2 => upd_w (.m aa) _ _ _ _ _ _ _ rfl d2 m2 h3 (k.step (c1.trans c2))⟩
    | _ => exact False.elim h1
theorem ss_par3 {i j l : Nat} {x y z : Str} {px py pz pt : Pos} {kt k2 : Nat} {pt2 : Pos} {E : WE} (h : SE X a G mu fun w mu1 => SE X b G mu1 fun w2 mu2 => SE X c G mu2 fun w3 mu3 => E.nx (((G.set i (some w)).set j (some w2)).set l (some w3)) mu3) (hc : X.calm = true) (hN : X.N.Nodup) (hij : i ≠ j) (hil : i ≠ l) (hjl : j ≠ l)
    (hsw : swappedStores [.Tuple [.Name x px, .Name y py, .Name z pz] kt pt] (.Tuple [a, b, c] k2 pt2) X.env = pure (some [x, y, z])) (hi : X.N[i]? = some x := by rfl) (hj : X.N[j]? = some y := by rfl) (hl : X.N[l]? = some z := by rfl) (hx : X.env.scope.names.lookup x = some .local := by rfl) (hy : X.env.scope.names.lookup y = some .local := by rfl) (hz : X.env.scope.names.lookup z = some .local := by rfl)
    (hs : starEach [a, b, c] X.env = (false, eval a X.env) :: starEach [b, c] X.env := by rfl) (hs2 : starEach [b, c] X.env = (false, eval b X.env) :: starEach [c] X.env := by rfl) (hs3 : starEach [c] X.env = [(false, eval c X.env)] := by rfl) (hso : swapsWithSole [.Tuple [.Name x px, .Name y py, .Name z pz] kt pt] (.Tuple [a, b, c] k2 pt2) pos.line X.env = pure false := by rfl) :
    SS X (.Assign [.Tuple [.Name x px, .Name y py, .Name z pz] kt pt] (.Tuple [a, b, c] k2 pt2) pos) G mu E :=
  SS.mk (ps_par3 hc hN hi hj hl hij hil hjl hx hy hz (pa_cons peE (pa_cons peE (pa_cons peE pa_nil hs3) hs2) hs) hsw hso) fun σ H D d m k => h σ H _ d m fun v w mu1 H1 h1 c1 d1 m1 => h1 σ H1 _ (c1.denG m d) m1 fun v2 w2 mu2 H2 h2 c2 d2 m2 => h2 σ H2 _ ((c1.trans c2).denG m d) m2 fun v3 w3 mu3 H3 h3 c3 d3 m3 =>
    ⟨v, v2, v3, rfl, k.nx _ _ _ _ h3 ((c1.trans c2).trans c3) (DenG.set (DenG.set (DenG.set (((c1.trans c2).trans c3).denG m d) ((c2.trans c3).den m1 d1)) (c3.den m2 d2)) d3) m3⟩
end
end Dv
set_option Elab.async false
set_option linter.all false
set_option maxRecDepth 100000
/-! Any value among texts; texts counted; ints removed; minus; stores into dicts by targets. -/
namespace Dv
open PySem L2
/-- is it one of these texts? -/
def inT (w : W) (ns : List Str) : Bool := match w with | .str z => decide (z ∈ ns) | _ => false
def isT (w : W) (n : Str) : Bool := match w with | .str z => decide (n = z) | _ => false
theorem any_isT (w : W) (ns : List Str) : ns.any (isT w) = inT w ns := by
  cases w with
  | str z =>
    unfold isT inT
    rw [Bool.eq_iff_iff]
    simp
  | _ => simp [isT, inT]
theorem str_beq (x y : Str) : (x == y) = decide (x = y) := by
  by_cases e : x = y
  · subst e; simp
  · rw [decide_eq_false e]; exact beq_eq_false_iff_ne.mpr e
section
variable {X : Cx} {a b c e o : Expr} {es : List Expr} {G : Gs} {mu : Mu} {pos p apos cpos : Pos} {P : PW1}
/-- a value against every text -/
def TxV (X : Cx) (v : V) (f : Str → Bool) (H : Hp) : Prop := ∀ (pins : List (Addr × Obj)) (σ : L2.St) (s : Shared) (u : Value) (A : Around), Inv X pins σ H s → RelV v u → A.units < cLine → ∀ (n : Str) (t : Tok), SeqAt.EqAt A s (.str n t) u (f n)
theorem txv_fr {H : Hp} {w : W} {v : V} (f : frW w = true) (d : Den X.K H w v) : TxV X v (isT w) H := fun pins σ s u A I r hu n t => by
  cases w with
  | non =>
    have d : v = .non := d
    subst d
    cases r
    exact SeqAt.EqAt.str_none n t
  | bl b =>
    have d : v = .bl b := d
    subst d
    cases r
    exact SeqAt.EqAt.str_bool n t b
  | int b =>
    have d : v = .int b := d
    subst d
    obtain ⟨t2, rfl⟩ := r
    exact SeqAt.EqAt.str_int n t b t2
  | str b =>
    have d : v = .str b := d
    subst d
    obtain ⟨t2, rfl⟩ := r
    have := SeqAt.EqAt.str_str (A := A) (s := s) n t b t2
    rw [str_beq] at this
    exact this
  | m a => unfold frW at f; cases f
  | tup ws =>
    obtain ⟨a, xs, e, sq, dx⟩ := d
    subst e
    cases r
    obtain ⟨its, rv, ⟨o, ho, hc, k, hd⟩, _⟩ := I.tuple sq
    exact SeqAt.EqAt.str_tuple n t ⟨o, ho, hc, k, hd⟩ hu
  | fl ws =>
    obtain ⟨a, ob, xs, e, hx, dx⟩ := d
    subst e
    cases r
    obtain ⟨its, rv, ⟨o, k, ho, hc, _, hd⟩, _⟩ := I.list (.inl (.inr ⟨ob, hx⟩))
    exact SeqAt.EqAt.str_list n t ⟨o, ho, hc, k, hd⟩ hu
  | fd ks ws =>
    obtain ⟨a, ob, kvs, e, hx, hk, dx⟩ := d
    subst e
    cases r
    obtain ⟨_, _, sy, vs, kv, ⟨cl, dd, dt, sl⟩, es, ep, h1, ⟨e1, e2, e3⟩, hd, _⟩ := (show ObjOk X.prog X.w H s.heap a (.frz ob (.dK kvs)) from I.hok a _ hx)
    simp only at e1 e2 e3 hd
    subst e1 e2 e3 hd
    exact DvLow.eq_str_dict n t h1 hu
def rInA (X : Cx) (ng : Bool) : R2 := fun x y H Q => ∃ (f : Str → Bool) (ns : List Str) (a : Addr), TxV X x f H ∧ y = .ref a ∧ (SqT X.K H a (ns.map V.str) ∨ SqL X.K H a (ns.map V.str)) ∧ Q (.bl (ng != ns.any f)) H
theorem any_its {ns : List Str} {f : Str → Bool} : ∀ {its : List Value}, Vals (ns.map V.str) its → (its.any fun v => match v with | .str x _ => f x | _ => false) = ns.any f := by
  induction ns with
  | nil => intro its r; cases r; rfl
  | cons n ns ih =>
    intro its r
    cases r with
    | cons r1 r2 =>
      obtain ⟨t, rfl⟩ := r1
      simp only [List.any_cons]
      rw [ih r2]
theorem all_its {ns : List Str} : ∀ {its : List Value}, Vals (ns.map V.str) its → ∀ y ∈ its, ∃ n t, y = .str n t := by
  induction ns with
  | nil => intro its r; cases r; intro y hy; cases hy
  | cons n ns ih =>
    intro its r
    cases r with
    | cons r1 r2 =>
      obtain ⟨t, rfl⟩ := r1
      intro y hy
      rcases List.mem_cons.mp hy with rfl | hy
      · exact ⟨n, t, rfl⟩
      · exact ih r2 y hy
theorem op_inA {ng : Bool} (hu : X.A.units + 1 < cLine) : OpR X (compareOp (if ng then .NotIn else .In)) (rInA X ng) := by
  intro pins s σ H x y v u Q I rx ry ⟨f, ns, a, tx, ey, sq, q⟩
  subst ey
  cases ry
  have he : ∀ {its : List Value}, Vals (ns.map V.str) its → ∀ y ∈ its, SeqAt.EqAt X.A.in1 s y v ((fun v : Value => match v with | .str x _ => f x | _ => false) y) := fun rv y hy => by
    obtain ⟨n, t, rfl⟩ := all_its rv y hy
    exact tx pins σ s v X.A.in1 I rx (by show X.A.units + 1 < cLine; exact hu) n t
  have ev : ∀ {its : List Value}, Vals (ns.map V.str) its → its.toArray.any (fun v : Value => match v with | .str x _ => f x | _ => false) = ns.any f := fun rv => by
    rw [List.any_toArray]
    exact any_its rv
  rcases sq with sq | sq
  · obtain ⟨its, rv, ⟨o, ho, hc, k, hd⟩, _⟩ := I.tuple sq
    cases ng
    · exact SeqAt.in_tupleAt _ ⟨o, ho, hc, k, hd⟩ (fun y hy => he rv y (by simpa using hy)) ⟨.bl _, H, I, by rw [ev rv]; show Value.bool _ = Value.bool _; simp, q⟩
    · exact SeqAt.notIn_tupleAt _ ⟨o, ho, hc, k, hd⟩ (fun y hy => he rv y (by simpa using hy)) ⟨.bl _, H, I, by rw [ev rv]; show Value.bool _ = Value.bool _; simp, q⟩
  · obtain ⟨its, rv, ⟨o, k, ho, hc, _, hd⟩, _⟩ := I.list sq
    cases ng
    · exact SeqAt.in_listAt _ ⟨o, ho, hc, k, hd⟩ (fun y hy => he rv y (by simpa using hy)) ⟨.bl _, H, I, by rw [ev rv]; show Value.bool _ = Value.bool _; simp, q⟩
    · exact SeqAt.notIn_listAt _ ⟨o, ho, hc, k, hd⟩ (fun y hy => he rv y (by simpa using hy)) ⟨.bl _, H, I, by rw [ev rv]; show Value.bool _ = Value.bool _; simp, q⟩
/-- w in ns, w frozen, ns texts in a tuple, a frozen list or a list -/
abbrev inAW (ng : Bool) (w1 w2 : W) (mu : Mu) (P : PW1) : Prop := frW w1 = true ∧ ∃ ns : List Str, (w2 = .tup (ns.map W.str) ∨ w2 = .fl (ns.map W.str) ∨ ∃ a, w2 = .m a ∧ mu a = some (.lst (ns.map W.str))) ∧ ∀ b, b = (ng != inT w1 ns) → P (.bl b) mu
theorem inA_w {ng : Bool} : OpW X (rInA X ng) (inAW ng) := fun w1 w2 x y mu H P Q dx dy m ⟨f, ns, hc, q⟩ k => by
  have fin : Kont X.K mu H P Q → Q (.bl (ng != ns.any (isT w1))) H := fun k => by
    rw [any_isT]
    exact k.now (q _ rfl) rfl m
  rcases hc with rfl | rfl | ⟨a, rfl, ha⟩
  · obtain ⟨a, xs, e, sq, d⟩ := dy
    subst e
    have := denAll_str d
    subst this
    exact ⟨_, ns, a, txv_fr f dx, rfl, .inl sq, fin k⟩
  · obtain ⟨a, o, xs, e, hx, d⟩ := dy
    subst e
    have := denAll_str d
    subst this
    exact ⟨_, ns, a, txv_fr f dx, rfl, .inr (.inl (.inr ⟨o, hx⟩)), fin k⟩
  · have dy : y = .ref a := dy
    subst dy
    obtain ⟨xs, hx, d⟩ := m a _ ha
    have := denAll_str d
    subst this
    exact ⟨_, ns, a, txv_fr f dx, rfl, .inr (SqL.of hx), fin k⟩
/-! xs.count(x), of texts -/
def rCntT (X : Cx) : V → List V → Hp → VK → Prop := fun x xs H Q => ∃ (a : Addr) (y : V) (f : Str → Bool) (ns : List Str), x = .ref a ∧ xs = [y] ∧ TxV X y f H ∧ SqL X.K H a (ns.map V.str) ∧ Q (.int (ns.countP f : Nat)) H
theorem cnt_its {ns : List Str} {f : Str → Bool} : ∀ {its : List Value}, Vals (ns.map V.str) its → (its.countP fun v => match v with | .str x _ => f x | _ => false) = ns.countP f := by
  induction ns with
  | nil => intro its r; cases r; rfl
  | cons n ns ih =>
    intro its r
    cases r with
    | cons r1 r2 =>
      obtain ⟨t, rfl⟩ := r1
      rw [List.countP_cons, List.countP_cons, ih r2]
theorem mt_cntT (hu : X.A.units + 2 < cLine) : MtR X "list.count" (rCntT X) := by
  intro pins s σ H x xs v us Q I rx rxs ⟨a, y, f, ns, e1, e2, tx, hs, q⟩
  subst e1 e2
  cases rx
  cases rxs with
  | cons ry rt =>
  rename_i uy ut
  cases rt
  obtain ⟨its, rv, ⟨⟨cls, dd, data, sl⟩, n, ho, hc, hdn, hd⟩, hlen⟩ := I.list hs
  simp only at hc hd
  subst hc hd
  refine call_meets PySem.F.slot_list_count ⟨_, ho, rfl⟩ PySem.F.entry_list_count (PySem.F.args_list_count_2 _ _)
    (SeqAt.list_countAt a its.toArray n dd sl uy (fun v => match v with | .str x _ => f x | _ => false)) ⟨ho, fun z hz => ?_, ?_⟩
  · obtain ⟨m, t, rfl⟩ := all_its rv z (by simpa using hz)
    exact tx pins σ s uy _ I ry (by show _ < cLine; simp only [Around.in1]; omega) m t
  · refine ⟨.int (ns.countP f : Nat), H, I.tok _, ⟨s.toks, ?_⟩, q⟩
    have := cnt_its (f := f) rv
    show Value.int ((its.toArray.toList.countP _ : Nat) : Int) s.toks = _
    rw [← this]
abbrev cntW (w : W) (ws : List W) (mu : Mu) (P : PW1) : Prop := ∃ a u, ∃ ns : List Str, w = .m a ∧ ws = [u] ∧ frW u = true ∧ mu a = some (.lst (ns.map W.str)) ∧ ∀ k : Nat, k = ns.countP (isT u) → P (.int (k : Nat)) mu
theorem cnt_w : MtW X (rCntT X) cntW := fun w ws v vs mu H P Q dv dvs m ⟨a, u, ns, e1, e2, f, ha, q⟩ k => by
  subst e1 e2
  obtain ⟨y, ey, dy⟩ := dvs.one
  subst ey
  have dv : v = .ref a := dv
  subst dv
  obtain ⟨xs, hx, d⟩ := m a _ ha
  have := denAll_str d
  subst this
  exact ⟨a, y, _, ns, rfl, rfl, txv_fr f dy, SqL.of hx, k.now (q _ rfl) rfl m⟩
theorem se_count (hu : X.A.units + 2 < cLine) (h : SE X a G mu fun w mu1 => match w with | .m aa => (∃ ws, mu1 aa = some (.lst ws)) ∧ SA X [e] G mu1 fun ws mu2 => cntW (.m aa) ws mu2 P | _ => False)
    (hb : attributeBase a "count" X.env (eval a X.env) = eval a X.env := by rfl) (hq : (((backTo cpos (starEach [e] X.env)).all fun x => !x.1) && (backToKw cpos (keywordEach [] X.env)).all (fun x => x.1.isSome) && decide (([e].length + ([] : List Keyword).length + if ([] : List Keyword).isEmpty = true then 0 else 1) < 30)) = true := by rfl)
    (hl : (apos.endLine == cpos.line) = true := by rfl) (he : starEach [e] X.env = (false, eval e X.env) :: starEach [] X.env := by rfl) (hpl : (backTo cpos (starEach [] X.env)).any (·.1) = false := by rfl) : SE X (.Call (.Attribute a "count" apos) [e] [] cpos) G mu P :=
  se_lm PySem.F.slot_list_count PySem.F.type_list_count (mt_cntT hu) cnt_w h hb hq hl he hpl
/-! xs.remove(i), of whole numbers -/
abbrev remIW (w : W) (ws : List W) (mu : Mu) (P : PW1) : Prop := ∃ a k, ∃ (ns : List Int) (j : Nat), w = .m a ∧ ws = [.int k] ∧ mu a = some (.lst (ns.map W.int)) ∧ ns[j]? = some k ∧ (∀ i, i < j → ns[i]? ≠ some k) ∧ P .non (setM mu a (.lst ((ns.eraseIdx j).map W.int)))
theorem den_ints {K : PySem.W.Frag} {H : Hp} : ∀ ns : List Int, DenAll K H (ns.map W.int) (ns.map V.int)
  | [] => rfl
  | n :: ns => ⟨.int n, ns.map V.int, rfl, rfl, den_ints ns⟩
theorem remI_w : MtW X rRemI remIW := fun w ws v vs mu H P Q dv dvs m ⟨a, k, ns, j, e1, e2, ha, hj, hn, q⟩ kk => by
  subst e1 e2
  obtain ⟨y, ey, dy⟩ := dvs.one
  subst ey
  have dy : y = .int k := dy
  have dv : v = .ref a := dv
  subst dy dv
  obtain ⟨xs, hx, d⟩ := m a _ ha
  have := Dv.denAll_int d
  subst this
  obtain ⟨c2, m2⟩ := wrote (o := .lst ((ns.eraseIdx j).map V.int)) (c := .lst ((ns.eraseIdx j).map W.int)) m ha (newLst (den_ints _))
  exact ⟨a, ns, k, j, rfl, rfl, hx, hj, hn, kk _ _ _ _ q c2 rfl m2⟩
theorem se_removeI (h : SE X a G mu fun w mu1 => match w with | .m aa => (∃ ws, mu1 aa = some (.lst ws)) ∧ SA X [e] G mu1 fun ws mu2 => remIW (.m aa) ws mu2 P | _ => False)
    (hb : attributeBase a "remove" X.env (eval a X.env) = eval a X.env := by rfl) (hq : (((backTo cpos (starEach [e] X.env)).all fun x => !x.1) && (backToKw cpos (keywordEach [] X.env)).all (fun x => x.1.isSome) && decide (([e].length + ([] : List Keyword).length + if ([] : List Keyword).isEmpty = true then 0 else 1) < 30)) = true := by rfl)
    (hl : (apos.endLine == cpos.line) = true := by rfl) (he : starEach [e] X.env = (false, eval e X.env) :: starEach [] X.env := by rfl) (hpl : (backTo cpos (starEach [] X.env)).any (·.1) = false := by rfl) : SE X (.Call (.Attribute a "remove" apos) [e] [] cpos) G mu P :=
  se_lm PySem.F.slot_list_remove PySem.F.type_list_remove mt_remove remI_w h hb hq hl he hpl
/-! -x -/
theorem se_neg (h : SE X e G mu fun w mu1 => ∃ i, w = .int i ∧ P (.int (-i)) mu1) : SE X (.UnaryOp .USub e pos) G mu P :=
  SE.mk (pe_un un_neg peE) fun σ H Q d m k => h σ H _ d m fun v w mu1 H1 ⟨i, e1, q⟩ c1 d1 m1 => by
    subst e1
    exact ⟨i, d1, k _ _ _ _ q c1 rfl m1⟩
/-! d[k] as a target -/
theorem sg_dput {w : W} {Post : Gs → Mu → Prop} (hu : X.A.units + 1 < cLine) (h : SE X a G mu fun w1 mu1 => SE X b G mu1 fun w2 mu2 => dpW w1 w2 w G mu2 Post)
    (ha : ∀ v, assign (.Subscript a b pos) X.env v = (do
      let ov ← holding [v] (eval a X.env)
      let iv ← holding [v, ov] (eval b X.env)
      standAt pos
      holding [v, ov, iv] (setItem ov iv v)
      release [v, ov, iv] []) := by intro _; rfl) : SG X (.Subscript a b pos) w G mu Post :=
  SG.mk (pg_sub peE peE (set_dict hu) ha) fun σ H v Q d m dv k => h σ H _ d m fun x w1 mu1 H1 h1 c1 d1 m1 => h1 σ H1 _ (c1.denG m d) m1 fun y w2 mu2 H2 h2 c2 d2 m2 => by
    obtain ⟨aa, kvs, kk, e1, ⟨e, hn⟩, hk, hl, q⟩ := h2
    subst e1
    have d1 : x = .ref aa := d1
    subst d1
    obtain ⟨vs, hx, dk⟩ := m2 aa _ e
    have e2 := keyOf_den hk d2
    subst e2
    have dk : DKV X.K H2 kvs vs := dk
    obtain ⟨c4, m4⟩ := wrote (o := .dK (putK vs kk v)) (c := .dic (putW kvs kk w)) m2 e (newDic (dk.put hn (c2.den m1 (c1.den m dv))))
    have cc := c1.trans c2
    refine ⟨aa, _, rfl, DPut.k hx ?_, k _ _ _ _ q (cc.trans c4) (c4.denG m2 (cc.denG m d)) m4⟩
    have := congrArg List.length dk.1
    simp only [List.length_map] at this
    omega
end
end Dv
set_option Elab.async false
set_option linter.all false
set_option maxRecDepth 100000
/-! set(xs) of texts, any number, and its len. -/
namespace IxSet
open PyProof.Rows PySem.Spec PySem
/-- the texts once each, in the order of their first place -/
def oncePut (seen : List Int) (x : Int) : List Int := if x ∈ seen then seen else seen ++ [x]
def once (xs : List Int) : List Int := xs.foldl oncePut []
theorem once_take {xs : List Int} {i : Nat} {x : Int} (h : xs[i]? = some x) : once (xs.take (i + 1)) = oncePut (once (xs.take i)) x := by
  unfold once
  rw [List.take_add_one, h, List.foldl_append]
  rfl
theorem once_mem : ∀ (xs acc : List Int) (y : Int), y ∈ xs.foldl oncePut acc ↔ y ∈ acc ∨ y ∈ xs
  | [], acc, y => by simp
  | x :: xs, acc, y => by
    rw [List.foldl_cons, once_mem xs]
    unfold oncePut
    by_cases h : x ∈ acc
    · rw [if_pos h, List.mem_cons]
      constructor
      · rintro (q | q)
        · exact .inl q
        · exact .inr (.inr q)
      · rintro (q | rfl | q)
        · exact .inl q
        · exact .inl h
        · exact .inr q
    · rw [if_neg h, List.mem_append, List.mem_singleton, List.mem_cons]
      constructor
      · rintro ((q | q) | q)
        · exact .inl q
        · exact .inr (.inl q)
        · exact .inr (.inr q)
      · rintro (q | q | q)
        · exact .inl (.inl q)
        · exact .inl (.inr q)
        · exact .inr q
theorem once_len (xs acc : List Int) : (xs.foldl oncePut acc).length ≤ acc.length + xs.length := by
  induction xs generalizing acc with
  | nil => simp
  | cons x xs ih =>
    have := ih (oncePut acc x)
    have h2 : (oncePut acc x).length ≤ acc.length + 1 := by unfold oncePut; split <;> simp
    rw [List.foldl_cons, List.length_cons]
    omega
theorem once_nodup : ∀ (xs acc : List Int), (acc ++ xs).Nodup → xs.foldl oncePut acc = acc ++ xs
  | [], acc, _ => by simp
  | x :: xs, acc, h => by
    have hn : x ∉ acc := fun z => by
      rw [List.nodup_append] at h
      exact h.2.2 x z x (by simp) rfl
    rw [List.foldl_cons]
    unfold oncePut
    rw [if_neg hn]
    have := once_nodup xs (acc ++ [x]) (by simpa using h)
    rw [show (fun seen x => if x ∈ seen then seen else seen ++ [x]) = oncePut from rfl, this]
    simp
theorem ints_len : ∀ {vs : List Value} {ns : List Int}, IntsAre vs ns → vs.length = ns.length
  | _, _, .nil => rfl
  | _, _, .cons n t h => by simp [ints_len h]
theorem ints_at : ∀ {vs : List Value} {ns : List Int}, IntsAre vs ns → ∀ (i : Nat) (v : Value), vs[i]? = some v → ∃ x t, ns[i]? = some x ∧ v = .int x t
  | _, _, .nil => fun i v h => by simp at h
  | _, _, .cons n t h => fun i v e => by
    cases i with
    | zero => simp at e; exact ⟨n, t, by simp, e.symm⟩
    | succ i => simpa using ints_at h i v (by simpa using e)
def inOnce (xs : List Int) (y : Int) : Bool := decide (y ∈ once xs)
section
variable {pr : Program} {ww : World} {A : Around} {R : Result → Shared → Prop} {I D : Addr} {fp wr : List Addr} {G : Array GenState → Array GenState → Prop} {m : Nat} {P : Nat → Value → Prop} {St : Nat → Shared → Prop}
theorem fillTx (Wk : WalksS pr ww A.in1 I fp wr G m P St) (hD : D ∉ fp) (xs : List Int) (hm : xs.length = m) (hb : m + 1 < scanBound) (hP : ∀ i v, P i v → ∃ x t, xs[i]? = some x ∧ v = .int x t) :
    ∀ (left i : Nat) (sh : Shared), m - i = left → i ≤ m → St i sh → sh.heap.SetOf (intKind pr ww) D (inOnce (xs.take i)) (once (xs.take i)).length →
      (∀ sh2, Moved (D :: wr) G sh sh2 → sh2.heap.SetOf (intKind pr ww) D (inOnce xs) (once xs).length → R (.ok (.ret .none)) sh2) → codeAny (model pr ww) A (.builtin "set.update.loop" ⟨[.ref D, .ref I], []⟩) R sh := by
  have hDw : D ∉ wr := fun z => hD (Wk.sub _ z)
  have up : ∀ b ∈ wr, b ∈ D :: wr := fun b z => List.mem_cons_of_mem _ z
  intro left
  induction left with
  | zero =>
    intro i sh h0 hi st hS fin
    have e : i = m := by omega
    subst e
    (refine codeAny_builtin F.entry_set_update_loop ?_; rw [Around.under_plainId F.plain_set_update_loop _])
    show wpAny _ A.in1 (pyNext (.ref I) >>= _) _ _ sh
    refine wpAny_bind (Wk.done sh _ _ st fun sh2 mv => ?_)
    show wpAny _ A.in1 (ret Value.none) _ _ sh2
    rw [← hm, List.take_length] at hS
    exact wpAny_pure (fin sh2 (mv.mono up) (let ⟨o, es, ep, t, ho, rest⟩ := hS; ⟨o, es, ep, t, mv.heap D _ hDw ho, rest⟩))
  | succ left ih =>
    intro i sh h0 hi st hS fin
    have lt : i < m := by omega
    (refine codeAny_builtin F.entry_set_update_loop ?_; rw [Around.under_plainId F.plain_set_update_loop _])
    show wpAny _ A.in1 (pyNext (.ref I) >>= _) _ _ sh
    refine wpAny_bind (Wk.item i sh _ _ lt st fun v sh2 hv st2 mv => ?_)
    obtain ⟨x, t, hx, rfl⟩ := hP i v hv
    have hS2 : sh2.heap.SetOf (intKind pr ww) D (inOnce (xs.take i)) (once (xs.take i)).length := let ⟨o, es, ep, tb, ho, rest⟩ := hS; ⟨o, es, ep, tb, mv.heap D _ hDw ho, rest⟩
    show wpAny _ A.in1 (holding [Value.int x t] (setAdd D (.int x t)) >>= _) _ _ sh2
    (refine wpAny_bind (wpAny_holding ?_); unfold setAdd)
    refine wpAny_holding (wpAny_bind ((intKind pr ww).pyHash (k := x) (intKind_is _ _ _ _) ?_))
    have l1 : (once (xs.take i)).length ≤ i := by
      have := once_len (xs.take i) []
      rw [List.length_take] at this
      unfold once
      simp at this
      omega
    refine wpAny_setAddHashed_of (knd := intKind pr ww) (s := { sh2 with toks := sh2.toks + 1 }) (intKind_is _ _ _ _) rfl hS2 (by omega) fun h3 same hS3 => ?_
    have hS4 : h3.SetOf (intKind pr ww) D (inOnce (xs.take (i + 1))) (once (xs.take (i + 1))).length := by
      rw [once_take hx]
      refine SetOf_congr hS3 (fun y => ?_) ?_
      · unfold inOnce
        rw [once_take hx]
        unfold oncePut
        by_cases h : x ∈ once (xs.take i)
        · rw [if_pos h]
          by_cases e : y = x
          · subst e; simp [h]
          · simp [e]
        · rw [if_neg h]
          by_cases e : y = x
          · subst e; simp
          · simp [e]
      · unfold oncePut inOnce
        by_cases h : x ∈ once (xs.take i)
        · simp [h]
        · simp [h]
    refine wpAny_pure ⟨plainId_quiet F.plain_set_update_loop _, ih (i + 1) _ (by omega) lt (Wk.frame _ sh2 _ _ st2 (Nat.le_succ _) fun b z o e => (same.2 b fun q : b = D => hD (q ▸ z)).trans e) hS4 fun sh3 mv3 hS5 => fin sh3 (Moved.trans Wk.gtrans ((mv.mono up).then_heap (Nat.le_succ _) fun b o z e => (same.2 b fun q : b = D => z (by rw [q]; exact List.mem_cons_self)).trans e) mv3) hS5⟩
end
end IxSet

namespace IxSet
open PyProof.Rows PySem.Spec PySem
abbrev bare (led : Bool) : Obj := { cls := .type "set", dict := none, data := .set #[] 0 (.fresh 0 0 led) }
section
variable {pr : Program} {ww : World} {A : Around} {E : Value → Shared → Prop} {sh : Shared}
set_option maxHeartbeats 3300000 in
theorem newTxL {ad : Addr} {its : Array Value} {xs : List Int} {Q : Value → Shared → Prop} (noExc : A.handled = none) (hseq : sh.heap.IsList ad its) (tx : IntsAre its.toList xs) (few : its.size + 1 < scanBound)
    (fin : ∀ (h2 : Heap) (t2 : Nat), h2.SetOf (intKind pr ww) sh.heap.objs.size (inOnce xs) (once xs).length → (∀ b o, b < sh.heap.objs.size → sh.heap.get? b = some o → h2.get? b = some o) → Q (.ref sh.heap.objs.size) { sh with heap := h2, toks := t2 }) : wpAny (model pr ww) A (call (.type "set") [.ref ad]) Q E sh := by
  obtain ⟨cc, rest, mro⟩ := F.called_set.mro
  have made := F.called_set.made
  have subS := F.called_set.sub
  (refine wpAny_call (codeAny_of_tree ?_); show wpAny _ _ (callAny (.type "set") _) _ _ sh; refine wpAny_pure ⟨Code.quiet_builtin _ (by decide +kernel), codeAny_builtin F.entry_type_call ?_⟩)
  rw [Around.under_plain (weight_type_call_type "set" [.ref ad] []) rfl]
  have n1 := F.called_set.notType
  have n2 := F.called_set.canCreate
  have n3 := F.typeCall_set_1 (.ref ad)
  repeat any_goals first | assumption | wp_step
  refine codeAny_mono (code_set_new_1 (.ref ad) (E := E) (Q₁ := fun ob sh1 => ∃ led : Bool, ob = .ref sh.heap.objs.size ∧ sh1 = { sh with heap := sh.heap.push (bare led) }) fun led => ⟨led, rfl, rfl⟩) fun r sh1 hr => ?_
  rcases r with ex | fl
  · exact hr
  cases fl with
  | ret ob =>
    obtain ⟨led, rfl, rfl⟩ := hr
    have at0 : (sh.heap.push (bare led)).get? sh.heap.objs.size = some (bare led) := Heap.get?_push_size _ rfl
    have ty0 : Shared.TypeIs { sh with heap := sh.heap.push (bare led) } (.ref sh.heap.objs.size) "set" := ⟨_, at0, rfl⟩
    have in1 := F.called_set.init.lookup
    have in2 := F.called_set.init.bind (.ref sh.heap.objs.size)
    repeat any_goals first | assumption | wp_step
    refine codeAny_mono (codeAny_call_builtin (R := wants (fun r sh2 => r = .none ∧ ∃ h2 t2, sh2 = { sh with heap := h2, toks := t2 } ∧ h2.SetOf (intKind pr ww) sh.heap.objs.size (inOnce xs) (once xs).length ∧ (∀ b o, b < sh.heap.objs.size → sh.heap.get? b = some o → h2.get? b = some o)) E) F.called_set.init.plain F.entry_set_init (check_set_init_1 ty0 ?_)) fun r2 sh2 hr2 => ?_
    · obtain ⟨⟨oc, odt, oda, osl⟩, hol, hcl, nl, hdl⟩ := hseq
      simp only at hcl hdl
      subst hcl hdl
      have hol2 : (sh.heap.push (bare led)).get? ad = some { cls := .type "list", dict := odt, data := .seq its nl, slots := osl } := Heap.get?_push_of_some _ hol
      have sub1 := PySem.F.sub_list_set
      have sub2 := PySem.F.sub_list_frozenset
      have neD : (Value.type "list" == Value.type "dict") = false := by decide
      have seq2 : (sh.heap.push (bare led)).IsList ad its := ⟨_, hol2, rfl, nl, rfl⟩
      (unfold Builtin.«set.__init__» noKeywords Builtin.Frozenset.updateFrom; generalize ePI : pyIter = PI)
      wp_walk
      subst ePI
      refine wpAny_pyIter_list seq2 (wpAny_bind (wpAny_runValue ?_))
      have adLt : ad < sh.heap.objs.size := Heap.lt_size hol
      have noExc3 : A.in1.in1.in1.handled = none := by simp [noExc]
      have apart : ad ≠ (sh.heap.push (bare led)).objs.size := by rw [Heap.size_push]; exact Nat.ne_of_lt (Nat.lt_succ_of_lt adLt)
      have out : sh.heap.objs.size ∉ [(sh.heap.push (bare led)).objs.size, ad] := by
        rw [Heap.size_push]
        simp only [List.mem_cons, List.mem_singleton, List.not_mem_nil, or_false, not_or]
        exact ⟨Nat.ne_of_lt (Nat.lt_succ_self _), Nat.ne_of_gt adLt⟩
      have lenX : xs.length = its.size := by rw [← ints_len tx, Array.length_toList]
      have each : ∀ (i : Nat) (v : Value), its[i]? = some v → ∃ x t, xs[i]? = some x ∧ v = .int x t := fun i v hv => by
        exact ints_at tx i v (by rw [Array.getElem?_toList]; exact hv)
      refine fillTx ((Walks.list noExc3 _ ad apart its).toS) out xs lenX few each (its.size - 0) 0 _ (by omega) (Nat.zero_le _) ⟨⟨_, Heap.get?_push_size _ rfl, rfl, rfl⟩, seq2.push _⟩ ?begin ?after
      case begin =>
        have at1 : ((sh.heap.push (bare led)).push { cls := .type "list_iterator", data := .fields #[.ref ad, .int 0 0] }).get? sh.heap.objs.size = some (bare led) := Heap.get?_push_of_some _ at0
        exact SetOf_congr ((setObjOf_fresh (knd := intKind pr ww) led).setOf at1 (by unfold scanBound; omega)) (fun y => by simp [inOnce, once]) rfl
      case after =>
        intro sh3 mv hS
        obtain ⟨h3, g3, d3, t3, o3⟩ := sh3
        have eg : g3 = sh.gens := mv.gens
        have ed : d3 = sh.drawn := mv.drawn
        have eo : o3 = sh.os := mv.os
        subst eg ed eo
        show wpAny _ _ _ _ _ _
        (refine wpAny_pure ?_; show wpAny _ _ (ret Value.none) _ _ _)
        refine wpAny_pure ⟨rfl, h3, t3, rfl, hS, fun b o hb e => mv.heap b o ?_ (Heap.get?_push_of_some _ (Heap.get?_push_of_some _ e))⟩
        have b1 : b ≠ sh.heap.objs.size := Nat.ne_of_lt hb
        have b2 : b ≠ (sh.heap.push (bare led)).objs.size := by rw [Heap.size_push]; exact Nat.ne_of_lt (Nat.lt_succ_of_lt hb)
        simp only [List.mem_cons, List.mem_singleton, List.not_mem_nil, or_false, not_or]
        exact ⟨b1, b2⟩
    · rcases r2 with ex | fl2
      · exact hr2
      cases fl2 with
      | ret r =>
        obtain ⟨rfl, h2, t2, rfl, hS, hk⟩ := hr2
        repeat any_goals first | assumption | wp_step
        exact fin _ _ hS hk
      | _ => exact hr2.elim
  | _ => exact hr.elim
set_option maxHeartbeats 3300000 in
theorem newTxT {ad : Addr} {its : Array Value} {xs : List Int} {Q : Value → Shared → Prop} (noExc : A.handled = none) (hseq : sh.heap.IsTuple ad its) (tx : IntsAre its.toList xs) (few : its.size + 1 < scanBound)
    (fin : ∀ (h2 : Heap) (t2 : Nat), h2.SetOf (intKind pr ww) sh.heap.objs.size (inOnce xs) (once xs).length → (∀ b o, b < sh.heap.objs.size → sh.heap.get? b = some o → h2.get? b = some o) → Q (.ref sh.heap.objs.size) { sh with heap := h2, toks := t2 }) : wpAny (model pr ww) A (call (.type "set") [.ref ad]) Q E sh := by
  obtain ⟨cc, rest, mro⟩ := F.called_set.mro
  have made := F.called_set.made
  have subS := F.called_set.sub
  (refine wpAny_call (codeAny_of_tree ?_); show wpAny _ _ (callAny (.type "set") _) _ _ sh; refine wpAny_pure ⟨Code.quiet_builtin _ (by decide +kernel), codeAny_builtin F.entry_type_call ?_⟩)
  rw [Around.under_plain (weight_type_call_type "set" [.ref ad] []) rfl]
  have n1 := F.called_set.notType
  have n2 := F.called_set.canCreate
  have n3 := F.typeCall_set_1 (.ref ad)
  repeat any_goals first | assumption | wp_step
  refine codeAny_mono (code_set_new_1 (.ref ad) (E := E) (Q₁ := fun ob sh1 => ∃ led : Bool, ob = .ref sh.heap.objs.size ∧ sh1 = { sh with heap := sh.heap.push (bare led) }) fun led => ⟨led, rfl, rfl⟩) fun r sh1 hr => ?_
  rcases r with ex | fl
  · exact hr
  cases fl with
  | ret ob =>
    obtain ⟨led, rfl, rfl⟩ := hr
    have at0 : (sh.heap.push (bare led)).get? sh.heap.objs.size = some (bare led) := Heap.get?_push_size _ rfl
    have ty0 : Shared.TypeIs { sh with heap := sh.heap.push (bare led) } (.ref sh.heap.objs.size) "set" := ⟨_, at0, rfl⟩
    have in1 := F.called_set.init.lookup
    have in2 := F.called_set.init.bind (.ref sh.heap.objs.size)
    repeat any_goals first | assumption | wp_step
    refine codeAny_mono (codeAny_call_builtin (R := wants (fun r sh2 => r = .none ∧ ∃ h2 t2, sh2 = { sh with heap := h2, toks := t2 } ∧ h2.SetOf (intKind pr ww) sh.heap.objs.size (inOnce xs) (once xs).length ∧ (∀ b o, b < sh.heap.objs.size → sh.heap.get? b = some o → h2.get? b = some o)) E) F.called_set.init.plain F.entry_set_init (check_set_init_1 ty0 ?_)) fun r2 sh2 hr2 => ?_
    · obtain ⟨⟨oc, odt, oda, osl⟩, hol, hcl, nl, hdl⟩ := hseq
      simp only at hcl hdl
      subst hcl hdl
      have hol2 : (sh.heap.push (bare led)).get? ad = some { cls := .type "tuple", dict := odt, data := .seq its nl, slots := osl } := Heap.get?_push_of_some _ hol
      have sub1 := PySem.F.sub_tuple_set
      have sub2 := PySem.F.sub_tuple_frozenset
      have neD : (Value.type "tuple" == Value.type "dict") = false := by decide
      have seq2 : (sh.heap.push (bare led)).IsTuple ad its := ⟨_, hol2, rfl, nl, rfl⟩
      (unfold Builtin.«set.__init__» noKeywords Builtin.Frozenset.updateFrom; generalize ePI : pyIter = PI)
      wp_walk
      subst ePI
      refine wpAny_pyIter_tuple seq2 (wpAny_bind (wpAny_runValue ?_))
      have adLt : ad < sh.heap.objs.size := Heap.lt_size hol
      have noExc3 : A.in1.in1.in1.handled = none := by simp [noExc]
      have apart : ad ≠ (sh.heap.push (bare led)).objs.size := by rw [Heap.size_push]; exact Nat.ne_of_lt (Nat.lt_succ_of_lt adLt)
      have out : sh.heap.objs.size ∉ [(sh.heap.push (bare led)).objs.size, ad] := by
        rw [Heap.size_push]
        simp only [List.mem_cons, List.mem_singleton, List.not_mem_nil, or_false, not_or]
        exact ⟨Nat.ne_of_lt (Nat.lt_succ_self _), Nat.ne_of_gt adLt⟩
      have lenX : xs.length = its.size := by rw [← ints_len tx, Array.length_toList]
      have each : ∀ (i : Nat) (v : Value), its[i]? = some v → ∃ x t, xs[i]? = some x ∧ v = .int x t := fun i v hv => by
        exact ints_at tx i v (by rw [Array.getElem?_toList]; exact hv)
      refine fillTx ((Walks.tuple noExc3 _ ad apart its).toS) out xs lenX few each (its.size - 0) 0 _ (by omega) (Nat.zero_le _) ⟨⟨_, Heap.get?_push_size _ rfl, rfl, rfl⟩, seq2.push _⟩ ?begin ?after
      case begin =>
        have at1 : ((sh.heap.push (bare led)).push { cls := .type "tuple_iterator", data := .fields #[.ref ad, .int 0 0] }).get? sh.heap.objs.size = some (bare led) := Heap.get?_push_of_some _ at0
        exact SetOf_congr ((setObjOf_fresh (knd := intKind pr ww) led).setOf at1 (by unfold scanBound; omega)) (fun y => by simp [inOnce, once]) rfl
      case after =>
        intro sh3 mv hS
        obtain ⟨h3, g3, d3, t3, o3⟩ := sh3
        have eg : g3 = sh.gens := mv.gens
        have ed : d3 = sh.drawn := mv.drawn
        have eo : o3 = sh.os := mv.os
        subst eg ed eo
        show wpAny _ _ _ _ _ _
        (refine wpAny_pure ?_; show wpAny _ _ (ret Value.none) _ _ _)
        refine wpAny_pure ⟨rfl, h3, t3, rfl, hS, fun b o hb e => mv.heap b o ?_ (Heap.get?_push_of_some _ (Heap.get?_push_of_some _ e))⟩
        have b1 : b ≠ sh.heap.objs.size := Nat.ne_of_lt hb
        have b2 : b ≠ (sh.heap.push (bare led)).objs.size := by rw [Heap.size_push]; exact Nat.ne_of_lt (Nat.lt_succ_of_lt hb)
        simp only [List.mem_cons, List.mem_singleton, List.not_mem_nil, or_false, not_or]
        exact ⟨b1, b2⟩
    · rcases r2 with ex | fl2
      · exact hr2
      cases fl2 with
      | ret r =>
        obtain ⟨rfl, h2, t2, rfl, hS, hk⟩ := hr2
        repeat any_goals first | assumption | wp_step
        exact fin _ _ hS hk
      | _ => exact hr2.elim
  | _ => exact hr.elim
end
end IxSet
namespace L2
open PySem PyProof.Rows
def tLenIx (K : PySem.W.Frag) (ta : TE) : TE := fun σ H Q => ta σ H fun x H1 => ∃ l, ∃ xs : List Int, x = .ref l ∧ (SqL K H1 l (xs.map V.int) ∨ SqT K H1 l (xs.map V.int)) ∧ xs.length ≤ 1000 ∧ Q (.int (IxSet.once xs).length) H1
theorem pe_lenIx {X : Cx} {a : Expr} {ta : TE} {p p2 q pos : Pos} (hc : X.calm = true) (hg : Gl X "len") (hm : X.mg "len" = none) (hg2 : Gl X "set") (hm2 : X.mg "set" = none) (ha : PE X a ta) (na : starEach [a] X.env = (false, eval a X.env) :: starEach [] X.env := by rfl) :
    PE X (.Call (.Name "len" p) [.Call (.Name "set" p2) [a] [] q] [] pos) (tLenIx X.K ta) := by
  refine ⟨fun pins s σ H Q I h => Call_ (ld_blt I hg hm boot_len (PyProof.Rows.callWith_builtin1 (PyProof.Rows.args_cons (Call_ (ld_blt I hg2 hm2 boot_set (PyProof.Rows.callWith_type1 (PyProof.Rows.args_cons (thn (ha.run pins s σ H _ I h) fun v s1 ⟨x, H1, I1, r1, l, xs, ex, hq, h20, qq⟩ => PyProof.Rows.args_nil ?_) na) na rfl))) rfl) rfl rfl))⟩
  subst ex
  cases r1
  have l2 := IxSet.once_len xs []
  have fin : ∀ (h' : Heap) (tk : Nat), h'.SetOf (PySem.intKind X.prog X.w) s1.heap.objs.size (IxSet.inOnce xs) (IxSet.once xs).length → (∀ b o, b < s1.heap.objs.size → s1.heap.get? b = some o → h'.get? b = some o) →
      wpAny (model X.prog X.w) X.A (spliced (backTo pos (starEach [] X.env))) (fun vs s₂ => wpAny (model X.prog X.w) X.A (call (.builtin "len") (Value.ref s1.heap.objs.size :: vs)) (EP X pins σ Q) X.xe s₂) X.xe { s1 with heap := h', toks := tk } := fun h' tk hS hk => PyProof.Rows.args_nil (by
    obtain ⟨so, es, ep, tb, hso, hex, hd, _, _, _, hf, hn⟩ := hS
    have J2 : Inv X pins σ H1 { s1 with heap := h', toks := tk } := I1.kept fun b ob z => hk b ob (Heap.lt_size z) z
    have l3 : (IxSet.once xs).length ≤ 1000 := by unfold IxSet.once; simp at l2; omega
    exact call_len_set hso hex hd hf (by rw [hn]; omega) ⟨.int (IxSet.once xs).length, H1, J2.tok _, ⟨_, by rw [hn]⟩, qq⟩)
  rcases hq with hq | hq
  · obtain ⟨itms, r, pl, hz⟩ := I1.list hq
    have hl := r.length
    rw [List.length_map] at hl
    exact IxSet.newTxL (I1.ok.hd hc) pl.isList (by simpa using ints_of_vals r) (by simp; unfold scanBound; omega) fin
  · obtain ⟨itms, r, pl, hz⟩ := I1.tuple hq
    have hl := r.length
    rw [List.length_map] at hl
    exact IxSet.newTxT (I1.ok.hd hc) pl (by simpa using ints_of_vals r) (by simp; unfold scanBound; omega) fin
end L2
namespace Dv
open PySem L2
theorem se_lenSetA {X : Cx} {e : Expr} {G : Gs} {mu : Mu} {p p2 q pos : Pos} {P : PW1} (h : SE X e G mu fun w mu1 => ∃ xs : List Int, (w = .tup (xs.map W.int) ∨ ∃ a, w = .m a ∧ mu1 a = some (.lst (xs.map W.int))) ∧ xs.length ≤ 1000 ∧ P (.int (IxSet.once xs).length) mu1)
    (hm : X.mg "len" = none) (hm2 : X.mg "set" = none) (hc : X.calm = true := by rfl) (hg : Gl X "len" := by rfl) (hg2 : Gl X "set" := by rfl) (na : starEach [e] X.env = (false, eval e X.env) :: starEach [] X.env := by rfl) : SE X (.Call (.Name "len" p) [.Call (.Name "set" p2) [e] [] q] [] pos) G mu P :=
  SE.mk (pe_lenIx hc hg hm hg2 hm2 peE na) fun σ H Q d m k => h σ H _ d m fun v w mu1 H1 h1 c1 d1 m1 => by
    obtain ⟨xs, hw, h20, qq⟩ := h1
    rcases hw with rfl | ⟨a, rfl, ha⟩
    · obtain ⟨l, vs, rfl, s1, d2⟩ := d1
      have := denAll_int d2
      subst this
      exact ⟨l, xs, rfl, .inr s1, h20, (k.step c1).now qq rfl m1⟩
    · obtain ⟨vs, hx, d2⟩ := m1 a _ ha
      have d1 : v = .ref a := d1
      subst d1
      have := denAll_int d2
      subst this
      exact ⟨a, xs, rfl, .inl (SqL.of hx), h20, (k.step c1).now qq rfl m1⟩
end Dv
set_option Elab.async false
set_option linter.all false
set_option maxRecDepth 100000
/-! sorted(set(xs)) of whole numbers. -/
namespace IxSet
open PyProof.Rows PySem.Spec PySem L2
section
variable {pr : Program} {ww : World} {A : Around} {E : Value → Shared → Prop} {sh : Shared}
set_option maxHeartbeats 3300000 in
theorem newIxR {ad : Addr} {its : Array Value} {xs : List Int} {Q : Value → Shared → Prop} (noExc : A.handled = none) (hseq : sh.heap.IsList ad its) (tx : IntsAre its.toList xs) (few : its.size + 1 < scanBound)
    (fin : ∀ (h2 : Heap) (t2 c : Nat), SetR ww h2 sh.heap.objs.size (fun j => decide (j ∈ xs)) c → c ≤ xs.length → (∀ b o, b < sh.heap.objs.size → sh.heap.get? b = some o → h2.get? b = some o) → Q (.ref sh.heap.objs.size) { sh with heap := h2, toks := t2 }) : wpAny (model pr ww) A (call (.type "set") [.ref ad]) Q E sh := by
  obtain ⟨cc, rest, mro⟩ := F.called_set.mro
  have made := F.called_set.made
  have subS := F.called_set.sub
  (refine wpAny_call (codeAny_of_tree ?_); show wpAny _ _ (callAny (.type "set") _) _ _ sh; refine wpAny_pure ⟨Code.quiet_builtin _ (by decide +kernel), codeAny_builtin F.entry_type_call ?_⟩)
  rw [Around.under_plain (weight_type_call_type "set" [.ref ad] []) rfl]
  have n1 := F.called_set.notType
  have n2 := F.called_set.canCreate
  have n3 := F.typeCall_set_1 (.ref ad)
  repeat any_goals first | assumption | wp_step
  refine codeAny_mono (code_set_led1 (.ref ad) (E := E) (Q₁ := fun ob sh1 => ob = .ref sh.heap.objs.size ∧ sh1 = { sh with heap := sh.heap.push (bare (!ww.params.followText "set-order")) }) ⟨rfl, rfl⟩) fun r sh1 hr => ?_
  rcases r with ex | fl
  · exact hr
  cases fl with
  | ret ob =>
    obtain ⟨rfl, rfl⟩ := hr
    have at0 : (sh.heap.push (bare (!ww.params.followText "set-order"))).get? sh.heap.objs.size = some (bare (!ww.params.followText "set-order")) := Heap.get?_push_size _ rfl
    have ty0 : Shared.TypeIs { sh with heap := sh.heap.push (bare (!ww.params.followText "set-order")) } (.ref sh.heap.objs.size) "set" := ⟨_, at0, rfl⟩
    have in1 := F.called_set.init.lookup
    have in2 := F.called_set.init.bind (.ref sh.heap.objs.size)
    repeat any_goals first | assumption | wp_step
    refine codeAny_mono (codeAny_call_builtin (R := wants (fun r sh2 => r = .none ∧ ∃ h2 t2, sh2 = { sh with heap := h2, toks := t2 } ∧ (∃ c, SetR ww h2 sh.heap.objs.size (fun j => decide (j ∈ xs)) c ∧ c ≤ xs.length) ∧ (∀ b o, b < sh.heap.objs.size → sh.heap.get? b = some o → h2.get? b = some o)) E) F.called_set.init.plain F.entry_set_init (check_set_init_1 ty0 ?_)) fun r2 sh2 hr2 => ?_
    · obtain ⟨⟨oc, odt, oda, osl⟩, hol, hcl, nl, hdl⟩ := hseq
      simp only at hcl hdl
      subst hcl hdl
      have hol2 : (sh.heap.push (bare (!ww.params.followText "set-order"))).get? ad = some { cls := .type "list", dict := odt, data := .seq its nl, slots := osl } := Heap.get?_push_of_some _ hol
      have sub1 := PySem.F.sub_list_set
      have sub2 := PySem.F.sub_list_frozenset
      have neD : (Value.type "list" == Value.type "dict") = false := by decide
      have seq2 : (sh.heap.push (bare (!ww.params.followText "set-order"))).IsList ad its := ⟨_, hol2, rfl, nl, rfl⟩
      (unfold Builtin.«set.__init__» noKeywords Builtin.Frozenset.updateFrom; generalize ePI : pyIter = PI)
      wp_walk
      subst ePI
      refine wpAny_pyIter_list seq2 (wpAny_bind (wpAny_runValue ?_))
      have adLt : ad < sh.heap.objs.size := Heap.lt_size hol
      have noExc3 : A.in1.in1.in1.handled = none := by simp [noExc]
      have apart : ad ≠ (sh.heap.push (bare (!ww.params.followText "set-order"))).objs.size := by rw [Heap.size_push]; exact Nat.ne_of_lt (Nat.lt_succ_of_lt adLt)
      have out : sh.heap.objs.size ∉ [(sh.heap.push (bare (!ww.params.followText "set-order"))).objs.size, ad] := by
        rw [Heap.size_push]
        simp only [List.mem_cons, List.mem_singleton, List.not_mem_nil, or_false, not_or]
        exact ⟨Nat.ne_of_lt (Nat.lt_succ_self _), Nat.ne_of_gt adLt⟩
      have lenX : xs.length = its.size := by rw [← ints_len tx, Array.length_toList]
      have each : ∀ (i : Nat) (v : Value), its[i]? = some v → ∃ x t, xs[i]? = some x ∧ v = .int x t := fun i v hv => by
        exact ints_at tx i v (by rw [Array.getElem?_toList]; exact hv)
      refine set_update_ints ((Walks.list noExc3 _ ad apart its).toS) sh.heap.objs.size out xs lenX.symm (by rw [lenX]; exact few) each (its.size - 0) 0 _ (by omega) (Nat.zero_le _) ⟨⟨_, Heap.get?_push_size _ rfl, rfl, rfl⟩, seq2.push _⟩ ?begin ?after
      case begin =>
        have at1 : ((sh.heap.push (bare (!ww.params.followText "set-order"))).push { cls := .type "list_iterator", data := .fields #[.ref ad, .int 0 0] }).get? sh.heap.objs.size = some (bare (!ww.params.followText "set-order")) := Heap.get?_push_of_some _ at0
        exact ⟨0, Nat.le_refl 0, setR_new_at at1⟩
      case after =>
        intro sh3 c3 mv hc3 hS
        obtain ⟨h3, g3, d3, t3, o3⟩ := sh3
        have eg : g3 = sh.gens := mv.gens
        have ed : d3 = sh.drawn := mv.drawn
        have eo : o3 = sh.os := mv.os
        subst eg ed eo
        show wpAny _ _ _ _ _ _
        (refine wpAny_pure ?_; show wpAny _ _ (ret Value.none) _ _ _)
        refine wpAny_pure ⟨rfl, h3, t3, rfl, ⟨c3, hS, by rw [lenX]; exact hc3⟩, fun b o hb e => mv.heap b o ?_ (Heap.get?_push_of_some _ (Heap.get?_push_of_some _ e))⟩
        have b1 : b ≠ sh.heap.objs.size := Nat.ne_of_lt hb
        have b2 : b ≠ (sh.heap.push (bare (!ww.params.followText "set-order"))).objs.size := by rw [Heap.size_push]; exact Nat.ne_of_lt (Nat.lt_succ_of_lt hb)
        simp only [List.mem_cons, List.mem_singleton, List.not_mem_nil, or_false, not_or]
        exact ⟨b1, b2⟩
    · rcases r2 with ex | fl2
      · exact hr2
      cases fl2 with
      | ret r =>
        obtain ⟨rfl, h2, t2, rfl, ⟨c, hS, hc⟩, hk⟩ := hr2
        repeat any_goals first | assumption | wp_step
        exact fin _ _ c hS hc hk
      | _ => exact hr2.elim
  | _ => exact hr.elim
end
end IxSet
namespace L2
open PySem PyProof.Rows
def tSortIx (K : PySem.W.Frag) (ta : TE) : TE := fun σ H Q => ta σ H fun x H1 => ∃ (l : Addr) (xs : List Int), x = .ref l ∧ SqL K H1 l (xs.map V.int) ∧ xs.length < 64 ∧ ∀ (y : Addr) (ys : List Int), H1 y = none → ys.Pairwise (· < ·) → (∀ z, z ∈ ys ↔ z ∈ xs) → Q (.ref y) (upd H1 y (.lst (ys.map V.int)))
set_option maxHeartbeats 1000000 in
theorem pe_sortIx {X : Cx} {a : Expr} {ta : TE} {p p2 q pos : Pos} (hc : X.calm = true) (hg : Gl X "sorted") (hm : X.mg "sorted" = none) (hg2 : Gl X "set") (hm2 : X.mg "set" = none) (ha : PE X a ta) (na : starEach [a] X.env = (false, eval a X.env) :: starEach [] X.env := by rfl) :
    PE X (.Call (.Name "sorted" p) [.Call (.Name "set" p2) [a] [] q] [] pos) (tSortIx X.K ta) := by
  refine ⟨fun pins s σ H Q I h => Call_ (ld_blt I hg hm boot_sorted (PyProof.Rows.callWith_builtin1 (PyProof.Rows.args_cons (Call_ (ld_blt I hg2 hm2 boot_set (PyProof.Rows.callWith_type1 (PyProof.Rows.args_cons (thn (ha.run pins s σ H _ I h) fun v s1 ⟨x, H1, I1, r1, l, xs, ex, hq, l3, qq⟩ => PyProof.Rows.args_nil ?_) na) na rfl))) rfl) rfl rfl))⟩
  subst ex
  cases r1
  obtain ⟨itms, rv, pl, hz⟩ := I1.list hq
  have hl := rv.length
  rw [List.length_map] at hl
  have noExc : X.A.handled = none := I1.ok.hd hc
  refine IxSet.newIxR (xs := xs) noExc pl.isList (by simpa using ints_of_vals rv) (by simp; unfold scanBound; omega) fun h' tk c R hcl hk => ?_
  refine PyProof.Rows.args_nil ?_
  have J : L2.Inv X pins σ H1 { s1 with heap := h', toks := tk } := I1.kept fun b ob z => hk b ob (Heap.lt_size z) z
  refine sorted_set (s := { s1 with heap := h', toks := tk }) R (J.ok.hd hc) (by omega) fun s2 y out c2 ns k1 g1 o1 hp hget hi hs hmem hlen => ?_
  have hn : H1 y = none := J.hok.fresh hp
  have JJ : L2.Inv X pins σ (upd H1 y (.lst (ns.map V.int))) { s1 with heap := s2.heap, gens := s2.gens, drawn := s2.drawn, toks := s2.toks } :=
    L2.Inv.call (s := { s1 with heap := h', toks := tk }) (ch := []) J (Un.laid k1 hp hn) (J.hok.laid k1 hp ⟨by rw [List.length_map, hlen, sizeLine_eq]; omega, out.toList, c2, vals_of_ints hi, hget⟩) (by rw [g1]; exact I1.bare) (fun _ z => nomatch z)
  have e : s2 = { s1 with heap := s2.heap, gens := s2.gens, drawn := s2.drawn, toks := s2.toks } := by
    cases s2
    cases s1
    cases o1
    rfl
  rw [e]
  exact ⟨.ref y, _, JJ, rfl, qq y ns hn hs fun z => by rw [hmem z]; simp⟩
end L2
namespace Dv
open PySem L2
theorem se_sortIx {X : Cx} {e : Expr} {G : Gs} {mu : Mu} {p p2 q pos : Pos} {P : PW1} (h : SE X e G mu fun w mu1 => ∃ a, ∃ xs : List Int, w = .m a ∧ mu1 a = some (.lst (xs.map W.int)) ∧ xs.length < 64 ∧
      ∀ y (ys : List Int), mu1 y = none → ys.Pairwise (· < ·) → (∀ z, z ∈ ys ↔ z ∈ xs) → P (.m y) (setM mu1 y (.lst (ys.map W.int))))
    (hm : X.mg "sorted" = none) (hm2 : X.mg "set" = none) (hc : X.calm = true := by rfl) (hg : Gl X "sorted" := by rfl) (hg2 : Gl X "set" := by rfl) (na : starEach [e] X.env = (false, eval e X.env) :: starEach [] X.env := by rfl) : SE X (.Call (.Name "sorted" p) [.Call (.Name "set" p2) [e] [] q] [] pos) G mu P :=
  SE.mk (pe_sortIx hc hg hm hg2 hm2 peE na) fun σ H Q d m k => h σ H _ d m fun v w mu1 H1 h1 c1 d1 m1 => by
    obtain ⟨a, xs, hw, ha, l3, qq⟩ := h1
    subst hw
    have d1 : v = .ref a := d1
    subst d1
    obtain ⟨vs, hx, dx⟩ := m1 a _ ha
    have := denAll_int dx
    subst this
    refine ⟨a, xs, rfl, SqL.of hx, l3, fun y ys hy h1 h2 => ?_⟩
    obtain ⟨c2, m2⟩ := laidC (o := .lst (ys.map V.int)) (c := .lst (ys.map W.int)) m1 hy (newLst (den_ints ys))
    exact (k.step c1) _ _ _ _ (qq y ys (m1.dom hy) h1 h2) c2 rfl m2
end Dv
set_option Elab.async false
set_option linter.all false
set_option maxRecDepth 100000
/-! k70: any values, their sizes, how they are shown. -/
namespace K1
open PySem L2 Dv
def StOk (t : Nat) (z : Str) : Prop := z.length ≤ 24 + t ∧ ∀ c ∈ z.cps.toList, c < 16 ^ 8
def InOk (t : Nat) (i : Int) : Prop := i.natAbs ≤ 10 ^ 17 + 100 + t
/-- frozen values, at most n deep -/
def FrOk (t : Nat) : Nat → W → Prop
  | _, .non => True
  | _, .bl _ => True
  | _, .int i => InOk t i
  | _, .str z => StOk t z
  | n + 1, .tup ws => ∀ w ∈ ws, FrOk t n w
  | n + 1, .fl ws => ∀ w ∈ ws, FrOk t n w
  | n + 1, .fd ks ws => ks.length = ws.length ∧ (∀ k ∈ ks, StOk t k) ∧ ∀ w ∈ ws, FrOk t n w
  | _, _ => False
mutual
def sz : W → Nat
  | .tup ws => szs ws + 1
  | .fl ws => szs ws + 1
  | .fd ks ws => szs ws + ks.length + 1
  | _ => 1
def szs : List W → Nat
  | [] => 0
  | w :: ws => sz w + szs ws
end
theorem fr_non {t n : Nat} : FrOk t n .non := by cases n <;> trivial
theorem fr_bl {t n : Nat} {b : Bool} : FrOk t n (.bl b) := by cases n <;> trivial
theorem fr_int {t n : Nat} {i : Int} (h : InOk t i) : FrOk t n (.int i) := by cases n <;> exact h
theorem fr_str {t n : Nat} {z : Str} (h : StOk t z) : FrOk t n (.str z) := by cases n <;> exact h
theorem fr_int' {t n : Nat} {i : Int} (h : FrOk t n (.int i)) : InOk t i := by cases n <;> exact h
theorem fr_str' {t n : Nat} {z : Str} (h : FrOk t n (.str z)) : StOk t z := by cases n <;> exact h
theorem FrOk.mono {t t' : Nat} (ht : t ≤ t') : ∀ {n n' : Nat} {w : W}, n ≤ n' → FrOk t n w → FrOk t' n' w
  | _, n', .non, _, _ => fr_non
  | _, n', .bl _, _, _ => fr_bl
  | _, n', .int i, _, h => fr_int (Nat.le_trans (fr_int' h) (by omega))
  | _, n', .str z, _, h => fr_str ⟨Nat.le_trans (fr_str' h).1 (by omega), (fr_str' h).2⟩
  | 0, _, .tup _, _, h => h.elim
  | 0, _, .fl _, _, h => h.elim
  | 0, _, .fd _ _, _, h => h.elim
  | 0, _, .m _, _, h => h.elim
  | _ + 1, _, .m _, _, h => h.elim
  | n + 1, n', .tup ws, hn, h => by
    obtain ⟨m, rfl⟩ : ∃ m, n' = m + 1 := ⟨n' - 1, by omega⟩
    exact fun w hw => FrOk.mono ht (by omega) (h w hw)
  | n + 1, n', .fl ws, hn, h => by
    obtain ⟨m, rfl⟩ : ∃ m, n' = m + 1 := ⟨n' - 1, by omega⟩
    exact fun w hw => FrOk.mono ht (by omega) (h w hw)
  | n + 1, n', .fd ks ws, hn, ⟨h1, h2, h3⟩ => by
    obtain ⟨m, rfl⟩ : ∃ m, n' = m + 1 := ⟨n' - 1, by omega⟩
    exact ⟨h1, fun k hk => ⟨Nat.le_trans (h2 k hk).1 (by omega), (h2 k hk).2⟩, fun w hw => FrOk.mono ht (by omega) (h3 w hw)⟩
theorem szs_app : ∀ a b : List W, szs (a ++ b) = szs a + szs b
  | [], b => by simp [szs]
  | w :: a, b => by simp only [List.cons_append, szs, szs_app a b]; omega
theorem sz_mem : ∀ {ws : List W} {w : W}, w ∈ ws → sz w ≤ szs ws
  | v :: ws, w, h => by
    simp only [szs]
    rcases List.mem_cons.mp h with rfl | h
    · omega
    · have := sz_mem h; omega
theorem sz_pos : ∀ w : W, 1 ≤ sz w
  | .tup _ => by simp [sz]
  | .fl _ => by simp [sz]
  | .fd _ _ => by simp only [sz]; omega
  | .non => by simp [sz]
  | .bl _ => by simp [sz]
  | .int _ => by simp [sz]
  | .str _ => by simp [sz]
  | .m _ => by simp [sz]
theorem szs_len : ∀ ws : List W, ws.length ≤ szs ws
  | [] => by simp [szs]
  | w :: ws => by have := szs_len ws; have := sz_pos w; simp only [List.length_cons, szs]; omega
theorem szs_sub : ∀ {a b : List W}, a.Sublist b → szs a ≤ szs b
  | _, _, .slnil => Nat.le_refl _
  | _, _, .cons w h => by have := szs_sub h; simp only [szs]; omega
  | _, _, .cons_cons w h => by have := szs_sub h; simp only [szs]; omega
theorem szs_perm {a b : List W} (h : a.Perm b) : szs a = szs b := by
  induction h with
  | nil => rfl
  | cons w _ ih => simp only [szs, ih]
  | swap x y l => simp only [szs]; omega
  | trans _ _ i1 i2 => exact i1.trans i2
structure ShF (w : W) (n : Nat) : Prop where
  fr : frW w = true
  dp : (dat w).depth ≤ n
  sh : (dat w).showable = true
  ln : (dat w).shown.length + 2 ≤ 500 * sz w
theorem shf_all {n : Nat} : ∀ {ws : List W}, (∀ w ∈ ws, ShF w n) → frWs ws = true ∧ PyData.depthAll (dats ws) ≤ n ∧ PyData.showableAll (dats ws) = true ∧ piled (PyData.shownAll (dats ws)) ≤ 500 * szs ws
  | [], _ => by simp [frWs, dats, PyData.depthAll, PyData.showableAll, PyData.shownAll, szs, piled]
  | w :: ws, h => by
    have a := h w (by simp)
    obtain ⟨b1, b2, b3, b4⟩ := shf_all (ws := ws) fun v hv => h v (by simp [hv])
    refine ⟨by simp [frWs, a.fr, b1], ?_, by simp [dats, PyData.showableAll, a.sh, b3], ?_⟩
    · simp only [dats, PyData.depthAll]
      have := a.dp
      omega
    · simp only [dats, PyData.shownAll, piled_cons, szs]
      have := a.ln
      omega
theorem join_pile (ts : List Str) : (Str.join ", " ts).length ≤ piled ts := by
  by_cases h : ts = []
  · subst h; exact Nat.zero_le _
  · have := join_length_add ts h; omega
theorem tupleText_le (ts : List Str) : (tupleText ts).length ≤ piled ts + 3 := by
  unfold tupleText
  rw [strLen_append, strLen_append]
  have e1 : (("(" : String) : Str).length = 1 := rfl
  have e3 : (((if ts.length == 1 then ",)" else ")" : String) : Str)).length ≤ 2 := by split <;> decide
  have := join_pile ts
  omega
theorem listText_le (ts : List Str) : (listText ts).length ≤ piled ts + 2 := by
  unfold listText
  rw [strLen_append]
  have e2 : (("]" : String) : Str).length = 1 := rfl
  have e1 : (("[" : String) : Str).length = 1 := rfl
  cases ts with
  | nil => show (textFrom 0 "[" []).length + _ ≤ _; simp only [textFrom]; omega
  | cons t ts =>
    show (textFrom (0 + 1) ("[" ++ (if 0 > 0 then ", " else "" : String) ++ t) ts).length + _ ≤ _
    rw [textFrom_length_pos ts _ _ (Nat.succ_pos 0), piled_cons, strLen_append, strLen_append]
    have e3 : (((if 0 > 0 then ", " else "" : String) : String) : Str).length = 0 := rfl
    omega
theorem dictText_le (ts : List Str) : (dictText ts).length ≤ piled ts + 2 := by
  unfold dictText
  rw [strLen_append, strLen_append]
  have e1 : (("{" : String) : Str).length = 1 := rfl
  have e3 : (("}" : String) : Str).length = 1 := rfl
  have := join_pile ts
  omega
theorem int_log {t : Nat} {i : Int} (h : InOk t i) (ht : t ≤ 1000) : i.natAbs.log2 < 1920 ∧ (Str.ofString (toString i)).length ≤ 19 := by
  have hb : i.natAbs < 10 ^ 18 := Nat.lt_of_le_of_lt h (by omega)
  refine ⟨?_, by rw [ofString_length]; exact int_text_length_le10 (by decide) hb⟩
  by_cases e : i.natAbs = 0
  · rw [e]; decide
  · exact (Nat.log2_lt e).mpr (Nat.lt_of_lt_of_le hb (by decide +kernel))
theorem shf_of {t : Nat} (ht : t ≤ 10) : ∀ {n : Nat} {w : W}, FrOk t n w → ShF w n
  | _, .non, _ => ⟨rfl, by simp [dat, PyData.depth], by simp [dat, PyData.showable], by decide +kernel⟩
  | _, .bl b, _ => by
    refine ⟨rfl, by simp [dat, PyData.depth], by simp [dat, PyData.showable], ?_⟩
    cases b <;> decide +kernel
  | _, .int i, h => by
    obtain ⟨a, b⟩ := int_log (fr_int' h) (by omega)
    refine ⟨rfl, by simp [dat, PyData.depth], by simpa [dat, PyData.showable] using a, ?_⟩
    show (Str.ofString (toString i)).length + 2 ≤ 500 * 1
    omega
  | _, .str z, h => by
    have h := fr_str' h
    have h1 := StrLaws.reprText_len z h.2
    have h2 := h.1
    refine ⟨rfl, by simp [dat, PyData.depth], by simp [dat, PyData.showable], ?_⟩
    show (reprText z).length + 2 ≤ 500 * 1
    omega
  | 0, .tup _, h => h.elim
  | 0, .fl _, h => h.elim
  | 0, .fd _ _, h => h.elim
  | 0, .m _, h => h.elim
  | _ + 1, .m _, h => h.elim
  | n + 1, .tup ws, h => by
    obtain ⟨a1, a2, a3, a4⟩ := shf_all (n := n) (ws := ws) fun w hw => shf_of ht (h w hw)
    refine ⟨by simpa [frW] using a1, by simp only [dat, PyData.depth]; omega, by simpa [dat, PyData.showable] using a3, ?_⟩
    show (tupleText (PyData.shownAll (dats ws))).length + 2 ≤ 500 * (szs ws + 1)
    have := tupleText_le (PyData.shownAll (dats ws))
    omega
  | n + 1, .fl ws, h => by
    obtain ⟨a1, a2, a3, a4⟩ := shf_all (n := n) (ws := ws) fun w hw => shf_of ht (h w hw)
    refine ⟨by simpa [frW] using a1, by simp only [dat, PyData.depth]; omega, by simpa [dat, PyData.showable] using a3, ?_⟩
    show (listText (PyData.shownAll (dats ws))).length + 2 ≤ 500 * (szs ws + 1)
    have := listText_le (PyData.shownAll (dats ws))
    omega
  | n + 1, .fd ks ws, ⟨h1, h2, h3⟩ => by
    obtain ⟨a1, a2, a3, a4⟩ := shf_all (n := n) (ws := ws) fun w hw => shf_of ht (h3 w hw)
    have kv : ∀ (ks : List Str) (ws : List W), ks.length = ws.length → (∀ k ∈ ks, StOk t k) → PyData.showableAll (dats ws) = true → PyData.depthAll (dats ws) ≤ n →
        PyData.depthKv ((ks.map PyData.str).zip (dats ws)) ≤ n ∧ PyData.showableKv ((ks.map PyData.str).zip (dats ws)) = true ∧ piled (PyData.shownKv ((ks.map PyData.str).zip (dats ws))) ≤ piled (PyData.shownAll (dats ws)) + 400 * ks.length := fun ks => by
      induction ks with
      | nil => intro ws _ _ _ _; simp [PyData.depthKv, PyData.showableKv, PyData.shownKv, piled]
      | cons k ks ih =>
        intro ws hl hk hs hd
        cases ws with
        | nil => simp at hl
        | cons w ws =>
          simp only [dats, PyData.showableAll, Bool.and_eq_true] at hs
          simp only [dats, PyData.depthAll] at hd
          obtain ⟨i1, i2, i3⟩ := ih ws (by simpa using hl) (fun k hk' => hk k (by simp [hk'])) hs.2 (by omega)
          have hz := hk k (by simp)
          have r := StrLaws.reprText_len k hz.2
          have r2 := hz.1
          simp only [dats, List.map_cons, List.zip_cons_cons]
          refine ⟨?_, by simp [PyData.showableKv, PyData.showable, hs.1, i2], ?_⟩
          · simp only [PyData.depthKv, PyData.depth]
            omega
          · simp only [PyData.shownKv, PyData.shownAll, piled_cons, List.length_cons, strLen_append]
            have e : (PyData.str k).shown = reprText k := by simp [PyData.shown]
            have e2 : ((": " : String) : Str).length = 2 := rfl
            rw [e]
            omega
    obtain ⟨k1, k2, k3⟩ := kv ks ws h1 h2 a3 a2
    refine ⟨by simpa [frW] using a1, by simp only [dat, PyData.depth]; omega, by simpa [dat, PyData.showable] using k2, ?_⟩
    show (dictText (PyData.shownKv ((ks.map PyData.str).zip (dats ws)))).length + 2 ≤ 500 * (szs ws + ks.length + 1)
    have := dictText_le (PyData.shownKv ((ks.map PyData.str).zip (dats ws)))
    omega
theorem FrOk.show {t n : Nat} {w : W} (h : FrOk t n w) (ht : t ≤ 10) (hn : n ≤ 100) (hz : sz w ≤ 10000) : ShowOk (dat w) := by
  have a := shf_of ht h
  exact ⟨a.sh, Nat.le_trans a.dp hn, Nat.le_trans (by have := a.ln; omega : _ ≤ 5000000) (by decide)⟩
end K1
set_option Elab.async false
set_option linter.all false
set_option maxRecDepth 100000
/-! k70: the program's looks at any value. -/
namespace K1
open PySem L2 Dv
theorem bW_b {b : Bool} {A B : Prop} (h1 : b = true → A) (h2 : b = false → B) : bW (.bl b) A B := by
  cases b with
  | true => exact h1 rfl
  | false => exact h2 rfl
def tyS : W → String
  | .non => "NoneType"
  | .bl _ => "bool"
  | .int _ => "int"
  | .str _ => "str"
  | .tup _ => "tuple"
  | .fl _ => "list"
  | .fd _ _ => "dict"
  | .m _ => ""
theorem tyN_fr {mu : Mu} {w : W} (h : frW w = true) : tyN mu w = some (tyS w) := by
  cases w with
  | m a => unfold frW at h; cases h
  | _ => rfl
def isIB : W → Bool
  | .int _ => true
  | .bl _ => true
  | _ => false
def isBo : W → Bool
  | .bl _ => true
  | _ => false
def isSt : W → Bool
  | .str _ => true
  | _ => false
def isTu : W → Bool
  | .tup _ => true
  | _ => false
theorem kit_int {w : W} (h : frW w = true) : kitB (tyS w) "int" = some (isIB w) := by
  cases w with
  | m a => unfold frW at h; cases h
  | _ => simp only [tyS, isIB]; decide +kernel
theorem kit_bool {w : W} (h : frW w = true) : kitB (tyS w) "bool" = some (isBo w) := by
  cases w with
  | m a => unfold frW at h; cases h
  | _ => simp only [tyS, isBo]; decide +kernel
theorem kit_str {w : W} (h : frW w = true) : kitB (tyS w) "str" = some (isSt w) := by
  cases w with
  | m a => unfold frW at h; cases h
  | _ => simp only [tyS, isSt]; decide +kernel
theorem kit_tup {w : W} (h : frW w = true) : kitB (tyS w) "tuple" = some (isTu w) := by
  cases w with
  | m a => unfold frW at h; cases h
  | _ => simp only [tyS, isTu]; decide +kernel
/-- any value that the law makes -/
def FrB (w : W) : Prop := ∃ t n, t ≤ 10 ∧ FrOk t n w
theorem FrB.fr {w : W} (h : FrB w) : frW w = true := let ⟨_, _, ht, h⟩ := h; (shf_of ht h).fr
theorem FrB.tup {ws : List W} (h : FrB (.tup ws)) : ∀ w ∈ ws, FrB w := fun w hw => by
  obtain ⟨t, n, ht, h⟩ := h
  cases n with
  | zero => exact h.elim
  | succ n => exact ⟨t, n, ht, h w hw⟩
theorem FrB.str {z : Str} (h : FrB (.str z)) : z.length ≤ 34 := by
  obtain ⟨t, n, ht, h⟩ := h
  have := (fr_str' h).1
  omega
theorem line_le {n : Nat} (h : n ≤ 1000) : n ≤ sizeLine := Nat.le_trans h (by decide)
theorem letters_iff {c : Nat} : c ∈ ("abcdefghijklmnopqrstuvwxyz" : Str).cps.toList ↔ (97 ≤ c ∧ c ≤ 122) := by
  refine ⟨fun h => ?_, letters_mem⟩
  have hd : ∀ c ∈ ("abcdefghijklmnopqrstuvwxyz" : Str).cps.toList, 97 ≤ c ∧ c ≤ 122 := by decide +kernel
  exact hd c h
def nmB (z : Str) : Bool := decide (1 ≤ z.length) && decide (z.length ≤ 8) && z.cps.toList.all fun c => decide (97 ≤ c ∧ c ≤ 122)
theorem nmB_iff {z : Str} : nmB z = true ↔ NmOk z := by
  unfold nmB NmOk
  simp only [Bool.and_eq_true, decide_eq_true_eq, List.all_eq_true]
  exact ⟨fun ⟨⟨a, b⟩, c⟩ => ⟨a, b, c⟩, fun ⟨a, b, c⟩ => ⟨⟨a, b⟩, c⟩⟩
def isNm : W → Bool
  | .str z => nmB z
  | _ => false
def isIn : W → Bool
  | .int _ => true
  | _ => false
def timeB : W → Bool
  | .int i => decide (1 ≤ i)
  | _ => false
def tupN (w : W) (a b : Int) : Bool := match w with
  | .tup us => decide (a ≤ (us.length : Int)) && decide ((us.length : Int) ≤ b)
  | _ => false
section
variable {P : Program} {w : World} {K : PySem.W.Frag} {mg : Str → Option Value} {base : Heap}
abbrev s_is_integer : Stmt := top 2
theorem sc_is_integer : FnScope ["value"] ["value"] (defScope s_is_integer) := ⟨rfl, rfl, rfl, by decide +kernel, rfl, by decide +kernel, by decide +kernel⟩
/-- a look at any value -/
def S_any (g : W → Bool) : SpW := fun ws mu P => ∃ u, ws = [u] ∧ FrB u ∧ ∀ b mu', b = g u → Ext mu mu' → P (.bl b) mu'
theorem d_is_integer (D : Dfn K mg "is_integer" s_is_integer ["value"]) (B : Bl mg) (Kb : KNo mg "bool") : DefOk P w K mg base "is_integer" ["value"] 1 (S_any isIn) := by
  refine dfnOk D sc_is_integer (fun ws mu P ⟨_, e, _⟩ => by rw [e]; rfl) (fun f cdv A outer s H E hr ws mu Pt ⟨u, e, fb, h⟩ => ?_)
  subst e
  have fr := fb.fr
  refine sss_cons (ss_ret (se_and (se_isi (T := "int") (se_var (i := 0) rfl ⟨_, _, tyN_fr fr, kit_int fr, ?_⟩) B.isinstance B.int)))
  refine bW_b (fun h1 => ?_) fun h1 => h _ _ (by cases u <;> first | rfl | cases h1) Ext.refl
  refine se_one (se_not (se_isi (T := "bool") (se_var (i := 0) rfl ⟨_, _, tyN_fr fr, kit_bool fr, ?_⟩) B.isinstance Kb.no))
  exact h _ _ (by cases u <;> first | rfl | cases h1) Ext.refl
abbrev s_is_nameA : Stmt := top 3
theorem d_is_nameA (D : Dfn K mg "is_name" s_is_nameA ["value"]) (B : Bl mg) : DefOk P w K mg base "is_name" ["value"] 1 (S_any isNm) := by
  refine dfnOk D sc_is_name (fun ws mu P ⟨_, e, _⟩ => by rw [e]; rfl) (fun f cdv A outer s H E hr ws mu Pt ⟨u, e, fb, h⟩ => ?_)
  subst e
  have fr := fb.fr
  refine sss_cons (ss_ret (se_and (se_isi (T := "str") (se_var (i := 0) rfl ⟨_, _, tyN_fr fr, kit_str fr, ?_⟩) B.isinstance B.str)))
  refine bW_b (fun h1 => ?_) fun h1 => h _ _ (by cases u <;> first | rfl | cases h1) Ext.refl
  obtain ⟨z, rfl⟩ : ∃ z, u = .str z := by cases u <;> first | exact ⟨_, rfl⟩ | cases h1
  have zl := fb.str
  refine se_and (se_chain op_le cmpI_w op_le cmpI_w (se_int (se_len (se_var (i := 0) rfl ⟨line_le (by omega), ?_⟩) B.len)))
  refine bW_b (fun h2 => se_int ?_) fun h2 => h _ _ (by
    have h2 : decide ((1 : Int) ≤ (z.length : Int)) = false := h2
    have : ¬ 1 ≤ z.length := fun q => of_decide_eq_false h2 (by omega)
    show false = nmB z
    unfold nmB
    rw [decide_eq_false this]
    rfl) Ext.refl
  have h2 : decide ((1 : Int) ≤ (z.length : Int)) = true := h2
  have l1 : 1 ≤ z.length := by have := of_decide_eq_true h2; omega
  refine bW_b (fun h3 => ?_) fun h3 => h _ _ (by
    have h3 : decide ((z.length : Int) ≤ 8) = false := h3
    have : ¬ z.length ≤ 8 := fun q => of_decide_eq_false h3 (by omega)
    show false = nmB z
    unfold nmB
    rw [decide_eq_false this, Bool.and_false]
    rfl) Ext.refl
  have h3 : decide ((z.length : Int) ≤ 8) = true := h3
  have l8 : z.length ≤ 8 := by have := of_decide_eq_true h3; omega
  refine se_one (se_all ?_ B.all)
  refine se_lc (own := [("letter", 1)]) (.nm 1) rfl sc_is_name.nd (blkOk_by (N := ["value", "letter"]) (sc := defScope s_is_name) (by decide +kernel)) rfl (fun _ _ _ _ _ => (pg_name (i := 1) sc_is_name.nd rfl (Or.inl rfl))) (by intro _; rfl) ?_
  refine si_str (se_var (i := 0) rfl ?_)
  refine lc_all_g (fun v => match v with | .str y => y.cps.toList.all fun c => decide (97 ≤ c ∧ c ≤ 122) | _ => false) (fun _ _ => trivial) (by rw [List.length_map, Array.length_toList]; exact line_le (by have : z.cps.size = z.length := rfl; omega)) InBlk.mono ?_ fun mu' e => ?_
  · intro v mu' hv he
    obtain ⟨c, hc, rfl⟩ := List.mem_map.mp hv
    refine ⟨_, rfl, fun s H C cl fp => ?_⟩
    refine se_cmp op_in_sign inC_w (by rfl) (se_var (i := 1) rfl ?_)
    obtain ⟨t, ht⟩ := B.letters
    refine se_glob (w := .str "abcdefghijklmnopqrstuvwxyz") (v := .str "abcdefghijklmnopqrstuvwxyz") ht ⟨t, rfl⟩ (fun _ _ => rfl) ?_
    refine ⟨c, _, rfl, rfl, ?_, Ext.refl⟩
    show W.bl _ = .bl _
    congr 1
    simp only [List.all_cons, List.all_nil, Bool.and_true]
    exact decide_eq_decide.mpr letters_iff
  · refine h _ _ ?_ e
    show _ = nmB z
    unfold nmB
    rw [decide_eq_true l1, decide_eq_true l8, List.all_map]
    simp [Function.comp_def]
abbrev s_is_tupleA : Stmt := top 4
def S_is_tupleA : SpW := fun ws mu P => ∃ u a b, ws = [u, .int a, .int b] ∧ FrB u ∧ ∀ r mu', r = tupN u a b → Ext mu mu' → P (.bl r) mu'
theorem d_is_tupleA (D : Dfn K mg "is_tuple" s_is_tupleA ["value", "least", "most"]) (B : Bl mg) : DefOk P w K mg base "is_tuple" ["value", "least", "most"] 1 S_is_tupleA := by
  refine dfnOk D sc_is_tuple (fun ws mu P ⟨_, _, _, e, _⟩ => by rw [e]; rfl) (fun f cdv A outer s H E hr ws mu Pt ⟨u, a, b, e, fb, h⟩ => ?_)
  subst e
  have fr := fb.fr
  refine sss_cons (ss_ret (se_and (se_isi (T := "tuple") (se_var (i := 0) rfl ⟨_, _, tyN_fr fr, kit_tup fr, ?_⟩) B.isinstance B.tuple)))
  refine bW_b (fun h1 => ?_) fun h1 => h _ _ (by cases u <;> first | rfl | cases h1) Ext.refl
  obtain ⟨us, rfl⟩ : ∃ us, u = .tup us := by cases u <;> first | exact ⟨_, rfl⟩ | cases h1
  refine se_one (se_chain op_le cmpI_w op_le cmpI_w (se_var (i := 1) rfl (se_len (se_var (i := 0) rfl ?_) B.len)))
  refine bW_b (fun h2 => se_var (i := 2) rfl ?_) fun h2 => h _ _ (by
    have h2 : decide (a ≤ (us.length : Int)) = false := h2
    show false = (decide (a ≤ (us.length : Int)) && _)
    rw [h2]
    rfl) Ext.refl
  have h2 : decide (a ≤ (us.length : Int)) = true := h2
  refine h _ _ ?_ Ext.refl
  show _ = (decide (a ≤ (us.length : Int)) && _)
  rw [h2]
  rfl
abbrev s_is_time : Stmt := top 14
theorem sc_is_time : FnScope ["value"] ["value"] (defScope s_is_time) := ⟨rfl, rfl, rfl, by decide +kernel, rfl, by decide +kernel, by decide +kernel⟩
theorem d_is_time (D : Dfn K mg "is_time_of_record" s_is_time ["value"]) (D_integer : DefOk P w K mg base "is_integer" ["value"] 1 (S_any isIn)) : DefOk P w K mg base "is_time_of_record" ["value"] 2 (S_any timeB) := by
  refine dfnOk D sc_is_time (fun ws mu P ⟨_, e, _⟩ => by rw [e]; rfl) (fun f cdv A outer s H E hr ws mu Pt ⟨u, e, fb, h⟩ => ?_)
  subst e
  refine sss_cons (ss_ret (se_and (se_callD D_integer (hr.mono (by decide)) (sa_cons (se_var (i := 0) rfl (sa_nil ?_))))))
  refine ⟨u, rfl, fb, fun b mu1 hb e1 => ?_⟩
  refine bW_b (fun h1 => ?_) fun h1 => h _ _ (by rw [hb] at h1; cases u <;> first | rfl | cases h1) e1
  rw [hb] at h1
  obtain ⟨i, rfl⟩ : ∃ i, u = .int i := by cases u <;> first | exact ⟨_, rfl⟩ | cases h1
  refine se_one (se_cmp op_ge cmpN_w (nomark _) (se_var (i := 0) rfl (se_int ⟨_, _, rfl, rfl, fun b2 hb2 => ?_⟩)))
  exact h _ _ (by rw [hb2]; exact decide_eq_decide.mpr (by omega)) e1
end
end K1
set_option Elab.async false
set_option linter.all false
set_option maxRecDepth 100000
/-! k70: records of any value. -/
namespace K1
open PySem L2 Dv
def sorts3 : List Str := ["put", "drop", "look"]
def ansOf (s : Str) : Option (List Str) := if s = "put" then some ["done", "refused", "again"] else if s = "drop" then some ["done", "none", "again"] else if s = "look" then some ["there", "none", "again"] else none
theorem ans_some {s : Str} (h : s ∈ sorts3) : ∃ ys, ansOf s = some ys := by
  simp only [sorts3, List.mem_cons, List.not_mem_nil, or_false] at h
  rcases h with rfl | rfl | rfl
  · exact ⟨["done", "refused", "again"], by decide +kernel⟩
  · exact ⟨["done", "none", "again"], by decide +kernel⟩
  · exact ⟨["there", "none", "again"], by decide +kernel⟩
def ltI (b e : W) : Bool := match b, e with | .int i, .int j => decide (i < j) | _, _ => false
def ansL (s : W) : List Str := match s with | .str z => (ansOf z).getD [] | _ => []
def recB : W → Bool
  | .tup [b, e, k, s, an] => timeB b && (isNm k && (inT s sorts3 && (if isNo e then isNo an else (timeB e && (ltI b e && inT an (ansL s))))))
  | _ => false
/-- a record -/
structure Rc where
  b : Int
  e : Option (Int × Str)
  k : Str
  s : Str
def rcW (r : Rc) : W := .tup [.int r.b, (match r.e with | none => .non | some q => .int q.1), .str r.k, .str r.s, (match r.e with | none => .non | some q => .str q.2)]
structure RcOk (r : Rc) : Prop where
  b1 : 1 ≤ r.b
  nm : nmB r.k = true
  so : r.s ∈ sorts3
  en : ∀ q, r.e = some q → r.b < q.1 ∧ q.2 ∈ (ansOf r.s).getD []
theorem tup_five {us : List W} (h : tupN (.tup us) 5 5 = true) : ∃ b e k s an, us = [b, e, k, s, an] := by
  unfold tupN at h
  rw [Bool.and_eq_true, decide_eq_true_eq, decide_eq_true_eq] at h
  have : us.length = 5 := by omega
  match us, this with
  | [b, e, k, s, an], _ => exact ⟨b, e, k, s, an, rfl⟩
theorem recB_not {u : W} (h : tupN u 5 5 = false) : recB u = false := by
  unfold recB
  split
  · unfold tupN at h
    simp at h
  · rfl
theorem recB_rc {u : W} (h : recB u = true) : ∃ r, u = rcW r ∧ RcOk r := by
  unfold recB at h
  split at h
  · rename_i b e k s an
    simp only [Bool.and_eq_true] at h
    obtain ⟨h1, h2, h3, h4⟩ := h
    obtain ⟨i, rfl⟩ : ∃ i, b = .int i := by cases b <;> first | exact ⟨_, rfl⟩ | cases h1
    obtain ⟨y, rfl⟩ : ∃ y, k = .str y := by cases k <;> first | exact ⟨_, rfl⟩ | cases h2
    obtain ⟨z, rfl⟩ : ∃ z, s = .str z := by cases s <;> first | exact ⟨_, rfl⟩ | cases h3
    have i1 : 1 ≤ i := of_decide_eq_true h1
    have zs : z ∈ sorts3 := of_decide_eq_true h3
    by_cases q : isNo e = true
    · rw [if_pos q] at h4
      have e1 : e = .non := by cases e <;> first | rfl | cases q
      have e2 : an = .non := by cases an <;> first | rfl | cases h4
      subst e1 e2
      exact ⟨⟨i, none, y, z⟩, rfl, i1, h2, zs, fun q hq => by cases hq⟩
    · rw [if_neg q] at h4
      simp only [Bool.and_eq_true] at h4
      obtain ⟨h5, h6, h7⟩ := h4
      obtain ⟨j, rfl⟩ : ∃ j, e = .int j := by cases e <;> first | exact ⟨_, rfl⟩ | cases h5
      obtain ⟨x, rfl⟩ : ∃ x, an = .str x := by cases an <;> first | exact ⟨_, rfl⟩ | cases h7
      refine ⟨⟨i, some (j, x), y, z⟩, rfl, i1, h2, zs, fun q hq => ?_⟩
      cases hq
      exact ⟨of_decide_eq_true h6, of_decide_eq_true h7⟩
  · cases h
theorem sorts_nmB : ∀ z ∈ sorts3, z.length ≤ 8 := by decide +kernel
section
variable {P : Program} {w : World} {K : PySem.W.Frag} {mg : Str → Option Value} {base : Heap}
abbrev s_is_record : Stmt := top 13
theorem sc_is_record : FnScope ["value", "begin", "end", "key", "sort", "answer"] ["value"] (defScope s_is_record) := ⟨rfl, rfl, rfl, by decide +kernel, rfl, by decide +kernel, by decide +kernel⟩
theorem d_is_record (D : Dfn K mg "is_record" s_is_record ["value"]) (T : KTup K mg "SORTS" sorts3) (Td : KDic K w mg "ANSWERS" ansOf) (D_tuple : DefOk P w K mg base "is_tuple" ["value", "least", "most"] 1 S_is_tupleA) (D_time : DefOk P w K mg base "is_time_of_record" ["value"] 2 (S_any timeB))
    (D_name : DefOk P w K mg base "is_name" ["value"] 1 (S_any isNm)) : DefOk P w K mg base "is_record" ["value"] 3 (S_any recB) := by
  refine dfnOk D sc_is_record (fun ws mu P ⟨_, e, _⟩ => by rw [e]; rfl) (fun f cdv A outer s H E hr ws mu Pt ⟨u, e, fb, h⟩ => ?_)
  subst e
  have hu1 : (A.deeper (PyProof.Rows.envOfC "is_record" (defScope s_is_record) s.heap.objs.size f cdv)).units + 1 < cLine := by have := hr.un; omega
  refine sss_cons (ss_if (st_not (st_val (se_callD D_tuple (hr.mono (by decide)) (sa_cons (se_var (i := 0) rfl (sa_cons (se_int (sa_cons (se_int (sa_nil ?_)))))))))))
  refine ⟨u, 5, 5, rfl, fb, fun r1 mu1 hr1 e1 => ?_⟩
  refine if2_split (fun q => ?_) fun q => sss_nil ?_
  · refine sss_cons (ss_ret (se_bl (h _ _ ?_ e1)))
    rw [recB_not]
    rw [← hr1]
    simpa using q
  have q : tupN u 5 5 = true := by rw [← hr1]; simpa using q
  obtain ⟨us, rfl⟩ : ∃ us, u = .tup us := by cases u <;> first | exact ⟨_, rfl⟩ | cases q
  obtain ⟨b, e, k, so, an, rfl⟩ := tup_five q
  have fe := fb.tup
  have fbb : FrB b := fe b (by simp)
  have fbe : FrB e := fe e (by simp)
  have fbk : FrB k := fe k (by simp)
  have fbs : FrB so := fe so (by simp)
  have fba : FrB an := fe an (by simp)
  refine sss_cons (ss_asg (se_var (i := 0) rfl ?_))
  refine sg_tup (sgs_cons (sg_name (i := 1) (sgs_cons (sg_name (i := 2) (sgs_cons (sg_name (i := 3) (sgs_cons (sg_name (i := 4) (sgs_cons (sg_name (i := 5) (sgs_nil ?_) sc_is_record.nd)) sc_is_record.nd)) sc_is_record.nd)) sc_is_record.nd)) sc_is_record.nd))
  refine sss_cons (ss_if (st_of_w (sw_or (st_not (st_val (se_callD D_time (hr.mono (by decide)) (sa_cons (se_var (i := 1) rfl (sa_nil ?_)))))))))
  refine ⟨b, rfl, fbb, fun r2 mu2 hr2 e2 => ?_⟩
  refine if2_split (fun q2 => ?_) fun q2 => ?_
  · refine sss_cons (ss_ret (se_bl (h _ _ ?_ (e1.trans e2))))
    have : timeB b = false := by rw [← hr2]; simpa using q2
    simp [recB, this]
  have t2 : timeB b = true := by rw [← hr2]; simpa using q2
  refine sw_or (st_not (st_val (se_callD D_name (hr.mono (by decide)) (sa_cons (se_var (i := 3) rfl (sa_nil ?_))))))
  refine ⟨k, rfl, fbk, fun r3 mu3 hr3 e3 => ?_⟩
  refine if2_split (fun q3 => ?_) fun q3 => ?_
  · refine sss_cons (ss_ret (se_bl (h _ _ ?_ ((e1.trans e2).trans e3))))
    have : isNm k = false := by rw [← hr3]; simpa using q3
    simp [recB, this]
  have t3 : isNm k = true := by rw [← hr3]; simpa using q3
  have e13 := (e1.trans e2).trans e3
  refine sw_or1 (st_cmp (op_inA (ng := true) hu1) inA_w (by rfl) (se_var (i := 4) rfl (se_globT T ⟨fbs.fr, sorts3, .inl rfl, fun b4 hb4 => ?_⟩)))
  refine if2_split (fun q4 => ?_) fun q4 => sss_nil ?_
  · refine sss_cons (ss_ret (se_bl (h _ _ ?_ e13)))
    have : inT so sorts3 = false := by rw [hb4] at q4; simpa using q4
    simp [recB, this]
  have t4 : inT so sorts3 = true := by rw [hb4] at q4; simpa using q4
  refine sss_cons (ss_if (st_cmp op_isN isN_w (nomark _) (se_var (i := 2) rfl (se_non ⟨rfl, fun b5 hb5 => ?_⟩))))
  refine if2_split (fun q5 => ?_) fun q5 => sss_nil ?_
  · refine sss_cons (ss_ret (se_cmp op_isN isN_w (nomark _) (se_var (i := 5) rfl (se_non ⟨rfl, fun b6 hb6 => h _ _ ?_ e13⟩))))
    have t5 : isNo e = true := by rw [← hb5]; exact q5
    simp [recB, t2, t3, t4, t5, hb6]
  have t5 : isNo e = false := by rw [← hb5]; exact q5
  refine sss_cons (ss_ret (se_and (se_callD D_time (hr.mono (by decide)) (sa_cons (se_var (i := 2) rfl (sa_nil ?_))))))
  refine ⟨e, rfl, fbe, fun r6 mu6 hr6 e6 => ?_⟩
  have e16 := e13.trans e6
  refine bW_b (fun q6 => ?_) fun q6 => h _ _ (by rw [hr6] at q6; simp [recB, t2, t3, t4, t5, q6]) e16
  rw [hr6] at q6
  obtain ⟨i, rfl⟩ : ∃ i, b = .int i := by cases b <;> first | exact ⟨_, rfl⟩ | cases t2
  obtain ⟨j, rfl⟩ : ∃ j, e = .int j := by cases e <;> first | exact ⟨_, rfl⟩ | cases q6
  obtain ⟨z, rfl⟩ : ∃ z, so = .str z := by cases so <;> first | exact ⟨_, rfl⟩ | cases t4
  have zs : z ∈ sorts3 := of_decide_eq_true t4
  obtain ⟨ys, hys⟩ := ans_some zs
  refine se_and (se_cmp op_lt cmpN_w (nomark _) (se_var (i := 1) rfl (se_var (i := 2) rfl ⟨_, _, rfl, rfl, fun b7 hb7 => ?_⟩)))
  refine bW_b (fun q7 => ?_) fun q7 => h _ _ (by
    have t7 : ltI (.int i) (.int j) = false := by rw [hb7] at q7; exact q7
    simp [recB, t2, t3, t4, isNo, q6, t7]) e16
  have t7 : ltI (.int i) (.int j) = true := by rw [hb7] at q7; exact q7
  refine se_one (se_cmp (op_inA (ng := false) hu1) inA_w (by rfl) (se_var (i := 5) rfl (se_globIx Td (se_var (i := 4) rfl ⟨z, ys, rfl, hys, ?_⟩))))
  refine ⟨fba.fr, ys, .inl rfl, fun b8 hb8 => h _ _ ?_ e16⟩
  have ea : ansL (.str z) = ys := by show (ansOf z).getD [] = ys; rw [hys]; rfl
  simp [recB, t2, t3, t4, isNo, q6, t7, ea, hb8]
end
end K1
set_option Elab.async false
set_option linter.all false
set_option maxRecDepth 100000
/-! k70: histories of any value. -/
namespace K1
open PySem L2 Dv
def beginsOf (h : List Rc) : List Int := h.map (·.b)
def endsOf (h : List Rc) : List Int := h.filterMap fun r => r.e.map (·.1)
def few (h : List Rc) : Bool := h.all fun r => decide ((h.filter fun q => decide (q.k = r.k)).length ≤ 8)
def histG (h : List Rc) : Bool := decide ((beginsOf h).Pairwise (· < ·)) && (decide ((beginsOf h ++ endsOf h).Nodup) && few h)
def toR (w : W) : Rc := match w with
  | .tup [.int b, e, .str k, .str s, an] => ⟨b, (match e, an with | .int j, .str x => some (j, x) | _, _ => none), k, s⟩
  | _ => ⟨0, none, Str.empty, Str.empty⟩
theorem toR_rc (r : Rc) : toR (rcW r) = r := by
  obtain ⟨b, e, k, s⟩ := r
  cases e <;> rfl
def histB (w : W) : Bool := match w with
  | .tup us => decide (us.length ≤ 24) && (us.all recB && histG (us.map toR))
  | _ => false
theorem all_rc : ∀ {us : List W}, us.all recB = true → ∃ h : List Rc, us = h.map rcW ∧ ∀ r ∈ h, RcOk r
  | [], _ => ⟨[], rfl, by simp⟩
  | u :: us, h => by
    rw [List.all_cons, Bool.and_eq_true] at h
    obtain ⟨r, e, ok⟩ := recB_rc h.1
    obtain ⟨hs, e2, ok2⟩ := all_rc h.2
    refine ⟨r :: hs, by rw [e, e2]; rfl, fun q hq => ?_⟩
    rcases List.mem_cons.mp hq with rfl | hq
    · exact ok
    · exact ok2 q hq
theorem map_toR (h : List Rc) : (h.map rcW).map toR = h := by
  induction h with
  | nil => rfl
  | cons r h ih => rw [List.map_cons, List.map_cons, ih, toR_rc]
theorem okUs_int {ns : List Int} (h : ns.length ≤ sizeLine) : okUs (ns.map W.int) := by
  refine ⟨by rw [List.length_map]; exact h, fun u hu => ?_⟩
  obtain ⟨n, hn, rfl⟩ := List.mem_map.mp hu
  refine ⟨by simp [plW], by simp [dat], by simp [dat, PyData.depth], fun v hv => ?_⟩
  obtain ⟨n', hn', rfl⟩ := List.mem_map.mp hv
  simp [dat, PySem.W.alike]
theorem lt_int (x y : Int) : ltD (.int x, .int y) = decide (x < y) := by
  show PySem.W.dataLt (dat (.int x)) (dat (.int y)) = _
  simp only [dat]
  first
    | rfl
    | simp [PySem.W.dataLt, PySem.W.keyToks, PyProof.Rows.lexLt, PyProof.Rows.itemOrd, PyProof.Rows.itemLt]
theorem pw_two {x y : Int} {r : List Int} : (x :: y :: r).Pairwise (· < ·) ↔ x < y ∧ (y :: r).Pairwise (· < ·) := by
  constructor
  · intro h
    exact ⟨(List.pairwise_cons.mp h).1 y (by simp), (List.pairwise_cons.mp h).2⟩
  · rintro ⟨h1, h2⟩
    refine List.pairwise_cons.mpr ⟨fun z hz => ?_, h2⟩
    rcases List.mem_cons.mp hz with rfl | hz
    · exact h1
    · exact Int.lt_trans h1 ((List.pairwise_cons.mp h2).1 z hz)
theorem rising_int : ∀ ns : List Int, rising (ns.map W.int) = decide (ns.Pairwise (· < ·))
  | [] => by simp [rising]
  | [x] => by simp [rising]
  | x :: y :: r => by
    have ih := rising_int (y :: r)
    have e : rising ((x :: y :: r).map W.int) = (ltD (.int x, .int y) && rising ((y :: r).map W.int)) := by
      unfold rising
      simp only [List.map_cons, List.tail_cons, List.zip_cons_cons, List.all_cons]
    rw [e, ih, lt_int, Bool.eq_iff_iff, Bool.and_eq_true, decide_eq_true_eq, decide_eq_true_eq, decide_eq_true_eq, pw_two]
theorem once_conv : ∀ (xs acc : List Int), acc.Nodup → (xs.foldl IxSet.oncePut acc).length = acc.length + xs.length → (acc ++ xs).Nodup
  | [], acc, h, _ => by simpa using h
  | x :: xs, acc, h, e => by
    rw [List.foldl_cons] at e
    by_cases hx : x ∈ acc
    · have e1 : IxSet.oncePut acc x = acc := by unfold IxSet.oncePut; rw [if_pos hx]
      rw [e1] at e
      have := IxSet.once_len xs acc
      rw [List.length_cons] at e
      omega
    · have e1 : IxSet.oncePut acc x = acc ++ [x] := by unfold IxSet.oncePut; rw [if_neg hx]
      rw [e1] at e
      have nd : (acc ++ [x]).Nodup := List.nodup_append.mpr ⟨h, by simp, fun a ha b hb => by
        rw [List.mem_singleton.mp hb]
        exact fun z => hx (z ▸ ha)⟩
      have := once_conv xs (acc ++ [x]) nd (by rw [e]; simp; omega)
      simpa using this
theorem once_iff (xs : List Int) : ((IxSet.once xs).length = xs.length) ↔ xs.Nodup := by
  constructor
  · intro h
    have := once_conv xs [] List.nodup_nil (by
      show (xs.foldl IxSet.oncePut []).length = ([] : List Int).length + xs.length
      rw [show (xs.foldl IxSet.oncePut []).length = xs.length from h]
      simp)
    simpa using this
  · intro h
    have := IxSet.once_nodup xs [] (by simpa using h)
    show (xs.foldl IxSet.oncePut []).length = _
    rw [this]
    simp
theorem once_nd : ∀ (xs acc : List Int), acc.Nodup → (xs.foldl IxSet.oncePut acc).Nodup
  | [], acc, h => h
  | x :: xs, acc, h => by
    rw [List.foldl_cons]
    refine once_nd xs _ ?_
    unfold IxSet.oncePut
    split
    · exact h
    · rename_i hx
      exact List.nodup_append.mpr ⟨h, by simp, fun a ha b hb => by
        rw [List.mem_singleton.mp hb]
        exact fun z => hx (z ▸ ha)⟩
theorem sort_iff {xs ys : List Int} (h1 : ys.Pairwise (· < ·)) (h2 : ∀ z, z ∈ ys ↔ z ∈ xs) : ys.length = xs.length ↔ xs.Nodup := by
  have nd : ys.Nodup := h1.imp fun h => Int.ne_of_lt h
  have nd2 : (IxSet.once xs).Nodup := once_nd xs [] List.nodup_nil
  have pm : ys.Perm (IxSet.once xs) := (List.perm_ext_iff_of_nodup nd nd2).mpr fun z => by
    rw [h2 z]
    have := IxSet.once_mem xs [] z
    unfold IxSet.once
    rw [this]
    simp
  rw [pm.length_eq, once_iff]
def g0 (w : W) : W := match w with | .tup [b, _, _, _, _] => b | _ => .non
def g1 (w : W) : W := match w with | .tup [_, e, _, _, _] => e | _ => .non
def p1 (w : W) : Bool := match w with | .tup [_, e, _, _, _] => !isNo e | _ => false
theorem begins_map (h : List Rc) : (h.map rcW).map g0 = (beginsOf h).map W.int := by
  unfold beginsOf
  rw [List.map_map, List.map_map]
  rfl
theorem ends_map : ∀ h : List Rc, ((h.map rcW).filter p1).map g1 = (endsOf h).map W.int
  | [] => rfl
  | r :: h => by
    have ih := ends_map h
    obtain ⟨b, e, k, s⟩ := r
    cases e with
    | none =>
      have : p1 (rcW ⟨b, none, k, s⟩) = false := rfl
      rw [List.map_cons, List.filter_cons_of_neg (by rw [this]; simp), ih]
      rfl
    | some q =>
      have : p1 (rcW ⟨b, some q, k, s⟩) = true := rfl
      rw [List.map_cons, List.filter_cons_of_pos this, List.map_cons, ih]
      rfl
theorem ends_len (h : List Rc) : (endsOf h).length ≤ h.length := List.length_filterMap_le ..
def pK (k : Str) (w : W) : Bool := match w with | .tup [_, .tup [_, _, .str k', _, _]] => decide (k' = k) | _ => false
theorem nums_len {k : Str} : ∀ (hi : List Rc) (f : Nat → W → W), (∀ i r, pK k (f i (rcW r)) = decide (r.k = k)) → (((hi.map rcW).mapIdx f).filter (pK k)).length = (hi.filter fun r => decide (r.k = k)).length
  | [], f, _ => rfl
  | r :: hi, f, hf => by
    rw [List.map_cons, List.mapIdx_cons]
    have ih := nums_len hi (fun i => f (i + 1)) fun i r => hf (i + 1) r
    by_cases e : r.k = k
    · rw [List.filter_cons_of_pos (by rw [hf]; exact decide_eq_true e), List.filter_cons_of_pos (by exact decide_eq_true e), List.length_cons, List.length_cons]
      rw [show (fun i => f (i + 1)) = (fun i => f (i + 1)) from rfl] at ih
      exact congrArg (· + 1) ih
    · rw [List.filter_cons_of_neg (by rw [hf]; simp [e]), List.filter_cons_of_neg (by simp [e])]
      exact ih
section
variable {P : Program} {w : World} {K : PySem.W.Frag} {mg : Str → Option Value} {base : Heap}
abbrev s_are_different : Stmt := top 6
theorem sc_are_different : FnScope ["names"] ["names"] (defScope s_are_different) := ⟨rfl, rfl, rfl, by decide +kernel, rfl, by decide +kernel, by decide +kernel⟩
def S_are_different : SpW := fun ws mu P => ∃ a, ∃ ns : List Int, ws = [.m a] ∧ mu a = some (.lst (ns.map W.int)) ∧ ns.length ≤ 1000 ∧ ∀ b mu', b = decide ns.Nodup → Ext mu mu' → P (.bl b) mu'
theorem d_are_different (D : Dfn K mg "are_different" s_are_different ["names"]) (B : Bl mg) : DefOk P w K mg base "are_different" ["names"] 1 S_are_different := by
  refine dfnOk D sc_are_different (fun ws mu P ⟨_, _, e, _⟩ => by rw [e]; rfl) (fun f cdv A outer s H E hr ws mu Pt ⟨a, ns, e, ha, hl, h⟩ => ?_)
  subst e
  refine sss_cons (ss_ret (se_cmp op_eq eqN_w (nomark _) (se_lenSetA (se_var (i := 0) rfl ⟨ns, .inr ⟨a, rfl, ha⟩, hl, ?_⟩) B.len B.set)))
  refine se_len (se_var (i := 0) rfl ⟨_, ha, _, _, rfl, rfl, fun b hb => h _ _ ?_ Ext.refl⟩) B.len
  rw [hb, List.length_map, Bool.eq_iff_iff, decide_eq_true_eq, ← once_iff]
  simp
  omega
abbrev s_keys_of : Stmt := top 15
theorem sc_keys_of : FnScope ["history", "_", "key"] ["history"] (defScope s_keys_of) := ⟨rfl, rfl, rfl, by decide +kernel, rfl, by decide +kernel, by decide +kernel⟩
def S_keys_of : SpW := fun ws mu P => ∃ h : List Rc, ws = [.tup (h.map rcW)] ∧ h.length ≤ 1000 ∧ ∀ y mu' (ys : List Str), mu' y = some (.lst (ys.map W.str)) → (∀ z, z ∈ ys ↔ ∃ r ∈ h, r.k = z) → ys.length ≤ h.length → Ext mu mu' → P (.m y) mu'
theorem d_keys_of (D : Dfn K mg "keys_of" s_keys_of ["history"]) (B : Bl mg) : DefOk P w K mg base "keys_of" ["history"] 1 S_keys_of := by
  refine dfnOk D sc_keys_of (fun ws mu P ⟨_, e, _⟩ => by rw [e]; rfl) (fun f cdv A outer s H E hr ws mu Pt ⟨hi, e, hl, h⟩ => ?_)
  subst e
  refine sss_cons (ss_ret (se_sortTx hr ?_ B.sorted B.set))
  refine se_lc (own := [("_", 1), ("key", 2)]) (.tp [.nm 1, .nm 1, .nm 2, .nm 1, .nm 1]) rfl sc_keys_of.nd (blkOk_by (N := ["history", "_", "key"]) (sc := defScope s_keys_of) (by decide +kernel)) rfl (fun _ _ _ _ _ => (pg_tup rfl (pgs_cons (pg_name (i := 1) sc_keys_of.nd rfl (Or.inl rfl)) (pgs_cons (pg_name (i := 1) sc_keys_of.nd rfl (Or.inl rfl)) (pgs_cons (pg_name (i := 2) sc_keys_of.nd rfl (Or.inl rfl)) (pgs_cons (pg_name (i := 1) sc_keys_of.nd rfl (Or.inl rfl)) (pgs_cons (pg_name (i := 1) sc_keys_of.nd rfl (Or.inl rfl)) pgs_nil))))))) (by intro _; rfl) ?_
  refine si_tup (se_var (i := 0) rfl ?_)
  refine lc_pure (fun w => match w with | .tup [_, _, k, _, _] => k | _ => .non) (fun _ _ => trivial) (by rw [List.length_map]; exact Nat.le_trans hl (by decide)) ?_ InBlk.mono ?_
  · intro u mu' hu he
    obtain ⟨r, hr', rfl⟩ := List.mem_map.mp hu
    exact ⟨_, rfl, fun s' H C cl fp => se_var (i := 2) rfl ⟨rfl, Ext.refl⟩⟩
  intro Dd mu' hD he he2
  have em : (hi.map rcW).map (fun w => match w with | .tup [_, _, k, _, _] => k | _ => .non) = (hi.map (·.k)).map W.str := by
    rw [List.map_map, List.map_map]
    rfl
  rw [em] at he2 ⊢
  refine ⟨Dd, hi.map (·.k), rfl, setM_same, by rw [List.length_map]; exact hl, fun y ys ny hm hl2 => ?_⟩
  have fo : ∀ {a : Addr}, (setM mu' Dd (.lst ((hi.map (·.k)).map W.str))) a = none → mu a = none := fun {a} q => by
    cases hc : mu a with
    | none => rfl
    | some c => rw [he2 _ _ hc] at q; cases q
  refine h y _ ys setM_same (fun z => ?_) (by rw [List.length_map] at hl2; exact hl2) (he2.set (fo ny))
  rw [hm z]
  simp [List.mem_map]
abbrev s_numbers_of : Stmt := top 16
theorem sc_numbers_of : FnScope ["history", "key", "number", "record"] ["history", "key"] (defScope s_numbers_of) := ⟨rfl, rfl, rfl, by decide +kernel, rfl, by decide +kernel, by decide +kernel⟩
def S_numbers_of : SpW := fun ws mu P => ∃ (h : List Rc) (k : Str), ws = [.tup (h.map rcW), .str k] ∧ h.length ≤ 1000 ∧ ∀ y mu' (us : List W), mu' y = some (.lst us) → us.length = (h.filter fun r => decide (r.k = k)).length → Ext mu mu' → P (.m y) mu'
theorem d_numbers_of (D : Dfn K mg "numbers_of" s_numbers_of ["history", "key"]) (B : Bl mg) : DefOk P w K mg base "numbers_of" ["history", "key"] 1 S_numbers_of := by
  refine dfnOk D sc_numbers_of (fun ws mu P ⟨_, _, e, _⟩ => by rw [e]; rfl) (fun f cdv A outer s H E hr ws mu Pt ⟨hi, k, e, hl, h⟩ => ?_)
  subst e
  refine sss_cons (ss_ret ?_)
  refine se_lc1 (own := [("number", 2), ("record", 3)]) (.tp [.nm 2, .nm 3]) rfl sc_numbers_of.nd (blkOk_by (N := ["history", "key", "number", "record"]) (sc := defScope s_numbers_of) (by decide +kernel)) rfl (fun _ _ _ _ _ => (pg_tup rfl (pgs_cons (pg_name (i := 2) sc_numbers_of.nd rfl (Or.inl rfl)) (pgs_cons (pg_name (i := 3) sc_numbers_of.nd rfl (Or.inl rfl)) pgs_nil)))) (by intro _; rfl) ?_
  refine si_enumT (se_var (i := 0) rfl ?_) B.enumerate
  refine lc_filter (pK k) (fun w => match w with | .tup [i, _] => i | _ => .non) (fun _ _ => trivial) (by rw [enumW_len, List.length_map]; exact Nat.le_trans hl (by decide)) ?_ InBlk.mono ?_
  · intro u mu' hu he
    obtain ⟨i, hi', eu⟩ := List.mem_iff_getElem.mp hu
    have e2 := List.getElem?_eq_getElem hi'
    rw [enumW_get, eu, List.getElem?_map] at e2
    cases hr' : hi[i]? with
    | none => rw [hr'] at e2; cases e2
    | some r =>
    rw [hr'] at e2
    have e2 : u = .tup [.int (i : Nat), rcW r] := (Option.some.inj e2).symm
    subst e2
    refine ⟨_, rfl, fun s' H C cl fp => ?_⟩
    refine st_cmp op_eq eqT_w (nomark _) (se_ix (se_var (i := 3) rfl (se_int ⟨_, rfl, se_var (i := 1) rfl ⟨_, _, rfl, rfl, fun b hb => ?_⟩⟩)))
    exact ⟨hb, Ext.refl, fun _ => fun s'' H' C' cl' fp' => se_var (i := 2) rfl ⟨rfl, Ext.refl⟩⟩
  · intro Dd mu' hD he he2
    refine h Dd _ _ setM_same ?_ he2
    rw [List.length_map]
    unfold enumW
    exact nums_len hi _ fun i r => rfl
abbrev N_is_history : List Str := ["value", "record", "begins", "begin", "_", "ends", "end", "key"]
abbrev s_is_history : Stmt := top 12
theorem sc_is_history : FnScope N_is_history ["value"] (defScope s_is_history) := ⟨rfl, rfl, rfl, by decide +kernel, rfl, by decide +kernel, by decide +kernel⟩
set_option maxHeartbeats 2000000 in
theorem d_is_history (D : Dfn K mg "is_history" s_is_history ["value"]) (B : Bl mg) (K1 : KInt mg "MOST_RECORDS" 24) (K2 : KInt mg "MOST_OF_A_KEY" 8) (D_tuple : DefOk P w K mg base "is_tuple" ["value", "least", "most"] 1 S_is_tupleA) (D_record : DefOk P w K mg base "is_record" ["value"] 3 (S_any recB))
    (D_rising : DefOk P w K mg base "is_rising" ["values"] 1 S_is_rising) (D_diff : DefOk P w K mg base "are_different" ["names"] 1 S_are_different) (D_keys : DefOk P w K mg base "keys_of" ["history"] 1 S_keys_of) (D_nums : DefOk P w K mg base "numbers_of" ["history", "key"] 1 S_numbers_of) : DefOk P w K mg base "is_history" ["value"] 4 (S_any histB) ∧ DefKw P w K mg base "is_history" "value" 4 (S_any histB) := by
  refine dfnBoth D sc_is_history (fun _ _ _ _ _ _ _ _ => .of_eq rfl) (fun ws mu P ⟨_, e, _⟩ => by rw [e]; rfl) (fun f cdv A outer s H E hr ws mu Pt ⟨u, e, fb, h⟩ => ?_)
  subst e
  refine sss_cons (ss_if (st_of_w (sw_or (st_not (st_val (se_callD D_tuple (hr.mono (by decide)) (sa_cons (se_var (i := 0) rfl (sa_cons (se_int (sa_cons (se_globI K1 (sa_nil ?_)))))))))))))
  refine ⟨u, 0, 24, rfl, fb, fun r1 mu1 hr1 e1 => ?_⟩
  refine if2_split (fun q => ?_) fun q => ?_
  · refine sss_cons (ss_ret (se_bl (h _ _ ?_ e1)))
    have q : tupN u 0 24 = false := by rw [← hr1]; simpa using q
    cases u with
    | tup us =>
      have : ¬ us.length ≤ 24 := fun z => by
        have q : (decide ((0 : Int) ≤ (us.length : Int)) && decide ((us.length : Int) ≤ 24)) = false := q
        rw [decide_eq_true (by omega), decide_eq_true (by omega)] at q
        cases q
      simp [histB, this]
    | _ => rfl
  have q : tupN u 0 24 = true := by rw [← hr1]; simpa using q
  obtain ⟨us, rfl⟩ : ∃ us, u = .tup us := by cases u <;> first | exact ⟨_, rfl⟩ | cases q
  have ul : us.length ≤ 24 := by
    unfold tupN at q
    rw [Bool.and_eq_true, decide_eq_true_eq, decide_eq_true_eq] at q
    omega
  refine sw_or1 (st_not (st_val (se_all ?_ B.all)))
  refine se_lc (own := [("record", 1)]) (.nm 1) rfl sc_is_history.nd (blkOk_by (N := N_is_history) (sc := defScope s_is_history) (by decide +kernel)) rfl (fun _ _ _ _ _ => (pg_name (i := 1) sc_is_history.nd rfl (Or.inl rfl))) (by intro _; rfl) ?_
  refine si_tup (se_var (i := 0) rfl ?_)
  refine lc_all_g recB (fun _ _ => trivial) (Nat.le_trans ul (by decide)) InBlk.mono ?_ fun mu2 e2 => ?_
  · intro v mu' hv he
    refine ⟨_, rfl, fun s' H C cl fp => ?_⟩
    refine se_callD D_record (hr.mono (by decide)) (sa_cons (se_var (i := 1) rfl (sa_nil ?_)))
    exact ⟨v, rfl, fb.tup v hv, fun b mu3 hb e3 => ⟨by rw [hb], e3⟩⟩
  have e12 := e1.trans e2
  refine if2_split (fun q2 => ?_) fun q2 => sss_nil ?_
  · refine sss_cons (ss_ret (se_bl (h _ _ ?_ e12)))
    have : us.all recB = false := by simpa using q2
    show false = (decide (us.length ≤ 24) && (us.all recB && _))
    rw [this]
    simp
  have q2 : us.all recB = true := by simpa using q2
  have eu : histB (.tup us) = histG (us.map toR) := by
    show (decide (us.length ≤ 24) && (us.all recB && _)) = _
    rw [decide_eq_true ul, q2]
    rfl
  obtain ⟨hi, rfl, ok⟩ := all_rc q2
  rw [map_toR] at eu
  rw [List.length_map] at ul
  have hl := ul
  have le := ends_len hi
  -- begins
  refine sss_cons ?_
  refine ss_setlc (i := 2) (own := [("begin", 3), ("_", 4)]) (.tp [.nm 3, .nm 4, .nm 4, .nm 4, .nm 4]) rfl sc_is_history.nd rfl rfl (sw_true rfl rfl rfl (by decide +kernel)) (blkOk_by (N := N_is_history) (sc := defScope s_is_history) (by decide +kernel)) rfl (fun _ _ _ _ _ => (pg_tup rfl (pgs_cons (pg_name (i := 3) sc_is_history.nd rfl (Or.inl rfl)) (pgs_cons (pg_name (i := 4) sc_is_history.nd rfl (Or.inl rfl)) (pgs_cons (pg_name (i := 4) sc_is_history.nd rfl (Or.inl rfl)) (pgs_cons (pg_name (i := 4) sc_is_history.nd rfl (Or.inl rfl)) (pgs_cons (pg_name (i := 4) sc_is_history.nd rfl (Or.inl rfl)) pgs_nil))))))) (by intro _; rfl) ?_
  refine si_tup (se_var (i := 0) rfl ?_)
  refine lc_pure g0 (fun _ _ => trivial) (by rw [List.length_map]; exact Nat.le_trans hl (by decide)) ?_ InBlk.mono ?_
  · intro u mu' hu he
    obtain ⟨r, hr', rfl⟩ := List.mem_map.mp hu
    exact ⟨_, rfl, fun s' H C cl fp => se_var (i := 3) rfl ⟨rfl, Ext.refl⟩⟩
  intro Db mu3 hDb e3 e3'
  rw [begins_map] at e3' ⊢
  have hb : (setM mu3 Db (.lst ((beginsOf hi).map W.int))) Db = some (.lst ((beginsOf hi).map W.int)) := setM_same
  generalize setM mu3 Db (.lst ((beginsOf hi).map W.int)) = mu4 at e3' hb ⊢
  -- ends
  refine sss_cons ?_
  refine ss_setlc1 (i := 5) (own := [("_", 4), ("end", 6)]) (.tp [.nm 4, .nm 6, .nm 4, .nm 4, .nm 4]) rfl sc_is_history.nd rfl rfl (sw_true rfl rfl rfl (by decide +kernel)) (blkOk_by (N := N_is_history) (sc := defScope s_is_history) (by decide +kernel)) rfl (fun _ _ _ _ _ => (pg_tup rfl (pgs_cons (pg_name (i := 4) sc_is_history.nd rfl (Or.inl rfl)) (pgs_cons (pg_name (i := 6) sc_is_history.nd rfl (Or.inl rfl)) (pgs_cons (pg_name (i := 4) sc_is_history.nd rfl (Or.inl rfl)) (pgs_cons (pg_name (i := 4) sc_is_history.nd rfl (Or.inl rfl)) (pgs_cons (pg_name (i := 4) sc_is_history.nd rfl (Or.inl rfl)) pgs_nil))))))) (by intro _; rfl) ?_
  refine si_tup (se_var (i := 0) rfl ?_)
  refine lc_filter p1 g1 (fun _ _ => trivial) (by rw [List.length_map]; exact Nat.le_trans hl (by decide)) ?_ InBlk.mono ?_
  · intro u mu' hu he
    obtain ⟨r, hr', rfl⟩ := List.mem_map.mp hu
    refine ⟨_, rfl, fun s' H C cl fp => ?_⟩
    refine st_cmp op_notN notN_w (nomark _) (se_var (i := 6) rfl (se_non ⟨rfl, fun b hb => ?_⟩))
    exact ⟨hb, Ext.refl, fun _ => fun s'' H' C' cl' fp' => se_var (i := 6) rfl ⟨rfl, Ext.refl⟩⟩
  intro De mu5 hDe e5 e5'
  rw [ends_map] at e5' ⊢
  have he : (setM mu5 De (.lst ((endsOf hi).map W.int))) De = some (.lst ((endsOf hi).map W.int)) := setM_same
  generalize setM mu5 De (.lst ((endsOf hi).map W.int)) = mu6 at e5' he ⊢
  have hb6 := e5' _ _ hb
  have e6 := (e12.trans e3').trans e5'
  have bl : (beginsOf hi).length = hi.length := by unfold beginsOf; rw [List.length_map]
  -- rising, different
  refine sss_cons (ss_if (st_of_w (sw_or (st_not (st_val (se_callD D_rising (hr.mono (by decide)) (sa_cons (se_var (i := 2) rfl (sa_nil ?_)))))))))
  refine ⟨_, .m Db, rfl, .inr ⟨Db, rfl, hb6⟩, okUs_int (by rw [bl]; exact Nat.le_trans hl (by decide)), fun r2 mu7 hr2 e7 => ?_⟩
  rw [rising_int] at hr2
  refine if2_split (fun q3 => ?_) fun q3 => ?_
  · refine sss_cons (ss_ret (se_bl (h _ _ ?_ (e6.trans e7))))
    rw [eu]
    unfold histG
    rw [← hr2]
    have : r2 = false := by simpa using q3
    rw [this]
    rfl
  have t3 : decide ((beginsOf hi).Pairwise (· < ·)) = true := by rw [← hr2]; simpa using q3
  refine sw_or1 (st_not (st_val (se_callD D_diff (hr.mono (by decide)) (sa_cons (se_lst (sa_starL ?_))))))
  refine se_var (i := 2) rfl ⟨Db, _, rfl, e7 _ _ hb6, sa_starL (se_var (i := 5) rfl ⟨De, _, rfl, e7 _ _ he, sa_nil ⟨?_, fun l nl => sa_nil ?_⟩⟩)⟩
  · rw [List.append_nil, List.length_append, List.length_map, List.length_map]
    exact Nat.le_trans (by omega : (beginsOf hi).length + (endsOf hi).length ≤ 48) (by decide)
  refine ⟨l, beginsOf hi ++ endsOf hi, rfl, by rw [setM_same, List.append_nil, List.map_append], by rw [List.length_append]; omega, fun b4 mu8 hb4 e8 => ?_⟩
  have e9 := (e6.trans e7).trans ((Ext.refl.set nl).trans e8)
  refine if2_split (fun q4 => ?_) fun q4 => sss_nil ?_
  · refine sss_cons (ss_ret (se_bl (h _ _ ?_ e9)))
    rw [eu]
    unfold histG
    rw [t3, ← hb4]
    have : b4 = false := by simpa using q4
    rw [this]
    rfl
  have t4 : decide ((beginsOf hi ++ endsOf hi).Nodup) = true := by rw [← hb4]; simpa using q4
  -- of each key
  refine sss_cons (ss_ret (se_all ?_ B.all))
  refine se_lc (own := [("key", 7)]) (.nm 7) rfl sc_is_history.nd (blkOk_by (N := N_is_history) (sc := defScope s_is_history) (by decide +kernel)) rfl (fun _ _ _ _ _ => (pg_name (i := 7) sc_is_history.nd rfl (Or.inl rfl))) (by intro _; rfl) ?_
  refine si_lst (se_callD D_keys (hr.mono (by decide)) (sa_cons (se_var (i := 0) rfl (sa_nil ?_))))
  refine ⟨hi, rfl, by omega, fun y mu10 ys hy hm hyl e10 => ⟨_, hy, ?_⟩⟩
  refine lc_all_g (fun v => match v with | .str z => decide ((hi.filter fun r => decide (r.k = z)).length ≤ 8) | _ => false) (fun mu' e => e _ _ hy) (by rw [List.length_map]; exact Nat.le_trans (by omega : ys.length ≤ 24) (by decide)) InBlk.mono ?_ fun mu11 e11 => ?_
  · intro u mu' hu he
    obtain ⟨z, hz, rfl⟩ := List.mem_map.mp hu
    refine ⟨_, rfl, fun s' H C cl fp => ?_⟩
    refine se_cmp op_le cmpN_w (nomark _) (se_len ?_ B.len)
    refine se_callD D_nums (hr.mono (by decide)) (sa_cons (se_var (i := 0) rfl (sa_cons (se_var (i := 7) rfl (sa_nil ?_)))))
    refine ⟨hi, z, rfl, by omega, fun y2 mu12 us hu2 hl2 e12 => ⟨us, hu2, se_globI K2 ⟨_, _, rfl, rfl, fun b hb => ⟨?_, e12⟩⟩⟩⟩
    rw [hb, hl2]
    show W.bl _ = W.bl _
    congr 1
    exact decide_eq_decide.mpr (by omega)
  · refine h _ _ ?_ ((e9.trans e10).trans e11)
    rw [eu]
    unfold histG
    rw [t3, t4, Bool.true_and, Bool.true_and, List.all_map]
    unfold few
    rw [Bool.eq_iff_iff, List.all_eq_true, List.all_eq_true]
    constructor
    · intro q r hr'
      exact q r.k ((hm r.k).mpr ⟨r, hr', rfl⟩)
    · intro q z hz
      obtain ⟨r, hr', ek⟩ := (hm z).mp hz
      have := q r hr'
      rw [ek] at this
      exact this
end
end K1
set_option Elab.async false
set_option linter.all false
set_option maxRecDepth 100000
/-! texts in order; numbers not alike; a tuple beside the empty one. -/
namespace Dv
open PySem L2
section
variable {X : Cx}
abbrev leSW (w1 w2 : W) (mu : Mu) (P : PW1) : Prop := ∃ i j, w1 = .str i ∧ w2 = .str j ∧ ∀ b, b = (!decide (j.cps.toList < i.cps.toList)) → P (.bl b) mu
theorem leS_w : OpW X (fun x y H Q => ∃ i j, x = V.str i ∧ y = V.str j ∧ Q (V.bl !decide (j.cps.toList < i.cps.toList)) H) leSW := fun w1 w2 x y mu H P Q dx dy m ⟨i, j, e1, e2, h⟩ k => by
  subst e1 e2
  exact ⟨i, j, dx, dy, k.now (h _ rfl) rfl m⟩
theorem neN_w : OpW X rNe fun w1 w2 mu P => ∃ i j, w1 = .int i ∧ w2 = .int j ∧ ∀ b, b = (i != j) → P (.bl b) mu := fun w1 w2 x y mu H P Q dx dy m ⟨i, j, e1, e2, q⟩ k => by
  subst e1 e2
  have dx : x = .int i := dx
  have dy : y = .int j := dy
  subst dx dy
  refine ⟨rfl, ?_⟩
  rw [dec_int]
  exact k.now (q _ rfl) rfl m
def rNe0 (X : Cx) : R2 := fun x y H Q => ∃ a b xs, x = .ref a ∧ y = .ref b ∧ SqT X.K H a xs ∧ SqT X.K H b [] ∧ Q (.bl (!decide (xs.length = 0))) H
theorem op_ne0 (hu : X.A.units < cLine) : OpR X (compareOp .NotEq) (rNe0 X) := by
  intro pins s σ H x y v u Q I rx ry ⟨a, b, xs, e1, e2, s1, s2, q⟩
  subst e1 e2
  cases rx
  cases ry
  obtain ⟨its, rv, t1, _⟩ := I.tuple s1
  obtain ⟨its2, rv2, t2, _⟩ := I.tuple s2
  have z : its2 = [] := by cases rv2; rfl
  subst z
  have z1 : its.toArray.size = xs.length := by rw [List.size_toArray, ← rv.length]
  show wpAny _ _ (richCompare .NotEq _ _) _ _ _
  refine SeqAt.RcNeAt.tuples (e := fun _ => true) t1 t2 hu (fun j h1 h2 => absurd h2 (by simp)) _ _ _ _ ⟨.bl _, H, I, ?_, q⟩
  show Value.bool _ = Value.bool _
  congr 1
  rw [z1]
  cases xs <;> simp
abbrev ne0W (w1 w2 : W) (mu : Mu) (P : PW1) : Prop := ∃ ws, w1 = .tup ws ∧ w2 = .tup [] ∧ ∀ b, b = (!decide (ws.length = 0)) → P (.bl b) mu
theorem ne0_w : OpW X (rNe0 X) ne0W := fun w1 w2 x y mu H P Q dx dy m ⟨ws, e1, e2, q⟩ k => by
  subst e1 e2
  obtain ⟨a, xs, e, sq, d⟩ := dx
  subst e
  obtain ⟨b, ys, e, sq2, d2⟩ := dy
  subst e
  have d2 : ys = [] := d2
  subst d2
  refine ⟨a, b, xs, rfl, rfl, sq, sq2, ?_⟩
  rw [← d.length]
  exact k.now (q _ rfl) rfl m
end
end Dv
set_option Elab.async false
set_option linter.all false
set_option maxRecDepth 100000
/-! k70: the law's own looks at any value. -/
namespace K1
open PySem L2 Dv
theorem le_one (a b : Nat) : (!decide (([b] : List Nat) < [a])) = decide (a ≤ b) := by
  by_cases h : b < a
  · have q : ([b] : List Nat) < [a] := List.Lex.rel h
    rw [decide_eq_true q, decide_eq_false (by omega)]
    rfl
  · have q : ¬ ([b] : List Nat) < [a] := fun q => by
      cases q with
      | rel h2 => exact h h2
      | cons h3 => cases h3
    rw [decide_eq_false q, decide_eq_true (by omega)]
    rfl
def ansT (s : Str) : List Str := if s = "put" then ["done", "refused", "again"] else if s = "drop" then ["done", "none", "again"] else ["there", "none", "again"]
theorem ansT_eq {s : Str} (h : s ∈ sorts3) : ansT s = (ansOf s).getD [] := by
  simp only [sorts3, List.mem_cons, List.not_mem_nil, or_false] at h
  rcases h with rfl | rfl | rfl <;> decide +kernel
section
variable {P : Program} {w : World} {K : PySem.W.Frag} {mg : Str → Option Value} {base : Heap}
abbrev s_Lis_int : Stmt := top 27
theorem sc_Lis_int : FnScope ["_law_thing"] ["_law_thing"] (defScope s_Lis_int) := ⟨rfl, rfl, rfl, by decide +kernel, rfl, by decide +kernel, by decide +kernel⟩
theorem d_Lis_int (D : Dfn K mg "_law_is_int" s_Lis_int ["_law_thing"]) (B : Bl mg) (Kb : KNo mg "bool") : DefOk P w K mg base "_law_is_int" ["_law_thing"] 1 (S_any isIn) := by
  refine dfnOk D sc_Lis_int (fun ws mu P ⟨_, e, _⟩ => by rw [e]; rfl) (fun f cdv A outer s H E hr ws mu Pt ⟨u, e, fb, h⟩ => ?_)
  subst e
  have fr := fb.fr
  refine sss_cons (ss_ret (se_and (se_isi (T := "int") (se_var (i := 0) rfl ⟨_, _, tyN_fr fr, kit_int fr, ?_⟩) B.isinstance B.int)))
  refine bW_b (fun h1 => ?_) fun h1 => h _ _ (by cases u <;> first | rfl | cases h1) Ext.refl
  refine se_one (se_not (se_isi (T := "bool") (se_var (i := 0) rfl ⟨_, _, tyN_fr fr, kit_bool fr, ?_⟩) B.isinstance Kb.no))
  exact h _ _ (by cases u <;> first | rfl | cases h1) Ext.refl
abbrev s_Lis_name : Stmt := top 30
theorem sc_Lis_name : FnScope ["_law_thing", "_law_sign"] ["_law_thing"] (defScope s_Lis_name) := ⟨rfl, rfl, rfl, by decide +kernel, rfl, by decide +kernel, by decide +kernel⟩
theorem d_Lis_name (D : Dfn K mg "_law_is_name" s_Lis_name ["_law_thing"]) (B : Bl mg) : DefOk P w K mg base "_law_is_name" ["_law_thing"] 1 (S_any isNm) := by
  refine dfnOk D sc_Lis_name (fun ws mu P ⟨_, e, _⟩ => by rw [e]; rfl) (fun f cdv A outer s H E hr ws mu Pt ⟨u, e, fb, h⟩ => ?_)
  subst e
  have fr := fb.fr
  refine sss_cons (ss_if (st_of_w (sw_or (st_not (st_val (se_isi (T := "str") (se_var (i := 0) rfl ⟨_, _, tyN_fr fr, kit_str fr, ?_⟩) B.isinstance B.str))))))
  refine if2_split (fun q => ?_) fun q => ?_
  · refine sss_cons (ss_ret (se_bl (h _ _ ?_ Ext.refl)))
    cases u <;> first | rfl | cases q
  obtain ⟨z, rfl⟩ : ∃ z, u = .str z := by cases u <;> first | exact ⟨_, rfl⟩ | cases q
  have zl := fb.str
  refine sw_or1 (st_not (st_chain op_le cmpI_w op_le cmpI_w (se_int (se_len (se_var (i := 0) rfl ⟨line_le (by omega), ?_⟩) B.len))))
  refine bW_b (fun h2 => se_int ?_) fun h2 => ?_
  rotate_left
  · have h2 : decide ((1 : Int) ≤ (z.length : Int)) = false := h2
    have : ¬ 1 ≤ z.length := fun q => of_decide_eq_false h2 (by omega)
    refine sss_cons (ss_ret (se_bl (h _ _ ?_ Ext.refl)))
    show false = nmB z
    unfold nmB
    rw [decide_eq_false this]
    rfl
  have h2 : decide ((1 : Int) ≤ (z.length : Int)) = true := h2
  have l1 : 1 ≤ z.length := by have := of_decide_eq_true h2; omega
  show if2 (!decide ((z.length : Int) ≤ 8)) _ _
  refine if2_split (fun h3 => ?_) fun h3 => sss_nil ?_
  · refine sss_cons (ss_ret (se_bl (h _ _ ?_ Ext.refl)))
    have h3 : decide ((z.length : Int) ≤ 8) = false := by simpa using h3
    have : ¬ z.length ≤ 8 := fun q => of_decide_eq_false h3 (by omega)
    show false = nmB z
    unfold nmB
    rw [decide_eq_false this, Bool.and_false]
    rfl
  have h3 : decide ((z.length : Int) ≤ 8) = true := by simpa using h3
  have l8 : z.length ≤ 8 := by have := of_decide_eq_true h3; omega
  refine sss_cons (ss_ret (se_all ?_ B.all))
  refine se_lc (own := [("_law_sign", 1)]) (.nm 1) rfl sc_Lis_name.nd (blkOk_by (N := ["_law_thing", "_law_sign"]) (sc := defScope s_Lis_name) (by decide +kernel)) rfl (fun _ _ _ _ _ => (pg_name (i := 1) sc_Lis_name.nd rfl (Or.inl rfl))) (by intro _; rfl) ?_
  refine si_str (se_var (i := 0) rfl ?_)
  refine lc_all_g (fun v => match v with | .str y => y.cps.toList.all fun c => decide (97 ≤ c ∧ c ≤ 122) | _ => false) (fun _ _ => trivial) (by rw [List.length_map, Array.length_toList]; exact line_le (by have : z.cps.size = z.length := rfl; omega)) InBlk.mono ?_ fun mu' e => ?_
  · intro v mu' hv he
    obtain ⟨c, hc, rfl⟩ := List.mem_map.mp hv
    refine ⟨_, rfl, fun s H C cl fp => ?_⟩
    refine se_chain op_le_str leS_w op_le_str leS_w (se_str (se_var (i := 1) rfl ⟨_, _, rfl, rfl, fun b hb => ?_⟩))
    have hb : b = decide (97 ≤ c) := hb.trans (le_one 97 c)
    refine bW_b (fun q => se_str ⟨_, _, rfl, rfl, fun b2 hb2 => ⟨?_, Ext.refl⟩⟩) fun q => ⟨?_, Ext.refl⟩
    · have hb2 : b2 = decide (c ≤ 122) := hb2.trans (le_one c 122)
      have q : decide (97 ≤ c) = true := hb ▸ q
      have q := of_decide_eq_true q
      rw [hb2]
      show W.bl _ = .bl _
      congr 1
      simp [q]
    · have q : decide (97 ≤ c) = false := hb ▸ q
      have q := of_decide_eq_false q
      show W.bl _ = .bl _
      congr 1
      simp
      omega
  · refine h _ _ ?_ e
    show _ = nmB z
    unfold nmB
    rw [decide_eq_true l1, decide_eq_true l8, List.all_map]
    simp [Function.comp_def]
abbrev s_Lanswers : Stmt := top 22
theorem sc_Lanswers : FnScope ["_law_sort"] ["_law_sort"] (defScope s_Lanswers) := ⟨rfl, rfl, rfl, by decide +kernel, rfl, by decide +kernel, by decide +kernel⟩
def S_answers : SpW := fun ws mu P => ∃ z, ws = [.str z] ∧ P (.tup ((ansT z).map W.str)) mu
theorem d_Lanswers (D : Dfn K mg "_law_answers" s_Lanswers ["_law_sort"]) : DefOk P w K mg base "_law_answers" ["_law_sort"] 1 S_answers := by
  refine dfnOk D sc_Lanswers (fun ws mu P ⟨_, e, _⟩ => by rw [e]; rfl) (fun f cdv A outer s H E hr ws mu Pt ⟨z, e, h⟩ => ?_)
  subst e
  refine sss_cons (ss_if (st_cmp op_eq eqT_w (nomark _) (se_var (i := 0) rfl (se_str ⟨_, _, rfl, rfl, fun b hb => ?_⟩))))
  refine if2_split (fun q => ?_) fun q => sss_nil ?_
  · have q : z = "put" := of_decide_eq_true (hb ▸ q)
    refine sss_cons (ss_ret (se_tup (sa_cons (se_str (sa_cons (se_str (sa_cons (se_str (sa_nil ⟨by decide, ?_⟩)))))))))
    unfold ansT at h
    rw [if_pos q] at h
    exact h
  have q : ¬ z = "put" := of_decide_eq_false (hb ▸ q)
  refine sss_cons (ss_ret (se_if (st_cmp op_eq eqT_w (nomark _) (se_var (i := 0) rfl (se_str ⟨_, _, rfl, rfl, fun b2 hb2 => ?_⟩)))))
  refine if2_split (fun q2 => ?_) fun q2 => ?_
  · have q2 : z = "drop" := of_decide_eq_true (hb2 ▸ q2)
    refine se_tup (sa_cons (se_str (sa_cons (se_str (sa_cons (se_str (sa_nil ⟨by decide, ?_⟩)))))))
    unfold ansT at h
    rw [if_neg q, if_pos q2] at h
    exact h
  · have q2 : ¬ z = "drop" := of_decide_eq_false (hb2 ▸ q2)
    refine se_tup (sa_cons (se_str (sa_cons (se_str (sa_cons (se_str (sa_nil ⟨by decide, ?_⟩)))))))
    unfold ansT at h
    rw [if_neg q, if_neg q2] at h
    exact h
end
end K1
set_option Elab.async false
set_option linter.all false
set_option maxRecDepth 100000
/-! k70: the law's own look at records and histories. -/
namespace K1
open PySem L2 Dv
theorem five {us : List W} (h : us.length = 5) : ∃ b e k s an, us = [b, e, k, s, an] := by
  match us, h with
  | [b, e, k, s, an], _ => exact ⟨b, e, k, s, an, rfl⟩
section
variable {P : Program} {w : World} {K : PySem.W.Frag} {mg : Str → Option Value} {base : Heap}
abbrev N_Lis_record : List Str := ["_law_thing", "_law_begin", "_law_end", "_law_sign", "_law_sort", "_law_answer_here"]
abbrev s_Lis_record : Stmt := top 31
theorem sc_Lis_record : FnScope N_Lis_record ["_law_thing"] (defScope s_Lis_record) := ⟨rfl, rfl, rfl, by decide +kernel, rfl, by decide +kernel, by decide +kernel⟩
set_option maxHeartbeats 1000000 in
theorem d_Lis_record (D : Dfn K mg "_law_is_record" s_Lis_record ["_law_thing"]) (B : Bl mg) (D_int : DefOk P w K mg base "_law_is_int" ["_law_thing"] 1 (S_any isIn)) (D_name : DefOk P w K mg base "_law_is_name" ["_law_thing"] 1 (S_any isNm)) (D_ans : DefOk P w K mg base "_law_answers" ["_law_sort"] 1 S_answers) :
    DefOk P w K mg base "_law_is_record" ["_law_thing"] 2 (S_any recB) := by
  refine dfnOk D sc_Lis_record (fun ws mu P ⟨_, e, _⟩ => by rw [e]; rfl) (fun f cdv A outer s H E hr ws mu Pt ⟨u, e, fb, h⟩ => ?_)
  subst e
  have hu1 : (A.deeper (PyProof.Rows.envOfC "_law_is_record" (defScope s_Lis_record) s.heap.objs.size f cdv)).units + 1 < cLine := by have := hr.un; omega
  have fr := fb.fr
  refine sss_cons (ss_if (st_of_w (sw_or (st_not (st_val (se_isi (T := "tuple") (se_var (i := 0) rfl ⟨_, _, tyN_fr fr, kit_tup fr, ?_⟩) B.isinstance B.tuple))))))
  refine if2_split (fun q => ?_) fun q => ?_
  · refine sss_cons (ss_ret (se_bl (h _ _ ?_ Ext.refl)))
    cases u <;> first | rfl | cases q
  obtain ⟨us, rfl⟩ : ∃ us, u = .tup us := by cases u <;> first | exact ⟨_, rfl⟩ | cases q
  refine sw_or (st_cmp op_ne neN_w (nomark _) (se_len (se_var (i := 0) rfl (se_int ⟨_, _, rfl, rfl, fun b hb => ?_⟩)) B.len))
  refine if2_split (fun q => ?_) fun q => ?_
  · refine sss_cons (ss_ret (se_bl (h _ _ ?_ Ext.refl)))
    rw [recB_not]
    have q : ((us.length : Int) != 5) = true := hb ▸ q
    have q : ¬ ((us.length : Int) = 5) := by simpa using q
    show (decide ((5 : Int) ≤ (us.length : Int)) && decide ((us.length : Int) ≤ 5)) = false
    by_cases a : (5 : Int) ≤ (us.length : Int)
    · have : ¬ (us.length : Int) ≤ 5 := by omega
      rw [decide_eq_false this, Bool.and_false]
    · rw [decide_eq_false a]; rfl
  have q : ((us.length : Int) != 5) = false := hb ▸ q
  obtain ⟨b, e, k, so, an, rfl⟩ := five (us := us) (by have : (us.length : Int) = 5 := by simpa using q
                                                       omega)
  have fe := fb.tup
  have fbb : FrB b := fe b (by simp)
  have fbe : FrB e := fe e (by simp)
  have fbk : FrB k := fe k (by simp)
  have fbs : FrB so := fe so (by simp)
  have fba : FrB an := fe an (by simp)
  refine sw_or (st_not (st_val (se_callD D_int (hr.mono (by decide)) (sa_cons (se_ix (se_var (i := 0) rfl (se_int ⟨_, rfl, sa_nil ?_⟩)))))))
  refine ⟨b, rfl, fbb, fun r1 mu1 hr1 e1 => ?_⟩
  refine if2_split (fun q => ?_) fun q => ?_
  · refine sss_cons (ss_ret (se_bl (h _ _ ?_ e1)))
    have q : isIn b = false := by rw [← hr1]; simpa using q
    have : timeB b = false := by cases b <;> first | rfl | cases q
    simp [recB, this]
  have q : isIn b = true := by rw [← hr1]; simpa using q
  obtain ⟨i, rfl⟩ : ∃ i, b = .int i := by cases b <;> first | exact ⟨_, rfl⟩ | cases q
  refine sw_or1 (st_cmp op_lt cmpN_w (nomark _) (se_ix (se_var (i := 0) rfl (se_int ⟨_, rfl, se_int ⟨_, _, rfl, rfl, fun b2 hb2 => ?_⟩⟩))))
  refine if2_split (fun q2 => ?_) fun q2 => sss_nil ?_
  · refine sss_cons (ss_ret (se_bl (h _ _ ?_ e1)))
    have q2 : i < 1 := of_decide_eq_true (hb2 ▸ q2)
    have : timeB (.int i) = false := decide_eq_false (by omega)
    simp [recB, this]
  have i1 : 1 ≤ i := by have : ¬ i < 1 := of_decide_eq_false (hb2 ▸ q2); omega
  have t2 : timeB (.int i) = true := decide_eq_true i1
  refine sss_cons (ss_asg (se_var (i := 0) rfl ?_))
  refine sg_tup (sgs_cons (sg_name (i := 1) (sgs_cons (sg_name (i := 2) (sgs_cons (sg_name (i := 3) (sgs_cons (sg_name (i := 4) (sgs_cons (sg_name (i := 5) (sgs_nil ?_) sc_Lis_record.nd)) sc_Lis_record.nd)) sc_Lis_record.nd)) sc_Lis_record.nd)) sc_Lis_record.nd))
  refine sss_cons (ss_if (st_of_w (sw_or (st_not (st_val (se_callD D_name (hr.mono (by decide)) (sa_cons (se_var (i := 3) rfl (sa_nil ?_)))))))))
  refine ⟨k, rfl, fbk, fun r3 mu3 hr3 e3 => ?_⟩
  have e13 := e1.trans e3
  refine if2_split (fun q3 => ?_) fun q3 => ?_
  · refine sss_cons (ss_ret (se_bl (h _ _ ?_ e13)))
    have : isNm k = false := by rw [← hr3]; simpa using q3
    simp [recB, this]
  have t3 : isNm k = true := by rw [← hr3]; simpa using q3
  refine sw_or (st_not (st_val (se_isi (T := "str") (se_var (i := 4) rfl ⟨_, _, tyN_fr fbs.fr, kit_str fbs.fr, ?_⟩) B.isinstance B.str)))
  refine if2_split (fun q4 => ?_) fun q4 => ?_
  · refine sss_cons (ss_ret (se_bl (h _ _ ?_ e13)))
    have : inT so sorts3 = false := by cases so <;> first | rfl | cases q4
    simp [recB, this]
  refine sw_or1 (st_cmp (op_inA (ng := true) hu1) inA_w (by rfl) (se_var (i := 4) rfl (se_tup (sa_cons (se_str (sa_cons (se_str (sa_cons (se_str (sa_nil ⟨by decide, ⟨fbs.fr, sorts3, .inl rfl, fun b4 hb4 => ?_⟩⟩))))))))))
  refine if2_split (fun q4 => ?_) fun q4 => sss_nil ?_
  · refine sss_cons (ss_ret (se_bl (h _ _ ?_ e13)))
    have : inT so sorts3 = false := by rw [hb4] at q4; simpa using q4
    simp [recB, this]
  have t4 : inT so sorts3 = true := by rw [hb4] at q4; simpa using q4
  refine sss_cons (ss_if (st_cmp op_isN isN_w (nomark _) (se_var (i := 2) rfl (se_non ⟨rfl, fun b5 hb5 => ?_⟩))))
  refine if2_split (fun q5 => ?_) fun q5 => sss_nil ?_
  · refine sss_cons (ss_ret (se_cmp op_isN isN_w (nomark _) (se_var (i := 5) rfl (se_non ⟨rfl, fun b6 hb6 => h _ _ ?_ e13⟩))))
    have t5 : isNo e = true := by rw [← hb5]; exact q5
    simp [recB, t2, t3, t4, t5, hb6]
  have t5 : isNo e = false := by rw [← hb5]; exact q5
  obtain ⟨z, rfl⟩ : ∃ z, so = .str z := by cases so <;> first | exact ⟨_, rfl⟩ | cases t4
  have zs : z ∈ sorts3 := of_decide_eq_true t4
  refine sss_cons (ss_if (st_of_w (sw_or (st_not (st_val (se_callD D_int (hr.mono (by decide)) (sa_cons (se_var (i := 2) rfl (sa_nil ?_)))))))))
  refine ⟨e, rfl, fbe, fun r6 mu6 hr6 e6 => ?_⟩
  have e16 := e13.trans e6
  refine if2_split (fun q6 => ?_) fun q6 => ?_
  · refine sss_cons (ss_ret (se_bl (h _ _ ?_ e16)))
    have q6 : isIn e = false := by rw [← hr6]; simpa using q6
    have : timeB e = false := by cases e <;> first | rfl | cases q6
    simp [recB, t5, this]
  have q6 : isIn e = true := by rw [← hr6]; simpa using q6
  obtain ⟨j, rfl⟩ : ∃ j, e = .int j := by cases e <;> first | exact ⟨_, rfl⟩ | cases q6
  refine sw_or (st_cmp op_le cmpN_w (nomark _) (se_var (i := 2) rfl (se_var (i := 1) rfl ⟨_, _, rfl, rfl, fun b7 hb7 => ?_⟩)))
  refine if2_split (fun q7 => ?_) fun q7 => ?_
  · refine sss_cons (ss_ret (se_bl (h _ _ ?_ e16)))
    have q7 : j ≤ i := of_decide_eq_true (hb7 ▸ q7)
    have : ltI (.int i) (.int j) = false := decide_eq_false (by omega)
    simp [recB, isNo, this]
  have q7 : i < j := by have : ¬ j ≤ i := of_decide_eq_false (hb7 ▸ q7); omega
  have t7 : ltI (.int i) (.int j) = true := decide_eq_true q7
  have t6 : timeB (.int j) = true := decide_eq_true (by omega)
  refine sw_or1 (st_not (st_val (se_isi (T := "str") (se_var (i := 5) rfl ⟨_, _, tyN_fr fba.fr, kit_str fba.fr, ?_⟩) B.isinstance B.str)))
  have ea : ansL (.str z) = ansT z := (ansT_eq zs).symm
  refine if2_split (fun q8 => ?_) fun q8 => sss_nil ?_
  · refine sss_cons (ss_ret (se_bl (h _ _ ?_ e16)))
    have : inT an (ansL (.str z)) = false := by cases an <;> first | rfl | cases q8
    simp [recB, isNo, this]
  refine sss_cons (ss_ret (se_cmp (op_inA (ng := false) hu1) inA_w (by rfl) (se_var (i := 5) rfl (se_callD D_ans (hr.mono (by decide)) (sa_cons (se_var (i := 4) rfl (sa_nil ?_)))))))
  refine ⟨z, rfl, fba.fr, ansT z, .inl rfl, fun b8 hb8 => h _ _ ?_ e16⟩
  simp [recB, t2, t3, t4, isNo, t6, t7, ea, hb8]
end
end K1
set_option Elab.async false
set_option linter.all false
set_option maxRecDepth 100000
/-! k70: the law's own look at histories. -/
namespace K1
open PySem L2 Dv
def g2 (w : W) : W := match w with | .tup [_, _, k, _, _] => k | _ => .non
theorem keys_map (h : List Rc) : (h.map rcW).map g2 = (h.map (·.k)).map W.str := by
  rw [List.map_map, List.map_map]
  rfl
theorem cnt_keys (h : List Rc) (k : Str) : (h.map (·.k)).countP (isT (.str k)) = (h.filter fun q => decide (q.k = k)).length := by
  rw [List.countP_map, List.countP_eq_length_filter]
  rfl
theorem few_keys (h : List Rc) : ((h.map (·.k)).map W.str).all (fun w => match w with | .str z => decide ((h.map (·.k)).countP (isT (.str z)) ≤ 8) | _ => false) = few h := by
  unfold few
  rw [List.all_map, List.all_map]
  refine List.all_congr rfl fun r => ?_
  show decide ((h.map (·.k)).countP (isT (.str r.k)) ≤ 8) = _
  rw [cnt_keys]
section
variable {P : Program} {w : World} {K : PySem.W.Frag} {mg : Str → Option Value} {base : Heap}
abbrev N_Ldue : List Str := ["_law_thing", "_law_record", "_law_begins", "_law_keys", "_law_one", "_law_other", "_law_times", "_law_sign"]
abbrev s_Ldue : Stmt := top 32
theorem sc_Ldue : FnScope N_Ldue ["_law_thing"] (defScope s_Ldue) := ⟨rfl, rfl, rfl, by decide +kernel, rfl, by decide +kernel, by decide +kernel⟩
set_option maxHeartbeats 2000000 in
theorem d_Ldue (D : Dfn K mg "_law_due" s_Ldue ["_law_thing"]) (B : Bl mg) (D_record : DefOk P w K mg base "_law_is_record" ["_law_thing"] 2 (S_any recB)) : DefOk P w K mg base "_law_due" ["_law_thing"] 3 (S_any histB) := by
  refine dfnOk D sc_Ldue (fun ws mu P ⟨_, e, _⟩ => by rw [e]; rfl) (fun f cdv A outer s H E hr ws mu Pt ⟨u, e, fb, h⟩ => ?_)
  subst e
  have fr := fb.fr
  have hu2 : (A.deeper (PyProof.Rows.envOfC "_law_due" (defScope s_Ldue) s.heap.objs.size f cdv)).units + 2 < cLine := by have := hr.un; omega
  refine sss_cons (ss_if (st_of_w (sw_or (st_not (st_val (se_isi (T := "tuple") (se_var (i := 0) rfl ⟨_, _, tyN_fr fr, kit_tup fr, ?_⟩) B.isinstance B.tuple))))))
  refine if2_split (fun q => ?_) fun q => ?_
  · refine sss_cons (ss_ret (se_bl (h _ _ ?_ Ext.refl)))
    cases u <;> first | rfl | cases q
  obtain ⟨us, rfl⟩ : ∃ us, u = .tup us := by cases u <;> first | exact ⟨_, rfl⟩ | cases q
  refine sw_or (st_cmp op_gt cmpN_w (nomark _) (se_len (se_var (i := 0) rfl (se_int ⟨_, _, rfl, rfl, fun b hb => ?_⟩)) B.len))
  refine if2_split (fun q => ?_) fun q => ?_
  · refine sss_cons (ss_ret (se_bl (h _ _ ?_ Ext.refl)))
    have q : (us.length : Int) > 24 := of_decide_eq_true (hb ▸ q)
    show false = (decide (us.length ≤ 24) && _)
    rw [decide_eq_false (by omega)]
    rfl
  have ul : us.length ≤ 24 := by have : ¬ (us.length : Int) > 24 := of_decide_eq_false (hb ▸ q); omega
  refine sw_or1 (st_not (st_val (se_all ?_ B.all)))
  refine se_lc (own := [("_law_record", 1)]) (.nm 1) rfl sc_Ldue.nd (blkOk_by (N := N_Ldue) (sc := defScope s_Ldue) (by decide +kernel)) rfl (fun _ _ _ _ _ => (pg_name (i := 1) sc_Ldue.nd rfl (Or.inl rfl))) (by intro _; rfl) ?_
  refine si_tup (se_var (i := 0) rfl ?_)
  refine lc_all_g recB (fun _ _ => trivial) (Nat.le_trans ul (by decide)) InBlk.mono ?_ fun mu2 e2 => ?_
  · intro v mu' hv he
    refine ⟨_, rfl, fun s' H C cl fp => ?_⟩
    refine se_callD D_record (hr.mono (by decide)) (sa_cons (se_var (i := 1) rfl (sa_nil ?_)))
    exact ⟨v, rfl, fb.tup v hv, fun b mu3 hb e3 => ⟨by rw [hb], e3⟩⟩
  refine if2_split (fun q2 => ?_) fun q2 => sss_nil ?_
  · refine sss_cons (ss_ret (se_bl (h _ _ ?_ e2)))
    have : us.all recB = false := by simpa using q2
    show false = (decide (us.length ≤ 24) && (us.all recB && _))
    rw [this]
    simp
  have q2 : us.all recB = true := by simpa using q2
  have eu : histB (.tup us) = histG (us.map toR) := by
    show (decide (us.length ≤ 24) && (us.all recB && _)) = _
    rw [decide_eq_true ul, q2]
    rfl
  obtain ⟨hi, rfl, ok⟩ := all_rc q2
  rw [map_toR] at eu
  rw [List.length_map] at ul
  have hl := ul
  have le := ends_len hi
  have bl : (beginsOf hi).length = hi.length := by unfold beginsOf; rw [List.length_map]
  -- begins, keys
  refine sss_cons ?_
  refine ss_asg (se_tup (sa_cons ?_))
  refine se_lc (own := [("_law_record", 1)]) (.nm 1) rfl sc_Ldue.nd (blkOk_by (N := N_Ldue) (sc := defScope s_Ldue) (by decide +kernel)) rfl (fun _ _ _ _ _ => (pg_name (i := 1) sc_Ldue.nd rfl (Or.inl rfl))) (by intro _; rfl) ?_
  refine si_tup (se_var (i := 0) rfl ?_)
  refine lc_pure g0 (fun _ _ => trivial) (by rw [List.length_map]; exact Nat.le_trans hl (by decide)) ?_ InBlk.mono ?_
  · intro u mu' hu he
    obtain ⟨r, hr', rfl⟩ := List.mem_map.mp hu
    exact ⟨_, rfl, fun s' H C cl fp => se_ix (se_var (i := 1) rfl (se_int ⟨_, rfl, rfl, Ext.refl⟩))⟩
  intro Db mu3 hDb e3 e3'
  rw [begins_map] at e3' ⊢
  have hb : (setM mu3 Db (.lst ((beginsOf hi).map W.int))) Db = some (.lst ((beginsOf hi).map W.int)) := setM_same
  generalize setM mu3 Db (.lst ((beginsOf hi).map W.int)) = mu4 at e3' hb ⊢
  refine sa_cons ?_
  refine se_lc (own := [("_law_record", 1)]) (.nm 1) rfl sc_Ldue.nd (blkOk_by (N := N_Ldue) (sc := defScope s_Ldue) (by decide +kernel)) rfl (fun _ _ _ _ _ => (pg_name (i := 1) sc_Ldue.nd rfl (Or.inl rfl))) (by intro _; rfl) ?_
  refine si_tup (se_var (i := 0) rfl ?_)
  refine lc_pure g2 (fun _ _ => trivial) (by rw [List.length_map]; exact Nat.le_trans hl (by decide)) ?_ InBlk.mono ?_
  · intro u mu' hu he
    obtain ⟨r, hr', rfl⟩ := List.mem_map.mp hu
    exact ⟨_, rfl, fun s' H C cl fp => se_ix (se_var (i := 1) rfl (se_int ⟨_, rfl, rfl, Ext.refl⟩))⟩
  intro Dk mu5 hDk e5 e5'
  rw [keys_map] at e5' ⊢
  have hk : (setM mu5 Dk (.lst ((hi.map (·.k)).map W.str))) Dk = some (.lst ((hi.map (·.k)).map W.str)) := setM_same
  generalize setM mu5 Dk (.lst ((hi.map (·.k)).map W.str)) = mu6 at e5' hk ⊢
  have hb := e5' _ _ hb
  have e6 := (e2.trans e3').trans e5'
  refine sa_nil ⟨by show 2 ≤ sizeLine; decide, ?_⟩
  refine sg_tup (sgs_cons (sg_name (i := 2) (sgs_cons (sg_name (i := 3) (sgs_nil ?_) sc_Ldue.nd)) sc_Ldue.nd))
  -- rising
  refine sss_cons (ss_if (st_not (st_val (se_all ?_ B.all))))
  refine se_lc (own := [("_law_one", 4), ("_law_other", 5)]) (.tp [(.nm 4), (.nm 5)]) rfl sc_Ldue.nd (blkOk_by (N := N_Ldue) (sc := defScope s_Ldue) (by decide +kernel)) rfl (fun _ _ _ _ _ => (pg_tup rfl (pgs_cons (pg_name (i := 4) sc_Ldue.nd rfl (Or.inl rfl)) (pgs_cons (pg_name (i := 5) sc_Ldue.nd rfl (Or.inl rfl)) pgs_nil)))) (by intro _; rfl) ?_
  refine si_zip ?_ B.zip
  refine se_var (i := 2) rfl (se_slFrom (se_var (i := 2) rfl (se_int ⟨_, hb, fun p np => ?_⟩)))
  rw [cut1]
  have hb7 : setM mu6 p (.lst ((beginsOf hi).map W.int).tail) Db = some (.lst ((beginsOf hi).map W.int)) := by rw [setM_ne (fun z => by rw [z, np] at hb; cases hb)]; exact hb
  refine ⟨_, _, hb7, setM_same, ?_⟩
  have e67 : Ext mu6 (setM mu6 p (.lst ((beginsOf hi).map W.int).tail)) := Ext.refl.set np
  have e7 := e6.trans e67
  refine lc_all_g (fun q => match q with | .tup [x, y] => ltD (x, y) | _ => false) (fun mu' e => ⟨e _ _ hb7, e _ _ setM_same⟩) (by rw [List.length_map, List.length_zip, List.length_map]; exact Nat.le_trans (Nat.min_le_left _ _) (Nat.le_trans (by omega) (by decide : 24 ≤ sizeLine))) InBlk.mono ?_ fun mu8 e8 => ?_
  · intro v mu' hv he
    obtain ⟨⟨x, y⟩, hq, rfl⟩ := List.mem_map.mp hv
    have hx := List.of_mem_zip hq
    obtain ⟨i, _, rfl⟩ := List.mem_map.mp hx.1
    obtain ⟨j, _, rfl⟩ := List.mem_map.mp (List.mem_of_mem_tail hx.2)
    refine ⟨_, rfl, fun s' H C cl fp => ?_⟩
    refine se_cmp op_lt cmpN_w (nomark _) (se_var (i := 4) rfl (se_var (i := 5) rfl ⟨_, _, rfl, rfl, fun b hb => ⟨?_, Ext.refl⟩⟩))
    rw [hb]
    show W.bl _ = W.bl (ltD (W.int i, W.int j))
    rw [lt_int]
  have e78 := e7.trans e8
  have hr : (((((beginsOf hi).map W.int).zip ((beginsOf hi).map W.int).tail).map fun q => W.tup [q.1, q.2]).all fun q => match q with | .tup [x, y] => ltD (x, y) | _ => false) = decide ((beginsOf hi).Pairwise (· < ·)) := by
    rw [← rising_int, List.all_map]
    rfl
  rw [hr]
  refine if2_split (fun q3 => ?_) fun q3 => sss_nil ?_
  · refine sss_cons (ss_ret (se_bl (h _ _ ?_ e78)))
    rw [eu]
    unfold histG
    have : decide ((beginsOf hi).Pairwise (· < ·)) = false := by simpa using q3
    rw [this]
    rfl
  have t3 : decide ((beginsOf hi).Pairwise (· < ·)) = true := by simpa using q3
  have hb8 := e8 _ _ hb7
  have hk8 := e8 _ _ (e67 _ _ hk)
  -- times
  refine sss_cons (ss_asg (se_bin op_cat catL_w (se_var (i := 2) rfl ?_)))
  refine se_lc1 (own := [("_law_record", 1)]) (.nm 1) rfl sc_Ldue.nd (blkOk_by (N := N_Ldue) (sc := defScope s_Ldue) (by decide +kernel)) rfl (fun _ _ _ _ _ => (pg_name (i := 1) sc_Ldue.nd rfl (Or.inl rfl))) (by intro _; rfl) ?_
  refine si_tup (se_var (i := 0) rfl ?_)
  refine lc_filter p1 g1 (fun _ _ => trivial) (by rw [List.length_map]; exact Nat.le_trans hl (by decide)) ?_ InBlk.mono ?_
  · intro u mu' hu he
    obtain ⟨r, hr', rfl⟩ := List.mem_map.mp hu
    refine ⟨_, rfl, fun s' H C cl fp => ?_⟩
    refine st_cmp op_notN notN_w (nomark _) (se_ix (se_var (i := 1) rfl (se_int ⟨_, rfl, se_non ⟨rfl, fun b hb => ?_⟩⟩)))
    exact ⟨hb, Ext.refl, fun _ => fun s'' H' C' cl' fp' => se_ix (se_var (i := 1) rfl (se_int ⟨_, rfl, rfl, Ext.refl⟩))⟩
  intro De mu9 hDe e9 e9'
  rw [ends_map] at e9' ⊢
  have he : (setM mu9 De (.lst ((endsOf hi).map W.int))) De = some (.lst ((endsOf hi).map W.int)) := setM_same
  generalize setM mu9 De (.lst ((endsOf hi).map W.int)) = mu10 at e9' he ⊢
  refine ⟨_, _, _, _, rfl, rfl, e9' _ _ hb8, he, by rw [List.length_map, List.length_map]; exact Nat.le_trans (by omega : (beginsOf hi).length + (endsOf hi).length ≤ 48) (by decide), fun l nl => ?_⟩
  rw [← List.map_append]
  have hk11 := (Ext.refl.set (c := .lst ((beginsOf hi ++ endsOf hi).map W.int)) nl) _ _ (e9' _ _ hk8)
  have ht11 : setM mu10 l (.lst ((beginsOf hi ++ endsOf hi).map W.int)) l = some (.lst ((beginsOf hi ++ endsOf hi).map W.int)) := setM_same
  have e11 := (e78.trans e9').trans (Ext.refl.set (c := .lst ((beginsOf hi ++ endsOf hi).map W.int)) nl)
  generalize setM mu10 l (.lst ((beginsOf hi ++ endsOf hi).map W.int)) = mu11 at hk11 ht11 e11 ⊢
  refine sg_name (i := 6) ?_ sc_Ldue.nd
  refine sss_cons (ss_ret (se_and (se_cmp op_eq eqN_w (nomark _) (se_len (se_sortIx (se_var (i := 6) rfl ⟨l, _, rfl, ht11, by rw [List.length_append]; omega, fun y ys ny pw mm => ?_⟩) B.sorted B.set) B.len))))
  have ht12 := (Ext.refl.set (c := .lst (ys.map W.int)) ny) _ _ ht11
  have hk12 := (Ext.refl.set (c := .lst (ys.map W.int)) ny) _ _ hk11
  have e12 := e11.trans (Ext.refl.set (c := .lst (ys.map W.int)) ny)
  refine ⟨_, setM_same, se_len (se_var (i := 6) rfl ⟨_, ht12, ⟨_, _, rfl, rfl, fun b hb => ?_⟩⟩) B.len⟩
  have hb : b = decide ((beginsOf hi ++ endsOf hi).Nodup) := by
    rw [hb, List.length_map, List.length_map, Bool.eq_iff_iff, decide_eq_true_eq, ← sort_iff pw mm]
    simp
    omega
  refine bW_b (fun q4 => ?_) fun q4 => h _ _ ?_ e12
  rotate_left
  · rw [eu]
    unfold histG
    rw [t3, ← hb, q4]
    rfl
  refine se_one (se_all ?_ B.all)
  refine se_lc (own := [("_law_sign", 7)]) (.nm 7) rfl sc_Ldue.nd (blkOk_by (N := N_Ldue) (sc := defScope s_Ldue) (by decide +kernel)) rfl (fun _ _ _ _ _ => (pg_name (i := 7) sc_Ldue.nd rfl (Or.inl rfl))) (by intro _; rfl) ?_
  refine si_lst (se_var (i := 3) rfl ⟨_, hk12, ?_⟩)
  refine lc_all_g (fun w => match w with | .str z => decide ((hi.map (·.k)).countP (isT (.str z)) ≤ 8) | _ => false) (fun mu' e => e _ _ hk12) (by rw [List.length_map, List.length_map]; exact Nat.le_trans hl (by decide)) InBlk.mono ?_ fun mu13 e13 => ?_
  · intro v mu' hv he
    obtain ⟨z, _, rfl⟩ := List.mem_map.mp hv
    refine ⟨_, rfl, fun s' H C cl fp => ?_⟩
    refine se_cmp op_le cmpN_w (nomark _) (se_count hu2 (se_var (i := 3) rfl ⟨⟨_, he _ _ hk12⟩, sa_cons (se_var (i := 7) rfl (sa_nil ⟨_, _, _, rfl, rfl, rfl, he _ _ hk12, fun k hk => se_int ⟨_, _, rfl, rfl, fun b hb => ⟨?_, Ext.refl⟩⟩⟩))⟩))
    rw [hb, hk]
    show W.bl _ = W.bl _
    congr 1
    exact decide_eq_decide.mpr (by omega)
  · rw [few_keys]
    refine h _ _ ?_ (e12.trans e13)
    rw [eu]
    unfold histG
    rw [t3, ← hb, q4]
    rfl
end
end K1
set_option Elab.async false
set_option linter.all false
set_option maxRecDepth 100000
/-! k70: deeds. -/
namespace K1
open PySem L2 Dv
/-- cells made since mu0, none of them the jar -/
structure Live (mu0 mu : Mu) (p : Addr) (c : Nat) (l : List (Addr × C)) : Prop where
  jar : JarOk mu p c
  cell : ∀ q ∈ l, mu q.1 = some q.2 ∧ q.1 ≠ p ∧ mu0 q.1 = none
  nd : (l.map (·.1)).Nodup
  ex : ExtBut p mu0 mu
theorem Live.zero {mu0 : Mu} {p : Addr} {c : Nat} (j : JarOk mu0 p c) : Live mu0 mu0 p c [] := ⟨j, fun q hq => (by cases hq), by simp, ExtBut.refl⟩
section
variable {mu0 mu mu' : Mu} {p a : Addr} {c c' : Nat} {l : List (Addr × C)} {x y : C}
theorem Live.at (L : Live mu0 mu p c l) (i : Nat) (h : l[i]? = some (a, x)) : mu a = some x := (L.cell _ (List.mem_of_getElem? h)).1
theorem Live.ne (L : Live mu0 mu p c l) (i : Nat) (h : l[i]? = some (a, x)) : a ≠ p := (L.cell _ (List.mem_of_getElem? h)).2.1
theorem Live.fresh (L : Live mu0 mu p c l) (h : mu a = none) : mu0 a = none ∧ a ≠ p := by
  have ap : a ≠ p := Ne.symm (L.jar.ne h)
  refine ⟨?_, ap⟩
  cases e : mu0 a with
  | none => rfl
  | some z => rw [L.ex _ _ ap e] at h; cases h
theorem Live.new (L : Live mu0 mu p c l) (h : mu a = none) (x : C) : Live mu0 (setM mu a x) p c (l ++ [(a, x)]) := by
  obtain ⟨f0, ap⟩ := L.fresh h
  have na : ∀ q ∈ l, q.1 ≠ a := fun q hq z => by rw [← z, (L.cell q hq).1] at h; cases h
  refine ⟨L.jar.set (Ne.symm ap), fun q hq => ?_, ?_, L.ex.setNew h⟩
  · rcases List.mem_append.mp hq with z | z
    · rw [setM_ne (na q z)]
      exact L.cell q z
    · rw [List.mem_singleton.mp z]
      exact ⟨setM_same, ap, f0⟩
  · rw [List.map_append, List.nodup_append]
    refine ⟨L.nd, by simp, fun b hb d hd e => ?_⟩
    obtain ⟨q, hq, rfl⟩ := List.mem_map.mp hb
    rw [List.map_cons, List.map_nil, List.mem_singleton] at hd
    exact na q hq (e.trans hd)
theorem Live.step (L : Live mu0 mu p c l) (e : ExtBut p mu mu') (j : JarOk mu' p c') : Live mu0 mu' p c' l :=
  ⟨j, fun q hq => ⟨e _ _ (L.cell q hq).2.1 (L.cell q hq).1, (L.cell q hq).2⟩, L.nd, L.ex.trans e⟩
theorem Live.ext (L : Live mu0 mu p c l) (e : Ext mu mu') : Live mu0 mu' p c l := L.step (Ext.but e) (L.jar.ext e)
theorem Live.mono (L : Live mu0 mu p c l) (h : c ≤ c') : Live mu0 mu p c' l := ⟨L.jar.mono h, L.cell, L.nd, L.ex⟩
theorem Live.sub {l' : List (Addr × C)} (L : Live mu0 mu p c l) (h : l'.Sublist l) : Live mu0 mu p c l' := ⟨L.jar, fun q hq => L.cell q (h.subset hq), (h.map _).nodup L.nd, L.ex⟩
theorem set_map {l : List (Addr × C)} {i : Nat} (h : l[i]? = some (a, x)) (y : C) : (l.set i (a, y)).map (·.1) = l.map (·.1) := by
  rw [List.map_set]
  have : (l.map (·.1))[i]? = some a := by rw [List.getElem?_map, h]; rfl
  exact List.ext_getElem? fun j => by
    rw [List.getElem?_set]
    by_cases z : i = j
    · subst z
      rw [if_pos rfl, if_pos (List.getElem?_eq_some_iff.mp this).1, this]
    · rw [if_neg z]
theorem Live.put (L : Live mu0 mu p c l) (i : Nat) (h : l[i]? = some (a, x)) (y : C) : Live mu0 (setM mu a y) p c (l.set i (a, y)) := by
  have ha := L.cell _ (List.mem_of_getElem? h)
  have sm := set_map h y
  refine ⟨L.jar.set (Ne.symm ha.2.1), fun q hq => ?_, by rw [sm]; exact L.nd, L.ex.own ha.2.2⟩
  obtain ⟨j, hj⟩ := List.getElem?_of_mem hq
  rw [List.getElem?_set] at hj
  by_cases z : i = j
  · subst z
    rw [if_pos rfl, if_pos (List.getElem?_eq_some_iff.mp h).1] at hj
    cases hj
    exact ⟨setM_same, ha.2⟩
  · rw [if_neg z] at hj
    have hq2 := L.cell q (List.mem_of_getElem? hj)
    have ne : q.1 ≠ a := fun e => by
      have h1 : (l.map (·.1))[j]? = some a := by rw [List.getElem?_map, hj]; exact congrArg some e
      have h2 : (l.map (·.1))[i]? = some a := by rw [List.getElem?_map, h]; rfl
      exact z ((List.getElem?_inj (List.getElem?_eq_some_iff.mp h2).1 L.nd).mp (h2.trans h1.symm))
    rw [setM_ne ne]
    exact hq2
end
theorem setM_none {mu : Mu} {a b : Addr} {c : C} (h : setM mu a c b = none) : b ≠ a ∧ mu b = none := by
  by_cases z : b = a
  · rw [z, setM_same] at h; cases h
  · exact ⟨z, by rwa [setM_ne z] at h⟩
theorem put_same {kvs : List (Key × W)} {k : Key} {w : W} : valW (putW kvs k w) k = some w := by rw [valW_put, if_pos rfl]
theorem put_ne {kvs : List (Key × W)} {k j : Key} {w : W} {u : Option W} (hne : ¬ k = j) (h : valW kvs j = u) : valW (putW kvs k w) j = u := by rw [valW_put, if_neg hne]; exact h
theorem val_hit {kvs : List (Key × W)} {k : Key} {w : W} : valW ((k, w) :: kvs) k = some w := if_pos rfl
theorem val_miss {kvs : List (Key × W)} {k j : Key} {w : W} {u : Option W} (h : ¬ j = k) (e : valW kvs k = u) : valW ((j, w) :: kvs) k = u := (if_neg h).trans e

theorem putW_hit {r : List (Key × W)} {k : Key} {u w : W} : putW ((k, u) :: r) k w = (k, w) :: r := if_pos rfl
theorem putW_miss {r : List (Key × W)} {j k : Key} {u w : W} (h : ¬ j = k) : putW ((j, u) :: r) k w = (j, u) :: putW r k w := if_neg h
theorem putW_nil {k : Key} {w : W} : putW [] k w = [(k, w)] := rfl
/-- a deed -/
structure De where
  b : Int
  e : Option Int
  k : Str
  s : Str
  m : Option (Int × Int × Str × Bool)
def oI : Option Int → W
  | none => .non
  | some i => .int i
def kvD (d : De) : List (Key × W) := (.inr "begin", .int d.b) :: (.inr "end", oI d.e) :: (.inr "key", .str d.k) :: (.inr "sort", .str d.s) :: (match d.m with
  | none => [(.inr "moment", .non)]
  | some (m, t, y, u) => [(.inr "moment", .int m), (.inr "turn", .int t), (.inr "said", .str y), (.inr "stands", .bl u)])
theorem kvD_nd (d : De) : ((kvD d).map (·.1)).Nodup := by
  obtain ⟨b, e, k, s, m⟩ := d
  cases m with
  | none => 
    show ([.inr "begin", .inr "end", .inr "key", .inr "sort", .inr "moment"] : List Key).Nodup
    decide +kernel
  | some q =>
    obtain ⟨m, t, y, u⟩ := q
    show ([.inr "begin", .inr "end", .inr "key", .inr "sort", .inr "moment", .inr "turn", .inr "said", .inr "stands"] : List Key).Nodup
    decide +kernel
theorem kvD_len (d : De) : (kvD d).length ≤ 8 := by
  obtain ⟨b, e, k, s, m⟩ := d
  cases m with
  | none => show 5 ≤ 8; decide
  | some q => show 8 ≤ 8; decide
def mI (d : De) : W := match d.m with | none => .non | some q => .int q.1
theorem kb (d : De) : valW (kvD d) (.inr "begin") = some (.int d.b) := if_pos rfl
theorem ke (d : De) : valW (kvD d) (.inr "end") = some (oI d.e) := val_miss (by decide +kernel) (if_pos rfl)
theorem kk (d : De) : valW (kvD d) (.inr "key") = some (.str d.k) := val_miss (by decide +kernel) (val_miss (by decide +kernel) (if_pos rfl))
theorem ks (d : De) : valW (kvD d) (.inr "sort") = some (.str d.s) := val_miss (by decide +kernel) (val_miss (by decide +kernel) (val_miss (by decide +kernel) (if_pos rfl)))
theorem km (d : De) : valW (kvD d) (.inr "moment") = some (mI d) := val_miss (by decide +kernel) (val_miss (by decide +kernel) (val_miss (by decide +kernel) (val_miss (by decide +kernel) (by
  obtain ⟨b, e, k, s, m⟩ := d
  cases m with
  | none => exact if_pos rfl
  | some q => exact if_pos rfl))))
theorem ky {b : Int} {e : Option Int} {k s : Str} {m t : Int} {y : Str} {u : Bool} : valW (kvD ⟨b, e, k, s, some (m, t, y, u)⟩) (.inr "said") = some (.str y) := val_miss (by decide +kernel) (val_miss (by decide +kernel) (val_miss (by decide +kernel) (val_miss (by decide +kernel) (val_miss (by decide +kernel) (val_miss (by decide +kernel) (if_pos rfl))))))
theorem ku {b : Int} {e : Option Int} {k s : Str} {m t : Int} {y : Str} {u : Bool} : valW (kvD ⟨b, e, k, s, some (m, t, y, u)⟩) (.inr "stands") = some (.bl u) := val_miss (by decide +kernel) (val_miss (by decide +kernel) (val_miss (by decide +kernel) (val_miss (by decide +kernel) (val_miss (by decide +kernel) (val_miss (by decide +kernel) (val_miss (by decide +kernel) (if_pos rfl)))))))
theorem pe (d : De) (i : Int) : putW (kvD d) (.inr "end") (.int i) = kvD { d with e := some i } := (putW_miss (by decide +kernel)).trans (congrArg _ putW_hit)
/-- moment, turn, said, stands -/
theorem pm4 {b : Int} {e : Option Int} {k s : Str} (m t : Int) (y : Str) (u : Bool) : putW (putW (putW (putW (kvD ⟨b, e, k, s, none⟩) (.inr "moment") (.int m)) (.inr "turn") (.int t)) (.inr "said") (.str y)) (.inr "stands") (.bl u) = kvD ⟨b, e, k, s, some (m, t, y, u)⟩ := by
  show putW (putW (putW (putW ([(.inr "begin", .int b), (.inr "end", oI e), (.inr "key", .str k), (.inr "sort", .str s), (.inr "moment", .non)] : List (Key × W)) (.inr "moment") (.int m)) (.inr "turn") (.int t)) (.inr "said") (.str y)) (.inr "stands") (.bl u) = _
  repeat first
    | rw [putW_miss (k := .inr "moment") (by decide +kernel)]
    | rw [putW_miss (k := .inr "turn") (by decide +kernel)]
    | rw [putW_miss (k := .inr "said") (by decide +kernel)]
    | rw [putW_miss (k := .inr "stands") (by decide +kernel)]
    | rw [putW_hit]
    | rw [putW_nil]
  rfl
theorem py {b : Int} {e : Option Int} {k s : Str} {m t : Int} {y : Str} {u : Bool} (y' : Str) : putW (kvD ⟨b, e, k, s, some (m, t, y, u)⟩) (.inr "said") (.str y') = kvD ⟨b, e, k, s, some (m, t, y', u)⟩ := by
  show putW ([(.inr "begin", .int b), (.inr "end", oI e), (.inr "key", .str k), (.inr "sort", .str s), (.inr "moment", .int m), (.inr "turn", .int t), (.inr "said", .str y), (.inr "stands", .bl u)] : List (Key × W)) (.inr "said") (.str y') = _
  repeat first
    | rw [putW_miss (k := .inr "said") (by decide +kernel)]
    | rw [putW_hit]
  rfl
theorem pu {b : Int} {e : Option Int} {k s : Str} {m t : Int} {y : Str} {u : Bool} (u' : Bool) : putW (kvD ⟨b, e, k, s, some (m, t, y, u)⟩) (.inr "stands") (.bl u') = kvD ⟨b, e, k, s, some (m, t, y, u')⟩ := by
  show putW ([(.inr "begin", .int b), (.inr "end", oI e), (.inr "key", .str k), (.inr "sort", .str s), (.inr "moment", .int m), (.inr "turn", .int t), (.inr "said", .str y), (.inr "stands", .bl u)] : List (Key × W)) (.inr "stands") (.bl u') = _
  repeat first
    | rw [putW_miss (k := .inr "stands") (by decide +kernel)]
    | rw [putW_hit]
  rfl
theorem Ext.own {p : Addr} {mu mu' : Mu} {c : C} (e : Ext mu mu') (h : mu p = none) : Ext mu (setM mu' p c) := fun a d ha => by
  rw [setM_ne (fun z => by rw [z, h] at ha; cases ha)]
  exact e a d ha
def answers5 : List Str := ["done", "refused", "again", "none", "there"]
structure DeOk (d : De) (n : Nat) : Prop where
  b : 0 ≤ d.b ∧ d.b ≤ n
  e : ∀ i, d.e = some i → 0 ≤ i ∧ i ≤ n
  k : NmOk d.k
  s : d.s ∈ sorts3
  y : ∀ m t y u, d.m = some (m, t, y, u) → y ∈ answers5
  em : d.e ≠ none → d.m ≠ none
def saidW (d : De) : W := match d.m with | none => .non | some q => .str q.2.2.1
def toldW (d : De) : W := .tup [.int d.b, oI d.e, .str d.k, .str d.s, (match d.e with | none => .non | some _ => saidW d)]
def Deeds (mu : Mu) (Dd : Addr) (ds : List (Addr × De)) : Prop := mu Dd = some (.lst (ds.map fun q => .m q.1)) ∧ ∀ q ∈ ds, mu q.1 = some (.dic (kvD q.2))
theorem Deeds.ext {mu mu' : Mu} {Dd : Addr} {ds : List (Addr × De)} (h : Deeds mu Dd ds) (e : Ext mu mu') : Deeds mu' Dd ds := ⟨e _ _ h.1, fun q hq => e _ _ (h.2 q hq)⟩
section
variable {P : Program} {w : World} {K : PySem.W.Frag} {mg : Str → Option Value} {base : Heap}
abbrev s_Lbehind : Stmt := top 24
theorem sc_Lbehind : FnScope ["_law_sort", "_law_is_up"] ["_law_sort", "_law_is_up"] (defScope s_Lbehind) := ⟨rfl, rfl, rfl, by decide +kernel, rfl, by decide +kernel, by decide +kernel⟩
def S_behind : SpW := fun ws mu P => ∃ z u, ws = [.str z, .bl u] ∧ ∀ b, P (.bl b) mu
theorem d_Lbehind (D : Dfn K mg "_law_behind" s_Lbehind ["_law_sort", "_law_is_up"]) : DefOk P w K mg base "_law_behind" ["_law_sort", "_law_is_up"] 1 S_behind := by
  refine dfnOk D sc_Lbehind (fun ws mu P ⟨_, _, e, _⟩ => by rw [e]; rfl) (fun f cdv A outer s H E hr ws mu Pt ⟨z, u, e, h⟩ => ?_)
  subst e
  refine sss_cons (ss_ret (se_or (se_cmp op_eq eqT_w (nomark _) (se_var (i := 0) rfl (se_str ⟨_, _, rfl, rfl, fun b hb => ?_⟩)))))
  refine bW_b (fun _ => h _) fun _ => ?_
  refine se_one (se_and (se_cmp op_eq eqT_w (nomark _) (se_var (i := 0) rfl (se_str ⟨_, _, rfl, rfl, fun b2 hb2 => ?_⟩))))
  exact bW_b (fun _ => se_one (se_var (i := 1) rfl (h _))) fun _ => h _
abbrev s_Ltold : Stmt := top 26
theorem sc_Ltold : FnScope ["_law_deeds", "_law_found", "_law_one"] ["_law_deeds"] (defScope s_Ltold) := ⟨rfl, rfl, rfl, by decide +kernel, rfl, by decide +kernel, by decide +kernel⟩
def S_told : SpW := fun ws mu P => ∃ Dd ds n, ws = [.m Dd] ∧ Deeds mu Dd ds ∧ ds.length ≤ 8 ∧ (∀ q ∈ ds, DeOk q.2 n) ∧ ∀ mu', Ext mu mu' → P (.tup (ds.map fun q => toldW q.2)) mu'
theorem d_Ltold (D : Dfn K mg "_law_told" s_Ltold ["_law_deeds"]) (B : Bl mg) : DefOk P w K mg base "_law_told" ["_law_deeds"] 1 S_told := by
  refine dfnOk D sc_Ltold (fun ws mu P ⟨_, _, _, e, _⟩ => by rw [e]; rfl) (fun f cdv A outer s H E hr ws mu Pt ⟨Dd, ds, n, e, dd, l8, ok, h⟩ => ?_)
  subst e
  refine sss_cons (ss_asg (se_lst (sa_nil ⟨by decide, fun F nF => ?_⟩)))
  refine sg_name (i := 1) ?_ sc_Ltold.nd
  refine sss_cons ?_
  refine ss_for PassesOwn.never rfl (by intro _; rfl) ?_
  refine si_lst (se_var (i := 0) rfl ⟨_, Ext.refl.set nF _ _ dd.1, ?_⟩)
  refine ⟨fun i G' mu' => ∃ y, G' = [some (.m Dd), some (.m F), y] ∧ Ext mu mu' ∧ mu' F = some (.lst ((ds.take i).map fun q => toldW q.2)), ⟨none, rfl, Ext.refl.set nF, setM_same⟩, fun i G' mu' _ ⟨y, eG, ex, hF⟩ => ex _ _ dd.1, fun i u G' mu' hu ⟨y, eG, ex, hF⟩ => ?_, fun G' mu' ⟨y, eG, ex, hF⟩ => ?_⟩
  · subst eG
    rw [List.getElem?_map] at hu
    cases ht : ds[i]? with
    | none => rw [ht] at hu; cases hu
    | some q =>
    rw [ht] at hu
    cases hu
    have qm := List.mem_of_getElem? ht
    have hd := ex _ _ (dd.2 q qm)
    have i8 : i < 8 := Nat.lt_of_lt_of_le (List.getElem?_eq_some_iff.mp ht).1 l8
    have okq := ok q qm
    refine sg_name (i := 2) ?_ sc_Ltold.nd
    have dg : ∀ {k : String} {x : W} {PP : PW1}, valW (kvD q.2) (.inr k) = some x → PP x mu' → dgW (.m q.1) (.str k) mu' PP := fun e q => ⟨_, _, _, _, rfl, hd, rfl, e, q⟩
    refine sss_cons (ss_expr (se_append (se_var (i := 1) rfl ⟨⟨_, hF⟩, sa_one (se_tup ?_)⟩)))
    refine sa_cons (se_dget (hu_of hr) (se_var (i := 2) rfl (se_str (dg (kb _) ?_))))
    refine sa_cons (se_dget (hu_of hr) (se_var (i := 2) rfl (se_str (dg (ke _) ?_))))
    refine sa_cons (se_dget (hu_of hr) (se_var (i := 2) rfl (se_str (dg (kk _) ?_))))
    refine sa_cons (se_dget (hu_of hr) (se_var (i := 2) rfl (se_str (dg (ks _) ?_))))
    refine sa_cons (se_if (st_cmp op_isN isN_w (nomark _) (se_dget (hu_of hr) (se_var (i := 2) rfl (se_str (dg (ke _) (se_non ⟨rfl, fun b hb => ?_⟩)))))))
    have fin : ∀ v, v = (match q.2.e with | none => W.non | some _ => saidW q.2) → 5 ≤ sizeLine ∧ appW (.m F) [.tup [.int q.2.b, oI q.2.e, .str q.2.k, .str q.2.s, v]] mu' fun _ mu2 => SSs (cxOf CX0 P w K mg base ["_law_deeds", "_law_found", "_law_one"] "_law_told" (defScope s_Ltold) f cdv A outer s H E).nox [] [some (.m Dd), some (.m F), some (.m q.1)] mu2 { nx := fun G'' mu'' => ∃ y, G'' = [some (.m Dd), some (.m F), y] ∧ Ext mu mu'' ∧ mu'' F = some (.lst ((ds.take (i + 1)).map fun q => toldW q.2)), rt := Pt, bk := fun G' mu' => SSs (cxOf CX0 P w K mg base ["_law_deeds", "_law_found", "_law_one"] "_law_told" (defScope s_Ltold) f cdv A outer s H E).nox ((defBody s_Ltold).drop 2) G' mu' { nx := fun _ mu' => Pt .non mu', rt := Pt }, ct := fun G'' mu'' => ∃ y, G'' = [some (.m Dd), some (.m F), y] ∧ Ext mu mu'' ∧ mu'' F = some (.lst ((ds.take (i + 1)).map fun q => toldW q.2)) } := fun v hv => by
      refine ⟨by decide, _, hF, Nat.lt_of_le_of_lt (by rw [List.length_map, List.length_take]; omega : _ ≤ 8) (by decide), sss_nil ⟨_, rfl, Ext.own ex nF, ?_⟩⟩
      rw [setM_same, List.take_add_one, ht, List.map_append, hv]
      rfl
    refine if2_split (fun q1 => se_non (sa_nil ?_)) fun q1 => ?_
    · have : q.2.e = none := by
        rw [hb] at q1
        cases hq : q.2.e with
        | none => rfl
        | some z => rw [hq] at q1; cases q1
      exact fin _ (by rw [this])
    · obtain ⟨z, hz⟩ : ∃ z, q.2.e = some z := by
        rw [hb] at q1
        cases hq : q.2.e with
        | none => rw [hq] at q1; cases q1
        | some z => exact ⟨z, rfl⟩
      have mn := okq.em (by rw [hz]; simp)
      obtain ⟨a, d⟩ := q
      obtain ⟨b, e, k, s, m⟩ := d
      cases m with
      | none => exact absurd rfl mn
      | some y4 =>
        obtain ⟨m, t, y, u⟩ := y4
        refine se_dget (hu_of hr) (se_var (i := 2) rfl (se_str (dg ky (sa_nil ?_))))
        exact fin _ (by rw [hz]; rfl)
  · subst eG
    rw [List.length_map, List.take_length] at hF
    exact sss_cons (ss_ret (se_tupleC (se_var (i := 1) rfl ⟨_, hF, h _ ex⟩) B.tuple))
end
end K1
set_option Elab.async false
set_option linter.all false
set_option maxRecDepth 100000
/-! k70: what a table answers. -/
namespace K1
open PySem L2 Dv
section
variable {P : Program} {w : World} {K : PySem.W.Frag} {mg : Str → Option Value} {base : Heap}
abbrev s_Lanswer : Stmt := top 23
theorem sc_Lanswer : FnScope ["_law_sort", "_law_is_up"] ["_law_sort", "_law_is_up"] (defScope s_Lanswer) := ⟨rfl, rfl, rfl, by decide +kernel, rfl, by decide +kernel, by decide +kernel⟩
def S_answer : SpW := fun ws mu P => ∃ z u, ws = [.str z, .bl u] ∧ z ∈ sorts3 ∧ ∀ y mu', y ∈ answers5 → Ext mu mu' → P (.str y) mu'
set_option maxHeartbeats 400000 in
theorem d_Lanswer (D : Dfn K mg "_law_answer" s_Lanswer ["_law_sort", "_law_is_up"]) (B : Bl mg) : DefOk P w K mg base "_law_answer" ["_law_sort", "_law_is_up"] 1 S_answer := by
  refine dfnOk D sc_Lanswer (fun ws mu P ⟨_, _, e, _⟩ => by rw [e]; rfl) (fun f cdv A outer s H E hr ws mu Pt ⟨z, u, e, zs, h⟩ => ?_)
  subst e
  refine sss_cons ?_
  refine ss_ret ?_
  refine se_ix ?_
  refine se_dget ?hu ?_
  case hu => exact hu_of hr
  refine se_disp ?_ ?_ ?_ ?_ ?_
  case refine_2 => rfl
  case refine_3 => rfl
  case refine_4 => exact List.cons_ne_nil _ _
  case refine_5 => show 3 ≤ 15; decide
  unfold SPs
  refine se_str (se_tup (sa_cons (se_str (sa_cons (se_str (sa_nil ⟨by show 2 ≤ sizeLine; decide, ?_⟩))))))
  unfold SPs
  refine se_str (se_tup (sa_cons (se_str (sa_cons (se_str (sa_nil ⟨by show 2 ≤ sizeLine; decide, ?_⟩))))))
  unfold SPs
  refine se_str (se_tup (sa_cons (se_str (sa_cons (se_str (sa_nil ⟨by show 2 ≤ sizeLine; decide, ?_⟩))))))
  unfold SPs
  refine ⟨[(.inr "put", .tup [.str "done", .str "refused"]), (.inr "drop", .tup [.str "none", .str "done"]), (.inr "look", .tup [.str "none", .str "there"])], rfl, by decide +kernel, by decide, fun p np => ?_⟩
  refine se_var (i := 0) rfl ?_
  have m1 : ("done" : Str) ∈ answers5 := by simp [answers5]
  have m2 : ("refused" : Str) ∈ answers5 := by simp [answers5]
  have m4 : ("none" : Str) ∈ answers5 := by simp [answers5]
  have m5 : ("there" : Str) ∈ answers5 := by simp [answers5]
  have e0 : Ext mu (setM mu p (.dic [(.inr "put", .tup [.str "done", .str "refused"]), (.inr "drop", .tup [.str "none", .str "done"]), (.inr "look", .tup [.str "none", .str "there"])])) := Ext.refl.set np
  simp only [sorts3, List.mem_cons, List.not_mem_nil, or_false] at zs
  rcases zs with rfl | rfl | rfl
  · refine ⟨p, _, _, _, rfl, setM_same, rfl, val_hit, ?_⟩
    refine se_intC (se_var (i := 1) rfl ?_) B.int
    cases u with
    | true => exact ⟨_, atI_nat' (i := 1) rfl, h _ _ m2 e0⟩
    | false => exact ⟨_, atI_nat' (i := 0) rfl, h _ _ m1 e0⟩
  · refine ⟨p, _, _, _, rfl, setM_same, rfl, val_miss (by decide +kernel) val_hit, ?_⟩
    refine se_intC (se_var (i := 1) rfl ?_) B.int
    cases u with
    | true => exact ⟨_, atI_nat' (i := 1) rfl, h _ _ m1 e0⟩
    | false => exact ⟨_, atI_nat' (i := 0) rfl, h _ _ m4 e0⟩
  · refine ⟨p, _, _, _, rfl, setM_same, rfl, val_miss (by decide +kernel) (val_miss (by decide +kernel) val_hit), ?_⟩
    refine se_intC (se_var (i := 1) rfl ?_) B.int
    cases u with
    | true => exact ⟨_, atI_nat' (i := 1) rfl, h _ _ m5 e0⟩
    | false => exact ⟨_, atI_nat' (i := 0) rfl, h _ _ m4 e0⟩
end
end K1
set_option Elab.async false
set_option linter.all false
set_option maxRecDepth 100000
/-! k70: lists of numbers beside the empty one. -/
namespace K1
open PySem L2 Dv
theorem ints_pls : ∀ ns : List Int, plsW (ns.map W.int) = true
  | [] => rfl
  | n :: ns => by simp [plsW, plW, ints_pls ns]
theorem ints_lay : ∀ ns : List Int, PyData.canLayAll0 (dats (ns.map W.int)) = true
  | [] => rfl
  | n :: ns => by simp [dats, dat, PyData.canLayAll0, PyData.canLay0, ints_lay ns]
theorem ints_dp : ∀ ns : List Int, PyData.depthAll (dats (ns.map W.int)) = 0
  | [] => rfl
  | n :: ns => by simp [dats, dat, PyData.depthAll, PyData.depth, ints_dp ns]
theorem ints_shaped {ns : List Int} (h : ns.length ≤ 1000) : SeqAt.shaped (.list (dats (ns.map W.int))) = true := by
  unfold SeqAt.shaped
  have e : (dats (ns.map W.int)).length = ns.length := by rw [dats_mapD, List.length_map, List.length_map]
  have : (1000 : Nat) ≤ sizeLine := by decide
  simp [PyData.canLay0, PyData.depth, ints_lay, ints_dp, e]
  try omega
theorem eqv_nil : ∀ ns : List Int, PyData.eqv (.list (dats (ns.map W.int))) (.list []) = decide (ns = [])
  | [] => by simp [dats, PyData.eqv, PyData.eqvAll]
  | n :: ns => by simp [dats, PyData.eqv, PyData.eqvAll]
theorem asD_ints {mu : Mu} {a : Addr} {ns : List Int} (h : mu a = some (.lst (ns.map W.int))) : asD mu (.m a) = some (.list (dats (ns.map W.int))) := by
  show (match mu a with | some (.lst ws) => if plsW ws = true then some (PyData.list (dats ws)) else none | _ => none) = _
  rw [h]
  exact if_pos (ints_pls ns)
theorem eq_none {mu : Mu} {a b : Addr} {ns : List Int} {P : PW1} (ha : mu a = some (.lst (ns.map W.int))) (hb : mu b = some (.lst [])) (hl : ns.length ≤ 1000) (h : P (.bl (decide (ns = []))) mu) : eqW (.m a) (.m b) mu P := by
  refine ⟨_, .list [], asD_ints ha, asD_ints (ns := []) hb, ints_shaped hl, ints_shaped (ns := []) (by decide), ?_⟩
  rw [eqv_nil]
  exact h
theorem ne_none {mu : Mu} {a b : Addr} {ns : List Int} {P : PW1} (ha : mu a = some (.lst (ns.map W.int))) (hb : mu b = some (.lst [])) (hl : ns.length ≤ 1000) (h : P (.bl (!decide (ns = []))) mu) : neW (.m a) (.m b) mu P := by
  refine ⟨_, .list [], asD_ints ha, asD_ints (ns := []) hb, ints_shaped hl, ints_shaped (ns := []) (by decide), ?_⟩
  rw [eqv_nil]
  exact h
end K1
set_option Elab.async false
set_option linter.all false
set_option maxRecDepth 100000
/-! what holds behind, made weaker. -/
namespace Dv
open PySem L2
section
variable {X : Cx} {e : Expr} {st : Stmt} {sts : List Stmt} {G : Gs} {mu : Mu}
theorem se_post {P : PW1} (N : PW1) (h : SE X e G mu N) (k : ∀ w mu1, N w mu1 → P w mu1) : SE X e G mu P := fun σ H Q d m kk => h σ H Q d m fun v w mu1 H1 n c dv m1 => kk v w mu1 H1 (k w mu1 n) c dv m1
theorem st_post {P : Bool → Mu → Prop} (N : Bool → Mu → Prop) (h : ST X e G mu N) (k : ∀ b mu1, N b mu1 → P b mu1) : ST X e G mu P := fun σ H Q d m kk => h σ H Q d m fun b mu1 H1 n c m1 => kk b mu1 H1 (k b mu1 n) c m1
theorem ss_post {E : WE} (N : Gs → Mu → Prop) (h : SS X st G mu { E with nx := N }) (k : ∀ G1 mu1, N G1 mu1 → E.nx G1 mu1) : SS X st G mu E := fun σ H D d m kk => h σ H D d m ⟨fun σ1 G1 mu1 H1 n c d1 m1 => kk.nx σ1 G1 mu1 H1 (k G1 mu1 n) c d1 m1, kk.rt, kk.bk, kk.ct⟩
theorem sss_post {E : WE} (N : Gs → Mu → Prop) (h : SSs X sts G mu { E with nx := N }) (k : ∀ G1 mu1, N G1 mu1 → E.nx G1 mu1) : SSs X sts G mu E := fun σ H D d m kk => h σ H D d m ⟨fun σ1 G1 mu1 H1 n c d1 m1 => kk.nx σ1 G1 mu1 H1 (k G1 mu1 n) c d1 m1, kk.rt, kk.bk, kk.ct⟩
end
/-- parts of statements -/
def forB : Stmt → List Stmt
  | .For _ _ b _ _ => b
  | _ => []
def ifT : Stmt → List Stmt
  | .If _ t _ _ => t
  | _ => []
def ifE : Stmt → List Stmt
  | .If _ _ u _ => u
  | _ => []
def stN (l : List Stmt) (n : Nat) : Stmt := match l.drop n with
  | s :: _ => s
  | [] => .Pass default
end Dv
set_option Elab.async false
set_option linter.all false
set_option maxRecDepth 100000
/-! k70: the story: its state, a new deed. -/
namespace K1
open PySem L2 Dv
def cellsS (Dd Go Ta : Addr) (ds : List (Addr × De)) (gs : List Int) (tb : List (Key × W)) : List (Addr × C) := (Dd, .lst (ds.map fun q => .m q.1)) :: (Go, .lst (gs.map W.int)) :: (Ta, .dic tb) :: ds.map fun q => (q.1, C.dic (kvD q.2))
structure St (mu0 mu : Mu) (p : Addr) (c : Nat) (Dd Go Ta : Addr) (ds : List (Addr × De)) (gs : List Int) (tb : List (Key × W)) (clk : Int) (n : Nat) : Prop where
  lv : Live mu0 mu p c (cellsS Dd Go Ta ds gs tb)
  ok : ∀ q ∈ ds, DeOk q.2 (8 * n)
  ck : 0 ≤ clk ∧ clk ≤ (8 * n : Nat)
  gl : gs.length ≤ ds.length
  gi : ∀ g ∈ gs, 0 ≤ g ∧ g < (ds.length : Int)
  tn : (tb.map (·.1)).Nodup
  tl : tb.length ≤ n
  tv : ∀ k v, valW tb k = some v → ∃ u, v = .bl u
  d8 : ds.length ≤ 8
theorem DeOk.mono {d : De} {n m : Nat} (h : DeOk d n) (l : n ≤ m) : DeOk d m := ⟨⟨h.b.1, by have := h.b.2; omega⟩, fun i e => ⟨(h.e i e).1, by have := (h.e i e).2; omega⟩, h.k, h.s, h.y, h.em⟩
section
variable {mu0 mu mu' : Mu} {p Dd Go Ta : Addr} {c c' n n' : Nat} {ds : List (Addr × De)} {gs : List Int} {tb : List (Key × W)} {clk : Int}
theorem St.deeds (S : St mu0 mu p c Dd Go Ta ds gs tb clk n) : mu Dd = some (.lst (ds.map fun q => .m q.1)) := S.lv.at 0 rfl
theorem St.going (S : St mu0 mu p c Dd Go Ta ds gs tb clk n) : mu Go = some (.lst (gs.map W.int)) := S.lv.at 1 rfl
theorem St.table (S : St mu0 mu p c Dd Go Ta ds gs tb clk n) : mu Ta = some (.dic tb) := S.lv.at 2 rfl
theorem St.deed (S : St mu0 mu p c Dd Go Ta ds gs tb clk n) {q : Addr × De} (h : q ∈ ds) : mu q.1 = some (.dic (kvD q.2)) := (S.lv.cell (q.1, .dic (kvD q.2)) (List.mem_cons_of_mem _ (List.mem_cons_of_mem _ (List.mem_cons_of_mem _ (List.mem_map.mpr ⟨q, h, rfl⟩))))).1
theorem St.step (S : St mu0 mu p c Dd Go Ta ds gs tb clk n) (e : ExtBut p mu mu') (j : JarOk mu' p c') : St mu0 mu' p c' Dd Go Ta ds gs tb clk n := ⟨S.lv.step e j, S.ok, S.ck, S.gl, S.gi, S.tn, S.tl, S.tv, S.d8⟩
theorem St.ext (S : St mu0 mu p c Dd Go Ta ds gs tb clk n) (e : Ext mu mu') : St mu0 mu' p c Dd Go Ta ds gs tb clk n := S.step (Ext.but e) (S.lv.jar.ext e)
theorem St.mono (S : St mu0 mu p c Dd Go Ta ds gs tb clk n) (hc : c ≤ c') (hn : n ≤ n') : St mu0 mu p c' Dd Go Ta ds gs tb clk n' := ⟨S.lv.mono hc, fun q hq => (S.ok q hq).mono (by omega), ⟨S.ck.1, by have := S.ck.2; omega⟩, S.gl, S.gi, S.tn, by have := S.tl; omega, S.tv, S.d8⟩
theorem St.tick (S : St mu0 mu p c Dd Go Ta ds gs tb clk n) {k : Int} (h0 : 0 ≤ k) (h1 : k ≤ 8) : St mu0 mu p c Dd Go Ta ds gs tb (clk + k) (n + 1) := ⟨S.lv, fun q hq => (S.ok q hq).mono (by omega), ⟨by have := S.ck.1; omega, by have := S.ck.2; omega⟩, S.gl, S.gi, S.tn, by have := S.tl; omega, S.tv, S.d8⟩
end
def N_Lstory : List Str := ["_law_jar_here", "_law_keys", "_law_many", "_law_deeds", "_law_going", "_law_table", "_law_clock", "_law_turn", "_law_sort", "_law_number", "_law_one", "_law_is_up"]
abbrev s_Lstory : Stmt := top 25
theorem sc_Lstory : FnScope N_Lstory ["_law_jar_here", "_law_keys", "_law_many"] (defScope s_Lstory) := ⟨rfl, rfl, rfl, by decide +kernel, rfl, by decide +kernel, by decide +kernel⟩
/-- the if of a turn -/
abbrev ifS : Stmt := stN (forB (stN (defBody s_Lstory) 1)) 0
section
variable {P : Program} {w : World} {K : PySem.W.Frag} {mg : Str → Option Value} {base : Heap}
theorem of5 {mu : Mu} {p q : Addr} {c : Nat} {PP : PW1} (jar : JarOk mu p c) (hc : c < 200000) (nq : q ≠ p) (hq : mu q = some (.lst [.int 0, .int 0, .int 0, .int 1, .int 7]))
    (h : ∀ k mu', 0 ≤ k → k ≤ 7 → JarOk mu' p (c + 1) → ExtBut p mu mu' → PP (.int k) mu') : S_of [.m p, .m q] mu PP := by
  refine ⟨p, _, _, c, rfl, .inr (.inl ⟨q, rfl, nq, hq⟩), by simp, by simp, jar, hc, fun u mu' hu j e => ?_⟩
  simp only [List.mem_cons, List.not_mem_nil, or_false] at hu
  rcases hu with rfl | rfl | rfl | rfl | rfl <;> exact h _ _ (by decide) (by decide) j e
set_option maxHeartbeats 1000000 in
theorem story_new (B : Bl mg) (D_of : DOf P w K mg base) {f : Addr} {cdv : Value} {A : Around} {outer : List Env} {s : Shared} {H : Hp} {E0 : XK} (hr : Room 3 (A.deeper (PyProof.Rows.envOfC "_law_story" (defScope s_Lstory) s.heap.objs.size f cdv)))
    {mu0 mu : Mu} {p kc Dd Go Ta : Addr} {c n : Nat} {ds : List (Addr × De)} {gs : List Int} {tb : List (Key × W)} {clk many : Int} {y7 y8 y9 y10 y11 : Option W} {ns : List Str} {E : WE}
    (S : St mu0 mu p c Dd Go Ta ds gs tb clk n) (hd : ds.length < 8) (hc : c + 10 < 200000) (hk : mu0 kc = some (.lst (stW ns))) (nk : kc ≠ p) (ns0 : ns ≠ []) (ns3 : ns.length ≤ 100) (nm : ∀ z ∈ ns, NmOk z)
    (k : ∀ y clk' ds' gs' mu', St mu0 mu' p (c + 3) Dd Go Ta ds' gs' tb clk' (n + 1) → E.nx [some (.m p), some (.m kc), some (.int many), some (.m Dd), some (.m Go), some (.m Ta), some (.int clk'), y7, y, y9, y10, y11] mu') :
    SSs (cxOf CX0 P w K mg base N_Lstory "_law_story" (defScope s_Lstory) f cdv A outer s H E0).nox (ifT ifS) [some (.m p), some (.m kc), some (.int many), some (.m Dd), some (.m Go), some (.m Ta), some (.int clk), y7, y8, y9, y10, y11] mu E := by
  -- the clock
  refine sss_cons ?_
  refine ss_asg ?_
  refine se_bin op_Add Add_w ?_
  refine se_bin op_Add Add_w ?_
  refine se_var (i := 6) rfl ?_
  refine se_int ?_
  refine se_callD D_of (hr.mono (by decide)) ?_
  refine sa_cons (se_var (i := 0) rfl (sa_cons ?_))
  refine se_lst (sa_cons (se_int (sa_cons (se_int (sa_cons (se_int (sa_cons (se_int (sa_cons (se_int (sa_nil ⟨by show 5 ≤ sizeLine; decide, fun q nq => ?_⟩)))))))))))
  have S1 := S.ext (Ext.refl.set (c := .lst [.int 0, .int 0, .int 0, .int 1, .int 7]) nq)
  refine sa_nil (of5 S1.lv.jar (by omega) (Ne.symm (S.lv.jar.ne nq)) setM_same fun r mu1 r0 r7 j1 e1 => ?_)
  have S2 := (S1.step e1 j1).tick (k := 1 + r) (by omega) (by omega)
  have ec : clk + (1 + r) = clk + 1 + r := by omega
  rw [ec] at S2
  refine sg_name (i := 6) ?_ sc_Lstory.nd
  generalize clk + 1 + r = clk2 at S2 ⊢
  -- going
  refine sss_cons ?_
  refine ss_expr ?_
  refine se_append (se_var (i := 4) rfl ⟨⟨_, S2.going⟩, sa_one ?_⟩)
  refine se_len (se_var (i := 3) rfl ⟨_, S2.deeds, ?_⟩) B.len
  rw [List.length_map]
  refine ⟨_, S2.going, by rw [List.length_map]; have := S2.gl; exact Nat.lt_of_le_of_lt (by omega : gs.length ≤ 8) (by decide), ?_⟩
  have eg : gs.map W.int ++ [W.int (ds.length : Int)] = (gs ++ [(ds.length : Int)]).map W.int := by rw [List.map_append]; rfl
  rw [eg]
  have L3 := S2.lv.put 1 rfl (.lst ((gs ++ [(ds.length : Int)]).map W.int))
  generalize setM mu1 Go (.lst ((gs ++ [(ds.length : Int)]).map W.int)) = mu2 at L3 ⊢
  -- the sort
  refine sss_cons ?_
  refine ss_asg ?_
  refine se_callD D_of (hr.mono (by decide)) ?_
  refine sa_cons (se_var (i := 0) rfl (sa_cons ?_))
  refine se_lst (sa_cons (se_str (sa_cons (se_str (sa_cons (se_str (sa_cons (se_str (sa_nil ⟨by show 4 ≤ sizeLine; decide, fun q2 nq2 => ?_⟩)))))))))
  have L4 := L3.ext (Ext.refl.set (c := .lst [.str "put", .str "put", .str "drop", .str "look"]) nq2)
  refine sa_nil ⟨p, _, _, _, rfl, .inr (.inl ⟨q2, rfl, Ne.symm (L3.jar.ne nq2), setM_same⟩), by simp, by simp, L4.jar, by omega, fun u mu3 hu j3 e3 => ?_⟩
  obtain ⟨so, rfl, hso⟩ : ∃ so, u = .str so ∧ so ∈ sorts3 := by
    simp only [List.mem_cons, List.not_mem_nil, or_false] at hu
    rcases hu with rfl | rfl | rfl | rfl
    · exact ⟨_, rfl, by simp [sorts3]⟩
    · exact ⟨_, rfl, by simp [sorts3]⟩
    · exact ⟨_, rfl, by simp [sorts3]⟩
    · exact ⟨_, rfl, by simp [sorts3]⟩
  have L5 := L4.step e3 j3
  refine sg_name (i := 8) ?_ sc_Lstory.nd
  -- the deed
  refine sss_cons ?_
  refine ss_expr ?_
  refine se_append (se_var (i := 3) rfl ⟨⟨_, L5.at 0 rfl⟩, sa_one ?_⟩)
  refine se_disp ?_ ?_ ?_ ?_ ?_
  case refine_2 => rfl
  case refine_3 => rfl
  case refine_4 => exact List.cons_ne_nil _ _
  case refine_5 => show 5 ≤ 15; decide
  unfold SPs
  refine se_str (se_var (i := 6) rfl ?_)
  unfold SPs
  refine se_str (se_non ?_)
  unfold SPs
  refine se_str ?_
  refine se_callD D_of (hr.mono (by decide)) ?_
  refine sa_cons (se_var (i := 0) rfl (sa_cons (se_var (i := 1) rfl (sa_nil ?_))))
  refine ⟨p, _, _, _, rfl, .inr (.inl ⟨kc, rfl, nk, L5.ex _ _ nk hk⟩), fun q => ns0 (List.map_eq_nil_iff.mp q), by unfold stW; rw [List.length_map]; omega, L5.jar, by omega, fun u mu4 hu j4 e4 => ?_⟩
  obtain ⟨z, hz, rfl⟩ := List.mem_map.mp hu
  have L6 := L5.step e4 j4
  unfold SPs
  refine se_str (se_var (i := 8) rfl ?_)
  unfold SPs
  refine se_str (se_non ?_)
  unfold SPs
  refine ⟨kvD ⟨clk2, none, z, so, none⟩, rfl, kvD_nd _, by show 5 ≤ 15; decide, fun a na => ?_⟩
  have L7 := L6.new na (.dic (kvD ⟨clk2, none, z, so, none⟩))
  refine ⟨_, L7.at 0 rfl, by rw [List.length_map]; exact Nat.lt_of_lt_of_le hd (by decide), ?_⟩
  have L8 := L7.put 0 rfl (.lst ((ds ++ [(a, (⟨clk2, none, z, so, none⟩ : De))]).map fun q => .m q.1))
  have ed : (ds.map fun q => W.m q.1) ++ [W.m a] = (ds ++ [(a, (⟨clk2, none, z, so, none⟩ : De))]).map fun q => .m q.1 := by rw [List.map_append]; rfl
  rw [ed]
  refine sss_nil (k _ _ (ds ++ [(a, ⟨clk2, none, z, so, none⟩)]) (gs ++ [(ds.length : Int)]) _ ⟨?_, ?_, S2.ck, ?_, ?_, S2.tn, S2.tl, S2.tv, ?_⟩)
  · have : cellsS Dd Go Ta (ds ++ [(a, (⟨clk2, none, z, so, none⟩ : De))]) (gs ++ [(ds.length : Int)]) tb = (((cellsS Dd Go Ta ds gs tb).set 1 (Go, C.lst ((gs ++ [(ds.length : Int)]).map W.int))) ++ [(a, C.dic (kvD ⟨clk2, none, z, so, none⟩))]).set 0 (Dd, C.lst ((ds ++ [(a, (⟨clk2, none, z, so, none⟩ : De))]).map fun q : Addr × De => W.m q.1)) := by
      unfold cellsS
      rw [List.map_append (f := fun q : Addr × De => (q.1, C.dic (kvD q.2)))]
      rfl
    rw [this]
    exact L8
  · intro q hq
    rcases List.mem_append.mp hq with h | h
    · exact S2.ok q h
    · rw [List.mem_singleton.mp h]
      exact ⟨S2.ck, fun i e => (by cases e), nm z hz, hso, fun m t y u e => (by cases e), fun e => absurd rfl e⟩
  · rw [List.length_append, List.length_append]
    have := S2.gl
    simp
    omega
  · intro g hg
    rw [List.length_append]
    rcases List.mem_append.mp hg with h | h
    · have := S2.gi g h
      simp
      omega
    · rw [List.mem_singleton.mp h]
      simp
      omega
  · rw [List.length_append]
    simp
    omega
end
end K1
set_option Elab.async false
set_option linter.all false
set_option maxRecDepth 100000
/-! k70: the story: a deed goes on. -/
namespace K1
open PySem L2 Dv
theorem setM_twice {mu : Mu} {a : Addr} {x y : C} : setM (setM mu a x) a y = setM mu a y := by
  funext b
  unfold setM
  by_cases e : b = a
  · rw [if_pos e, if_pos e]
  · rw [if_neg e, if_neg e, if_neg e]
theorem putW_len {k : Key} {w : W} (kvs : List (Key × W)) : (putW kvs k w).length ≤ kvs.length + 1 := by
  have := congrArg List.length (putW_keys (kvs := kvs) (k := k) (w := w))
  rw [List.length_map] at this
  rw [this]
  split <;> simp
section
variable {mu0 mu mu' : Mu} {p Dd Go Ta : Addr} {c c' n n' : Nat} {ds : List (Addr × De)} {gs : List Int} {tb : List (Key × W)} {clk : Int}
theorem map_set_fst {j : Nat} {q : Addr × De} {d' : De} (h : ds[j]? = some q) : (ds.set j (q.1, d')).map (fun q => W.m q.1) = ds.map fun q => W.m q.1 := by
  rw [List.map_set]
  have hj : (ds.map fun q => W.m q.1)[j]? = some (.m q.1) := by rw [List.getElem?_map, h]; rfl
  exact List.ext_getElem? fun i => by
    rw [List.getElem?_set]
    by_cases z : j = i
    · subst z
      rw [if_pos rfl, if_pos (List.getElem?_eq_some_iff.mp hj).1, hj]
    · rw [if_neg z]
theorem St.putD (S : St mu0 mu p c Dd Go Ta ds gs tb clk n) {j : Nat} {q : Addr × De} (h : ds[j]? = some q) {d' : De} (ok : DeOk d' (8 * n)) : St mu0 (setM mu q.1 (.dic (kvD d'))) p c Dd Go Ta (ds.set j (q.1, d')) gs tb clk n := by
  have L := S.lv.put (3 + j) (a := q.1) (x := .dic (kvD q.2)) (by
    show ((Dd, C.lst (ds.map fun q => .m q.1)) :: (Go, C.lst (gs.map W.int)) :: (Ta, C.dic tb) :: ds.map fun q => (q.1, C.dic (kvD q.2)))[3 + j]? = _
    rw [show 3 + j = j + 1 + 1 + 1 by omega, List.getElem?_cons_succ, List.getElem?_cons_succ, List.getElem?_cons_succ, List.getElem?_map, h]
    rfl) (.dic (kvD d'))
  have e : (cellsS Dd Go Ta ds gs tb).set (3 + j) (q.1, .dic (kvD d')) = cellsS Dd Go Ta (ds.set j (q.1, d')) gs tb := by
    unfold cellsS
    rw [show 3 + j = j + 1 + 1 + 1 by omega, List.set_cons_succ, List.set_cons_succ, List.set_cons_succ, map_set_fst h, List.map_set]
  rw [e] at L
  refine ⟨L, fun x hx => ?_, S.ck, by rw [List.length_set]; exact S.gl, by rw [List.length_set]; exact S.gi, S.tn, S.tl, S.tv, by rw [List.length_set]; exact S.d8⟩
  rcases List.mem_or_eq_of_mem_set hx with z | z
  · exact S.ok x z
  · rw [z]; exact ok
theorem St.putT (S : St mu0 mu p c Dd Go Ta ds gs tb clk n) (k : Key) (u : Bool) : St mu0 (setM mu Ta (.dic (putW tb k (.bl u)))) p c Dd Go Ta ds gs (putW tb k (.bl u)) clk (n + 1) := by
  have M := S.mono (Nat.le_refl c) (Nat.le_succ n)
  refine ⟨S.lv.put 2 rfl (.dic (putW tb k (.bl u))), M.ok, M.ck, S.gl, S.gi, putW_nodup S.tn, ?_, fun j v hv => ?_, S.d8⟩
  · have := putW_len tb (k := k) (w := .bl u)
    have := S.tl
    omega
  · rw [valW_put] at hv
    by_cases z : k = j
    · rw [if_pos z] at hv
      exact ⟨u, (Option.some.inj hv).symm⟩
    · rw [if_neg z] at hv
      exact S.tv j v hv
theorem St.delG (S : St mu0 mu p c Dd Go Ta ds gs tb clk n) (j : Nat) : St mu0 (setM mu Go (.lst ((gs.eraseIdx j).map W.int))) p c Dd Go Ta ds (gs.eraseIdx j) tb clk n := by
  refine ⟨S.lv.put 1 rfl (.lst ((gs.eraseIdx j).map W.int)), S.ok, S.ck, Nat.le_trans (List.eraseIdx_sublist gs j).length_le S.gl, fun g hg => S.gi g ((List.eraseIdx_sublist gs j).subset hg), S.tn, S.tl, S.tv, S.d8⟩
end
theorem int_first {g : Int} : ∀ {gs : List Int}, g ∈ gs → ∃ j : Nat, gs[j]? = some g ∧ ∀ i : Nat, i < j → gs[i]? ≠ some g
  | x :: gs, h => by
    by_cases e : x = g
    · exact ⟨0, by rw [e]; rfl, fun i hi => absurd hi (Nat.not_lt_zero i)⟩
    · rcases List.mem_cons.mp h with z | z
      · exact absurd z.symm e
      · obtain ⟨j, h1, h2⟩ := int_first z
        refine ⟨j + 1, h1, fun i hi => ?_⟩
        cases i with
        | zero => exact fun q => e (Option.some.inj q)
        | succ i => exact h2 i (by omega)
section
variable {P : Program} {w : World} {K : PySem.W.Frag} {mg : Str → Option Value} {base : Heap}
/-- the if of one that goes on -/
abbrev ifG : Stmt := stN (ifE ifS) 0
/-- by whether its moment was -/
abbrev ifM : Stmt := stN (ifT ifG) 2
set_option maxHeartbeats 1000000 in
theorem story_end (B : Bl mg) (D_of : DOf P w K mg base) {f : Addr} {cdv : Value} {A : Around} {outer : List Env} {s : Shared} {H : Hp} {E0 : XK} (hr : Room 3 (A.deeper (PyProof.Rows.envOfC "_law_story" (defScope s_Lstory) s.heap.objs.size f cdv)))
    {mu0 mu : Mu} {p kc Dd Go Ta : Addr} {c n j : Nat} {ds : List (Addr × De)} {gs : List Int} {tb : List (Key × W)} {clk many g : Int} {y7 y8 y11 : Option W} {q : Addr × De} {E : WE}
    (S : St mu0 mu p c Dd Go Ta ds gs tb clk n) (hc : c + 10 < 200000) (hg : g ∈ gs) (hq : ds[j]? = some q) (hm : q.2.m ≠ none)
    (k : ∀ clk' ds' gs' mu', St mu0 mu' p (c + 1) Dd Go Ta ds' gs' tb clk' (n + 1) → E.nx [some (.m p), some (.m kc), some (.int many), some (.m Dd), some (.m Go), some (.m Ta), some (.int clk'), y7, y8, some (.int g), some (.m q.1), y11] mu') :
    SSs (cxOf CX0 P w K mg base N_Lstory "_law_story" (defScope s_Lstory) f cdv A outer s H E0).nox (ifT ifM) [some (.m p), some (.m kc), some (.int many), some (.m Dd), some (.m Go), some (.m Ta), some (.int clk), y7, y8, some (.int g), some (.m q.1), y11] mu E := by
  refine sss_cons ?_
  refine ss_asg ?_
  refine se_bin op_Add Add_w ?_
  refine se_bin op_Add Add_w ?_
  refine se_var (i := 6) rfl ?_
  refine se_int ?_
  refine se_callD D_of (hr.mono (by decide)) ?_
  refine sa_cons (se_var (i := 0) rfl (sa_cons ?_))
  refine se_lst (sa_cons (se_int (sa_cons (se_int (sa_cons (se_int (sa_cons (se_int (sa_cons (se_int (sa_nil ⟨by show 5 ≤ sizeLine; decide, fun x nx => ?_⟩)))))))))))
  have S1 := S.ext (Ext.refl.set (c := .lst [.int 0, .int 0, .int 0, .int 1, .int 7]) nx)
  refine sa_nil (of5 S1.lv.jar (by omega) (Ne.symm (S.lv.jar.ne nx)) setM_same fun r mu1 r0 r7 j1 e1 => ?_)
  have S2 := (S1.step e1 j1).tick (k := 1 + r) (by omega) (by omega)
  have ec : clk + (1 + r) = clk + 1 + r := by omega
  rw [ec] at S2
  refine sg_name (i := 6) ?_ sc_Lstory.nd
  generalize clk + 1 + r = clk2 at S2 ⊢
  refine sss_cons ?_
  refine ss_dput ?hu ?_
  case hu => exact hu_of hr
  refine se_var (i := 6) rfl ?_
  refine se_var (i := 10) rfl ?_
  refine se_str ?_
  have qm := List.mem_of_getElem? hq
  have okq := S2.ok q qm
  refine ⟨q.1, _, _, rfl, ⟨S2.deed qm, kvD_nd _⟩, rfl, Nat.lt_of_le_of_lt (kvD_len _) (by decide), ?_⟩
  rw [pe]
  have S3 := S2.putD hq (d' := { q.2 with e := some clk2 }) ⟨okq.b, fun i e => (by cases e; exact S2.ck), okq.k, okq.s, okq.y, fun _ => hm⟩
  obtain ⟨i, hi1, hi2⟩ := int_first hg
  refine sss_cons ?_
  refine ss_expr ?_
  refine se_removeI (se_var (i := 4) rfl ⟨⟨_, S3.going⟩, sa_cons (se_var (i := 9) rfl (sa_nil ⟨Go, g, gs, i, rfl, rfl, S3.going, hi1, hi2, ?_⟩))⟩)
  exact sss_nil (k _ _ _ _ (S3.delG i))
end
end K1
set_option Elab.async false
set_option linter.all false
set_option maxRecDepth 100000
/-! k70: the story: a deed's moment. -/
namespace K1
open PySem L2 Dv
section
variable {P : Program} {w : World} {K : PySem.W.Frag} {mg : Str → Option Value} {base : Heap}
abbrev DAnswer (P : Program) (w : World) (K : PySem.W.Frag) (mg : Str → Option Value) (base : Heap) : Prop := DefOk P w K mg base "_law_answer" ["_law_sort", "_law_is_up"] 1 S_answer
abbrev DBehind (P : Program) (w : World) (K : PySem.W.Frag) (mg : Str → Option Value) (base : Heap) : Prop := DefOk P w K mg base "_law_behind" ["_law_sort", "_law_is_up"] 1 S_behind
theorem dget_of {mu : Mu} {a : Addr} {d : De} {k : String} {x : W} {P : PW1} (hd : mu a = some (.dic (kvD d))) (hv : valW (kvD d) (.inr k) = some x) (h : P x mu) : dgW (.m a) (.str k) mu P := ⟨_, _, _, _, rfl, hd, rfl, hv, h⟩
set_option maxHeartbeats 1000000 in
theorem story_go (B : Bl mg) (D_take : DTake P w K mg base) (D_ans : DAnswer P w K mg base) (D_beh : DBehind P w K mg base) {f : Addr} {cdv : Value} {A : Around} {outer : List Env} {s : Shared} {H : Hp} {E0 : XK} (hr : Room 3 (A.deeper (PyProof.Rows.envOfC "_law_story" (defScope s_Lstory) s.heap.objs.size f cdv)))
    {mu0 mu : Mu} {p kc Dd Go Ta a : Addr} {c n j : Nat} {ds : List (Addr × De)} {gs : List Int} {tb : List (Key × W)} {clk many g b t : Int} {e : Option Int} {kz so : Str} {y8 y11 : Option W} {E : WE}
    (S : St mu0 mu p c Dd Go Ta ds gs tb clk n) (hc : c + 10 < 200000) (n4 : n ≤ 100) (hq : ds[j]? = some (a, ⟨b, e, kz, so, none⟩))
    (k : ∀ y ds' tb' mu', St mu0 mu' p (c + 1) Dd Go Ta ds' gs tb' clk (n + 1) → E.nx [some (.m p), some (.m kc), some (.int many), some (.m Dd), some (.m Go), some (.m Ta), some (.int clk), some (.int t), y8, some (.int g), some (.m a), y] mu') :
    SSs (cxOf CX0 P w K mg base N_Lstory "_law_story" (defScope s_Lstory) f cdv A outer s H E0).nox (ifE ifM) [some (.m p), some (.m kc), some (.int many), some (.m Dd), some (.m Go), some (.m Ta), some (.int clk), some (.int t), y8, some (.int g), some (.m a), y11] mu E := by
  have qm := List.mem_of_getElem? hq
  have hd := S.deed qm
  have okq := S.ok _ qm
  have sl : 100 < sizeLine := by decide
  -- is it up
  refine sss_cons ?_
  refine ss_asg ?_
  refine se_get2 ?hu ?_
  case hu => exact hu_of hr
  refine se_var (i := 5) rfl ⟨Ta, tb, rfl, S.table, ?_⟩
  refine se_dget ?hu ?_
  case hu => exact hu_of hr
  refine se_var (i := 10) rfl (se_str (dget_of hd (kk _) (se_bl ⟨tb, _, S.table, rfl, ?_⟩)))
  obtain ⟨u, hu⟩ : ∃ u, (valW tb (.inr kz)).getD (.bl false) = .bl u := by
    cases hv : valW tb (.inr kz) with
    | none => exact ⟨false, rfl⟩
    | some v =>
      obtain ⟨u, rfl⟩ := S.tv _ _ hv
      exact ⟨u, rfl⟩
  show SG _ _ ((valW tb (.inr kz)).getD (.bl false)) _ _ _
  rw [hu]
  refine sg_name (i := 11) ?_ sc_Lstory.nd
  -- moment, turn
  refine sss_cons ?_
  refine ss_asg ?_
  refine se_tup (sa_cons (se_var (i := 6) rfl (sa_cons (se_var (i := 7) rfl (sa_nil ⟨by show 2 ≤ sizeLine; decide, ?_⟩)))))
  refine sg_tup ?_
  refine sgs_cons ?_
  refine sg_dput ?hu ?_
  case hu => exact hu_of hr
  refine se_var (i := 10) rfl (se_str ⟨a, _, _, rfl, ⟨hd, kvD_nd _⟩, rfl, Nat.lt_of_le_of_lt (kvD_len _) (by decide), ?_⟩)
  refine sgs_cons ?_
  refine sg_dput ?hu ?_
  case hu => exact hu_of hr
  have l1 := kvD_len ⟨b, e, kz, so, none⟩
  have l2 := putW_len (kvD ⟨b, e, kz, so, none⟩) (k := .inr "moment") (w := .int clk)
  have n2 := putW_nodup (k := .inr "moment") (w := .int clk) (kvD_nd ⟨b, e, kz, so, none⟩)
  refine se_var (i := 10) rfl (se_str ⟨a, _, _, rfl, ⟨setM_same, n2⟩, rfl, Nat.lt_of_le_of_lt (Nat.le_trans l2 (Nat.add_le_add_right l1 1)) (by decide), ?_⟩)
  rw [setM_set]
  refine sgs_nil ?_
  have l3 := putW_len (putW (kvD ⟨b, e, kz, so, none⟩) (.inr "moment") (.int clk)) (k := .inr "turn") (w := .int t)
  have n3 := putW_nodup (k := .inr "turn") (w := .int t) n2
  -- said, stands
  refine sss_cons ?_
  refine ss_asg ?_
  refine se_tup (sa_cons (se_str (sa_cons (se_var (i := 11) rfl (sa_nil ⟨by show 2 ≤ sizeLine; decide, ?_⟩)))))
  refine sg_tup ?_
  refine sgs_cons ?_
  refine sg_dput ?hu ?_
  case hu => exact hu_of hr
  refine se_var (i := 10) rfl (se_str ⟨a, _, _, rfl, ⟨setM_same, n3⟩, rfl, Nat.lt_of_le_of_lt (Nat.le_trans l3 (Nat.add_le_add_right (Nat.le_trans l2 (Nat.add_le_add_right l1 1)) 1)) (by decide), ?_⟩)
  rw [setM_set]
  have l4 := putW_len (putW (putW (kvD ⟨b, e, kz, so, none⟩) (.inr "moment") (.int clk)) (.inr "turn") (.int t)) (k := .inr "said") (w := .str "again")
  have n4 := putW_nodup (k := .inr "said") (w := .str "again") n3
  refine sgs_cons ?_
  refine sg_dput ?hu ?_
  case hu => exact hu_of hr
  refine se_var (i := 10) rfl (se_str ⟨a, _, _, rfl, ⟨setM_same, n4⟩, rfl, Nat.lt_of_le_of_lt (Nat.le_trans l4 (Nat.add_le_add_right (Nat.le_trans l3 (Nat.add_le_add_right (Nat.le_trans l2 (Nat.add_le_add_right l1 1)) 1)) 1)) (by decide), ?_⟩)
  rw [setM_set, pm4]
  refine sgs_nil ?_
  have ag : ("again" : Str) ∈ answers5 := by simp [answers5]
  have okD : ∀ y u, y ∈ answers5 → DeOk ⟨b, e, kz, so, some (clk, t, y, u)⟩ (8 * n) := fun y u hy => ⟨okq.b, okq.e, okq.k, okq.s, fun m t' y' u' h => (by cases h; exact hy), fun _ => (by simp)⟩
  have S1 := S.putD hq (d' := ⟨b, e, kz, so, some (clk, t, "again", u)⟩) (okD _ _ ag)
  have jl : j < ds.length := (List.getElem?_eq_some_iff.mp hq).1
  have hs : ∀ d' : De, (ds.set j (a, d'))[j]? = some (a, d') := fun d' => by rw [List.getElem?_set, if_pos rfl, if_pos jl]
  have ss : ∀ d' d'' : De, (ds.set j (a, d')).set j (a, d'') = ds.set j (a, d'') := fun d' d'' => List.set_set ..
  generalize setM mu a (.dic (kvD ⟨b, e, kz, so, some (clk, t, "again", u)⟩)) = mu1 at S1 ⊢
  -- given up or not
  refine sss_cons ?_
  refine ss_post (fun G1 mu2 => ∃ y' u', G1 = [some (.m p), some (.m kc), some (.int many), some (.m Dd), some (.m Go), some (.m Ta), some (.int clk), some (.int t), y8, some (.int g), some (.m a), some (.bl u)] ∧ St mu0 mu2 p (c + 1) Dd Go Ta (ds.set j (a, ⟨b, e, kz, so, some (clk, t, y', u')⟩)) gs tb clk n) ?_ ?_
  · refine ss_if ?_
    refine st_cmp op_gt cmpN_w (nomark _) ?_
    refine se_callD D_take (hr.mono (by decide)) ?_
    refine sa_cons (se_var (i := 0) rfl (sa_cons (se_int (sa_nil ?_))))
    refine ⟨p, 7, _, rfl, by decide, by decide, S1.lv.jar, by omega, fun z mu2 z0 z1 j2 e2 => ?_⟩
    have S2 := S1.step e2 j2
    refine se_int ⟨_, _, rfl, rfl, fun b2 hb2 => ?_⟩
    refine if2_split (fun _ => ?_) fun _ => sss_nil ⟨_, _, rfl, S2⟩
    have hd2 := S2.deed (List.mem_of_getElem? (hs _))
    refine sss_cons ?_
    refine ss_dput ?hu ?_
    case hu => exact hu_of hr
    refine se_callD D_ans (hr.mono (by decide)) ?_
    refine sa_cons ?_
    refine se_dget ?hu ?_
    case hu => exact hu_of hr
    refine se_var (i := 10) rfl (se_str (dget_of hd2 (ks _) ?_))
    refine sa_cons (se_var (i := 11) rfl (sa_nil ⟨so, u, rfl, okq.s, fun y mu3 hy e3 => ?_⟩))
    have S3 := S2.ext e3
    refine se_var (i := 10) rfl (se_str ⟨a, _, _, rfl, ⟨S3.deed (List.mem_of_getElem? (hs _)), kvD_nd _⟩, rfl, Nat.lt_of_le_of_lt (kvD_len _) (by decide), ?_⟩)
    rw [py]
    have S4 := S3.putD (hs _) (d' := ⟨b, e, kz, so, some (clk, t, y, u)⟩) (okD _ _ hy)
    rw [ss] at S4
    have hd4 := S4.deed (List.mem_of_getElem? (hs _))
    refine sss_cons ?_
    refine ss_dput ?hu ?_
    case hu => exact hu_of hr
    refine se_callD D_beh (hr.mono (by decide)) ?_
    refine sa_cons ?_
    refine se_dget ?hu ?_
    case hu => exact hu_of hr
    refine se_var (i := 10) rfl (se_str (dget_of hd4 (ks _) ?_))
    refine sa_cons (se_var (i := 11) rfl (sa_nil ⟨so, u, rfl, fun v => ?_⟩))
    refine se_var (i := 10) rfl (se_str ⟨a, _, _, rfl, ⟨hd4, kvD_nd _⟩, rfl, Nat.lt_of_le_of_lt (kvD_len _) (by decide), ?_⟩)
    rw [pu]
    have S5 := S4.putD (hs _) (d' := ⟨b, e, kz, so, some (clk, t, y, v)⟩) (okD _ _ hy)
    rw [ss] at S5
    exact sss_nil ⟨_, _, rfl, S5⟩
  · rintro G1 mu2 ⟨y', u', rfl, S2⟩
    have hd2 := S2.deed (List.mem_of_getElem? (hs _))
    refine sss_cons ?_
    refine ss_dput ?hu ?_
    case hu => exact hu_of hr
    refine se_dget ?hu ?_
    case hu => exact hu_of hr
    refine se_var (i := 10) rfl (se_str (dget_of hd2 ku ?_))
    refine se_var (i := 5) rfl ?_
    refine se_dget ?hu ?_
    case hu => exact hu_of hr
    refine se_var (i := 10) rfl (se_str (dget_of hd2 (kk _) ⟨Ta, _, _, rfl, ⟨S2.table, S2.tn⟩, rfl, Nat.lt_of_le_of_lt S2.tl (by omega), ?_⟩))
    exact sss_nil (k _ _ _ _ (S2.putT _ _))
end
end K1
set_option Elab.async false
set_option linter.all false
set_option maxRecDepth 100000
/-! k70: the story. -/
namespace K1
open PySem L2 Dv
section
variable {P : Program} {w : World} {K : PySem.W.Frag} {mg : Str → Option Value} {base : Heap}
set_option maxHeartbeats 1000000 in
theorem story_old (B : Bl mg) (D_take : DTake P w K mg base) (D_of : DOf P w K mg base) (D_ans : DAnswer P w K mg base) (D_beh : DBehind P w K mg base) {f : Addr} {cdv : Value} {A : Around} {outer : List Env} {s : Shared} {H : Hp} {E0 : XK} (hr : Room 3 (A.deeper (PyProof.Rows.envOfC "_law_story" (defScope s_Lstory) s.heap.objs.size f cdv)))
    {mu0 mu : Mu} {p kc Dd Go Ta : Addr} {c n : Nat} {ds : List (Addr × De)} {gs : List Int} {tb : List (Key × W)} {clk many t : Int} {y8 y9 y10 y11 : Option W} {E : WE}
    (S : St mu0 mu p c Dd Go Ta ds gs tb clk n) (hc : c + 20 < 200000) (n4 : n ≤ 100)
    (k : ∀ y9 y10 y11 clk' ds' gs' tb' mu', St mu0 mu' p (c + 3) Dd Go Ta ds' gs' tb' clk' (n + 1) → E.nx [some (.m p), some (.m kc), some (.int many), some (.m Dd), some (.m Go), some (.m Ta), some (.int clk'), some (.int t), y8, y9, y10, y11] mu') :
    SSs (cxOf CX0 P w K mg base N_Lstory "_law_story" (defScope s_Lstory) f cdv A outer s H E0).nox (ifE ifS) [some (.m p), some (.m kc), some (.int many), some (.m Dd), some (.m Go), some (.m Ta), some (.int clk), some (.int t), y8, y9, y10, y11] mu E := by
  refine sss_cons ?_
  refine ss_if ?_
  refine st_cmp (op_neD hr.units) ne_w (nomark _) ?_
  refine se_var (i := 4) rfl (se_lst (sa_nil ⟨by decide, fun x nx => ?_⟩))
  have S1 := S.ext (Ext.refl.set (c := .lst []) nx)
  refine ne_none S1.going setM_same (by have := S.gl; have := S.d8; omega) ?_
  generalize setM mu x (.lst []) = mu1 at S1 ⊢
  refine if2_split (fun q => ?_) fun q => sss_nil (sss_nil (k _ _ _ _ _ _ _ _ (S1.mono (by omega) (by omega))))
  have g0 : gs ≠ [] := fun z => by rw [decide_eq_true z] at q; cases q
  refine sss_cons ?_
  refine ss_asg ?_
  refine se_callD D_of (hr.mono (by decide)) ?_
  refine sa_cons (se_var (i := 0) rfl (sa_cons (se_var (i := 4) rfl (sa_nil ?_))))
  refine ⟨p, _, _, _, rfl, .inr (.inl ⟨Go, rfl, S1.lv.ne 1 rfl, S1.going⟩), fun q => g0 (List.map_eq_nil_iff.mp q), by rw [List.length_map]; have := S.gl; have := S.d8; omega, S1.lv.jar, by omega, fun u mu2 hu j2 e2 => ?_⟩
  obtain ⟨g, hg, rfl⟩ := List.mem_map.mp hu
  have S2 := S1.step e2 j2
  refine sg_name (i := 9) ?_ sc_Lstory.nd
  obtain ⟨h0, h1⟩ := S2.gi g hg
  obtain ⟨j, rfl⟩ : ∃ j : Nat, g = j := ⟨g.toNat, by omega⟩
  have jl : j < ds.length := by omega
  obtain ⟨⟨a, b, e, kz, so, m⟩, hq⟩ : ∃ q, ds[j]? = some q := ⟨_, List.getElem?_eq_getElem jl⟩
  refine sss_cons ?_
  refine ss_asg ?_
  refine se_ix (se_var (i := 3) rfl (se_var (i := 9) rfl ⟨_, .m a, S2.deeds, atI_nat' (by rw [List.getElem?_map, hq]; rfl), ?_⟩))
  refine sg_name (i := 10) ?_ sc_Lstory.nd
  refine sss_cons ?_
  refine ss_if ?_
  refine st_cmp op_notN notN_w (nomark _) ?_
  refine se_dget ?hu ?_
  case hu => exact hu_of hr
  refine se_var (i := 10) rfl (se_str (dget_of (S2.deed (List.mem_of_getElem? hq)) (km _) (se_non ⟨rfl, fun b2 hb2 => ?_⟩)))
  cases m with
  | none =>
    have hb2 : b2 = false := hb2
    subst hb2
    show SSs _ _ _ _ _
    exact story_go B D_take D_ans D_beh hr S2 (by omega) n4 hq fun y ds' tb' mu' S' => sss_nil (sss_nil (k _ _ _ _ _ _ _ _ (S'.mono (by omega) (by omega))))
  | some m4 =>
    have hb2 : b2 = true := hb2
    subst hb2
    show SSs _ _ _ _ _
    exact story_end B D_of hr S2 (by omega) hg hq (by simp) fun clk' ds' gs' mu' S' => sss_nil (sss_nil (k _ _ _ _ _ _ _ _ (S'.mono (by omega) (by omega))))
def S_story : SpW := fun ws mu P => ∃ p kc many c, ∃ ns : List Str, ws = [.m p, .m kc, .int ((many : Nat) : Int)] ∧ many ≤ 8 ∧ JarOk mu p c ∧ c + 300 < 200000 ∧ mu kc = some (.lst (stW ns)) ∧ kc ≠ p ∧ ns ≠ [] ∧ ns.length ≤ 100 ∧ (∀ z ∈ ns, NmOk z) ∧
  ∀ Dd ds mu', Deeds mu' Dd ds → ds.length ≤ 8 → (∀ q ∈ ds, DeOk q.2 256) → JarOk mu' p (c + 200) → ExtBut p mu mu' → P (.m Dd) mu'
abbrev DStory (P : Program) (w : World) (K : PySem.W.Frag) (mg : Str → Option Value) (base : Heap) : Prop := DefOk P w K mg base "_law_story" ["_law_jar_here", "_law_keys", "_law_many"] 4 S_story
set_option maxHeartbeats 1000000 in
theorem d_Lstory (D : Dfn K mg "_law_story" s_Lstory ["_law_jar_here", "_law_keys", "_law_many"]) (B : Bl mg) (D_take : DTake P w K mg base) (D_of : DOf P w K mg base) (D_ans : DAnswer P w K mg base) (D_beh : DBehind P w K mg base) : DStory P w K mg base := by
  refine dfnOk D sc_Lstory (fun ws mu P ⟨_, _, _, _, _, e, _⟩ => by rw [e]; rfl) (fun f cdv A outer s H E hr ws mu Pt ⟨p, kc, many, c, ns, e, m8, jar, hc, hk, nk, ns0, ns3, nm, h⟩ => ?_)
  subst e
  refine sss_cons ?_
  refine ss_asg ?_
  refine se_tup ?_
  refine sa_cons (se_lst (sa_nil ⟨by decide, fun Dd nD => ?_⟩))
  have L1 := (Live.zero jar).new nD (.lst [])
  refine sa_cons (se_lst (sa_nil ⟨by decide, fun Go nG => ?_⟩))
  have L2 := L1.new nG (.lst [])
  refine sa_cons (se_dnew fun Ta nT => ?_)
  have L3 := L2.new nT (.dic [])
  refine sa_cons (se_int (sa_nil ⟨by show 4 ≤ sizeLine; decide, ?_⟩))
  refine sg_tup (sgs_cons (sg_name (i := 3) (sgs_cons (sg_name (i := 4) (sgs_cons (sg_name (i := 5) (sgs_cons (sg_name (i := 6) (sgs_nil ?_) sc_Lstory.nd)) sc_Lstory.nd)) sc_Lstory.nd)) sc_Lstory.nd))
  have S0 : St mu _ p c Dd Go Ta [] [] [] 0 0 := ⟨L3, by simp, by simp, by simp, by simp, by simp, by simp, fun k v hv => (by cases hv), by simp⟩
  refine sss_cons ?_
  refine ss_for PassesOwn.never rfl (by intro _; rfl) ?_
  refine si_range (se_bin op_Mult Mult_w (se_int (se_var (i := 2) rfl ⟨cmulW 3 4 (by decide) (by omega) (by decide) (by decide) (by decide), by omega, by omega, ?_⟩))) B.range
  have et : ((4 : Int) * (many : Int)).toNat = 4 * many := by omega
  rw [et]
  refine ⟨fun i G' mu' => ∃ y7 y8 y9 y10 y11 clk ds gs tb, G' = [some (.m p), some (.m kc), some (.int (many : Int)), some (.m Dd), some (.m Go), some (.m Ta), some (.int clk), y7, y8, y9, y10, y11] ∧ St mu mu' p (c + 5 * i) Dd Go Ta ds gs tb clk i,
    ⟨none, none, none, none, none, 0, [], [], [], rfl, S0⟩, fun _ _ _ _ _ => trivial, fun i u G' mu' hu ⟨y7, y8, y9, y10, y11, clk, ds, gs, tb, eG, S⟩ => ?_, fun G' mu' ⟨y7, y8, y9, y10, y11, clk, ds, gs, tb, eG, S⟩ => ?_⟩
  · subst eG
    have i32 : i < 4 * many := by
      have := (List.getElem?_eq_some_iff.mp hu).1
      rw [List.length_map, List.length_range] at this
      exact this
    rw [List.getElem?_map, List.getElem?_range i32] at hu
    have hu : u = .int (i : Int) := (Option.some.inj hu).symm
    subst hu
    refine sg_name (i := 7) ?_ sc_Lstory.nd
    refine sss_cons ?_
    refine ss_if ?_
    refine st_post (fun b mu1 => ∃ c1, c1 ≤ c + 5 * i + 1 ∧ St mu mu1 p c1 Dd Go Ta ds gs tb clk i ∧ (b = true → ds.length < many)) ?_ ?_
    · refine st_of_w ?_
      refine sw_and ?_
      refine st_cmp op_lt cmpN_w (nomark _) ?_
      refine se_len (se_var (i := 3) rfl ⟨_, S.deeds, ?_⟩) B.len
      refine se_var (i := 2) rfl ⟨_, _, rfl, rfl, fun b hb => ?_⟩
      rw [List.length_map] at hb
      refine if2_split (fun q1 => ?_) fun q1 => ⟨_, by omega, S, fun z => (by cases z)⟩
      have dm : ds.length < many := by have : (ds.length : Int) < (many : Int) := of_decide_eq_true (hb ▸ q1); omega
      refine sw_and1 ?_
      refine st_of_w ?_
      refine sw_or ?_
      refine st_cmp (op_eqD hr.units) eq_w (nomark _) ?_
      refine se_var (i := 4) rfl (se_lst (sa_nil ⟨by decide, fun x nx => ?_⟩))
      have S1 := S.ext (Ext.refl.set (c := .lst []) nx)
      refine eq_none S1.going setM_same (by have := S.gl; have := S.d8; omega) ?_
      generalize setM mu' x (.lst []) = mu1 at S1 ⊢
      refine if2_split (fun q2 => ⟨_, by omega, S1, fun _ => dm⟩) fun q2 => ?_
      refine sw_or1 ?_
      refine st_cmp op_eq eqN_w (nomark _) ?_
      refine se_callD D_take (hr.mono (by decide)) ?_
      refine sa_cons (se_var (i := 0) rfl (sa_cons (se_int (sa_nil ?_))))
      refine ⟨p, 3, _, rfl, by decide, by decide, S1.lv.jar, by omega, fun z mu2 z0 z1 j2 e2 => ?_⟩
      exact se_int ⟨_, _, rfl, rfl, fun b2 hb2 => ⟨_, by omega, S1.step e2 j2, fun _ => dm⟩⟩
    · rintro b mu1 ⟨c1, hc1, S1, hd⟩
      refine if2_split (fun q => ?_) fun q => ?_
      · refine story_new B D_of hr S1 (by have := hd q; omega) (by omega) hk nk ns0 ns3 nm fun y clk' ds' gs' mu2 S2 => ?_
        exact sss_nil ⟨_, _, _, _, _, _, _, _, _, rfl, S2.mono (by omega) (by omega)⟩
      · refine story_old B D_take D_of D_ans D_beh hr S1 (by omega) (by omega) fun y9 y10 y11 clk' ds' gs' tb' mu2 S2 => ?_
        exact sss_nil ⟨_, _, _, _, _, _, _, _, _, rfl, S2.mono (by omega) (by omega)⟩
  · subst eG
    rw [List.length_map, List.length_range] at S
    refine sss_cons ?_
    refine ss_ret (se_var (i := 3) rfl ?_)
    exact h Dd ds _ ⟨S.deeds, fun q hq => S.deed hq⟩ S.d8 (fun q hq => (S.ok q hq).mono (by omega)) (S.lv.jar.mono (by omega)) S.lv.ex
end
end K1
set_option Elab.async false
set_option linter.all false
set_option maxRecDepth 100000
/-! k70: odd values. -/
namespace K1
open PySem L2 Dv
def stB (z : Str) : Bool := decide (z.length ≤ 24) && z.cps.toList.all fun c => decide (c < 16 ^ 8)
def frB0 : Nat → W → Bool
  | _, .non => true
  | _, .bl _ => true
  | _, .int i => decide (i.natAbs ≤ 10 ^ 17 + 100)
  | _, .str z => stB z
  | n + 1, .tup ws => ws.all (frB0 n)
  | n + 1, .fl ws => ws.all (frB0 n)
  | n + 1, .fd ks ws => decide (ks.length = ws.length) && (ks.all stB && ws.all (frB0 n))
  | _, _ => false
theorem stB_ok {z : Str} (h : stB z = true) : StOk 0 z := by
  unfold stB at h
  rw [Bool.and_eq_true, decide_eq_true_eq, List.all_eq_true] at h
  exact ⟨h.1, fun c hc => of_decide_eq_true (h.2 c hc)⟩
theorem frB0_ok : ∀ {n : Nat} {w : W}, frB0 n w = true → FrOk 0 n w
  | _, .non, _ => fr_non
  | _, .bl _, _ => fr_bl
  | n, .int i, h => fr_int (by
      have h : decide (i.natAbs ≤ 10 ^ 17 + 100) = true := by cases n <;> exact h
      have h2 : i.natAbs ≤ 10 ^ 17 + 100 := of_decide_eq_true h
      exact h2)
  | n, .str z, h => fr_str (stB_ok (by cases n <;> exact h))
  | 0, .tup _, h => by cases h
  | 0, .fl _, h => by cases h
  | 0, .fd _ _, h => by cases h
  | 0, .m _, h => by cases h
  | _ + 1, .m _, h => by cases h
  | n + 1, .tup ws, h => fun w hw => frB0_ok (List.all_eq_true.mp (show ws.all (frB0 n) = true from h) w hw)
  | n + 1, .fl ws, h => fun w hw => frB0_ok (List.all_eq_true.mp (show ws.all (frB0 n) = true from h) w hw)
  | n + 1, .fd ks ws, h => by
    have h : (decide (ks.length = ws.length) && (ks.all stB && ws.all (frB0 n))) = true := h
    rw [Bool.and_eq_true, Bool.and_eq_true, decide_eq_true_eq, List.all_eq_true, List.all_eq_true] at h
    exact ⟨h.1, fun k hk => stB_ok (h.2.1 k hk), fun w hw => frB0_ok (h.2.2 w hw)⟩
def odds1 : List W := [.non, .bl true, .bl false, .int 0, .int 1, .int (-1), .int ((10 : Int) ^ (17 : Int).toNat), .str "", .str "a", .str "A", .str "put", .str "done", .tup [], .fl [], .fd [] [], .tup [.str "a"], .fl [.int 1], .fd ["a"] [.int 1]]
def odds2 : List W := [.tup [.int 0, .bl true], .tup [.tup [], .bl false], .tup [.tup [.tup [], .bl false]], .str "ninesigns"]
theorem odds_ok : ∀ u ∈ odds1 ++ odds2, FrOk 0 3 u ∧ sz u ≤ 8 := by
  have h : (odds1 ++ odds2).all (fun u => frB0 3 u && decide (sz u ≤ 8)) = true := by decide +kernel
  intro u hu
  have := List.all_eq_true.mp h u hu
  rw [Bool.and_eq_true, decide_eq_true_eq] at this
  exact ⟨frB0_ok this.1, this.2⟩
/-- a fresh list, frozen -/
theorem frz_list {X : Cx} {G : Gs} {mu : Mu} {pos : Pos} {P : PW1} {es : List Expr} (h : SA X es G mu fun ws mu1 => ws.length ≤ sizeLine ∧ (∀ a, mu1 a = none → mu a = none) ∧ P (.fl ws) mu1) : SE X (.List es pos) G mu P := by
  refine se_frz (se_lst ?_)
  exact fun σ H Q d m k => h σ H Q d m fun vs ws mu1 H1 ⟨hl, hn, q⟩ c dv m1 => k vs ws mu1 H1 ⟨hl, fun a na => ⟨a, rfl, hn a na, .inl ⟨ws, setM_same, by rw [rem_set na]; exact q⟩⟩⟩ c dv m1
section
variable {P : Program} {w : World} {K : PySem.W.Frag} {mg : Str → Option Value} {base : Heap}
def N_Lodd : List Str := ["_law_jar_here", "_law_some", "_law_found", "_law_turn"]
abbrev s_Lodd : Stmt := top 28
theorem sc_Lodd : FnScope N_Lodd ["_law_jar_here"] (defScope s_Lodd) := ⟨rfl, rfl, rfl, by decide +kernel, rfl, by decide +kernel, by decide +kernel⟩
def S_odd : SpW := fun ws mu P => ∃ p c, ws = [.m p] ∧ JarOk mu p c ∧ c + 20 < 200000 ∧ ∀ u mu', FrOk 0 7 u → sz u ≤ 20 → JarOk mu' p (c + 10) → ExtBut p mu mu' → P u mu'
abbrev DOdd (P : Program) (w : World) (K : PySem.W.Frag) (mg : Str → Option Value) (base : Heap) : Prop := DefOk P w K mg base "_law_odd" ["_law_jar_here"] 3 S_odd
theorem wrap_ok {n : Nat} {u v : W} (h : FrOk 0 n u) (hv : v ∈ [W.tup [u], .fl [u], .fd ["a"] [u], .tup [u, .int 0]]) : FrOk 0 (n + 1) v ∧ sz v ≤ sz u + 2 := by
  have sa : StOk 0 "a" := stB_ok (by decide +kernel)
  simp only [List.mem_cons, List.not_mem_nil, or_false] at hv
  rcases hv with rfl | rfl | rfl | rfl
  · exact ⟨fun w hw => by rw [List.mem_singleton.mp hw]; exact h, by simp [sz, szs]⟩
  · exact ⟨fun w hw => by rw [List.mem_singleton.mp hw]; exact h, by simp [sz, szs]⟩
  · exact ⟨⟨rfl, fun k hk => by rw [List.mem_singleton.mp hk]; exact sa, fun w hw => by rw [List.mem_singleton.mp hw]; exact h⟩, by simp [sz, szs]⟩
  · refine ⟨fun w hw => ?_, by simp [sz, szs]⟩
    rcases List.mem_cons.mp hw with rfl | hw
    · exact h
    · rw [List.mem_singleton.mp hw]; exact fr_int (Nat.zero_le _)
set_option maxHeartbeats 1000000 in
theorem d_Lodd (D : Dfn K mg "_law_odd" s_Lodd ["_law_jar_here"]) (B : Bl mg) (D_of : DOf P w K mg base) : DOdd P w K mg base := by
  refine dfnOk D sc_Lodd (fun ws mu P ⟨_, _, e, _⟩ => by rw [e]; rfl) (fun f cdv A outer s H E hr ws mu Pt ⟨p, c, e, jar, hc, h⟩ => ?_)
  subst e
  refine sss_cons ?_
  refine ss_asg ?_
  refine se_lst ?_
  refine sa_cons ?_
  refine se_non ?_
  refine sa_cons ?_
  refine se_bl ?_
  refine sa_cons ?_
  refine se_bl ?_
  refine sa_cons ?_
  refine se_int ?_
  refine sa_cons ?_
  refine se_int ?_
  refine sa_cons ?_
  refine se_neg (se_int ⟨1, rfl, ?_⟩)
  refine sa_cons ?_
  refine se_bin op_Pow Pow_w (se_int (se_int ⟨⟨by decide, by decide, by decide⟩, ?_⟩))
  refine sa_cons ?_
  refine se_str ?_
  refine sa_cons ?_
  refine se_str ?_
  refine sa_cons ?_
  refine se_str ?_
  refine sa_cons ?_
  refine se_str ?_
  refine sa_cons ?_
  refine se_str ?_
  refine sa_cons ?_
  refine se_tup (sa_nil ⟨by decide, ?_⟩)
  refine sa_cons ?_
  refine frz_list (sa_nil ⟨by decide, fun _ z => z, ?_⟩)
  refine sa_cons ?_
  refine se_frz (se_dnew fun a na => ⟨a, rfl, na, .inr ⟨[], [], setM_same, rfl, ?_⟩⟩)
  rw [rem_set na]
  refine sa_cons ?_
  refine se_tup (sa_cons (se_str (sa_nil ⟨by show 1 ≤ sizeLine; decide, ?_⟩)))
  refine sa_cons ?_
  refine frz_list (sa_cons (se_int (sa_nil ⟨by show 1 ≤ sizeLine; decide, fun _ z => z, ?_⟩)))
  refine sa_cons ?_
  refine se_frz ?_
  refine se_disp ?_ ?_ ?_ ?_ ?_
  case refine_2 => rfl
  case refine_3 => rfl
  case refine_4 => exact List.cons_ne_nil _ _
  case refine_5 => show 1 ≤ 15; decide
  unfold SPs
  refine se_str (se_int ?_)
  unfold SPs
  refine ⟨[(.inr "a", .int 1)], rfl, by decide +kernel, by decide, fun a2 na2 => ⟨a2, rfl, na2, .inr ⟨["a"], [.int 1], setM_same, rfl, ?_⟩⟩⟩
  rw [rem_set na2]
  refine sa_nil ⟨by show 18 ≤ sizeLine; decide, fun q nq => ?_⟩
  refine sg_name (i := 1) ?_ sc_Lodd.nd
  change SSs _ _ _ (setM mu q (.lst odds1)) _
  have L1 := (Live.zero jar).new nq (.lst odds1)
  generalize setM mu q (.lst odds1) = mu1 at L1 ⊢
  -- the first value
  refine sss_cons ?_
  refine ss_asg ?_
  refine se_callD D_of (hr.mono (by decide)) ?_
  refine sa_cons ?_
  refine se_var (i := 0) rfl ?_
  refine sa_cons ?_
  refine se_bin op_cat catL_w ?_
  refine se_var (i := 1) rfl ?_
  refine se_lst ?_
  refine sa_cons ?_
  refine se_tup (sa_cons (se_int (sa_cons (se_bl (sa_nil ⟨by show 2 ≤ sizeLine; decide, ?_⟩)))))
  refine sa_cons ?_
  refine se_tup (sa_cons (se_tup (sa_nil ⟨by decide, sa_cons (se_bl (sa_nil ⟨by show 2 ≤ sizeLine; decide, ?_⟩))⟩)))
  refine sa_cons ?_
  refine se_tup (sa_cons (se_tup (sa_cons (se_tup (sa_nil ⟨by decide, sa_cons (se_bl (sa_nil ⟨by show 2 ≤ sizeLine; decide, sa_nil ⟨by show 1 ≤ sizeLine; decide, ?_⟩⟩))⟩)))))
  refine sa_cons ?_
  refine se_str ?_
  refine sa_nil ⟨by show 4 ≤ sizeLine; decide, fun q2 nq2 => ?_⟩
  have L2 := L1.new nq2 (.lst odds2)
  refine ⟨q, q2, odds1, odds2, rfl, rfl, L2.at 0 rfl, L2.at 1 rfl, by show 22 ≤ sizeLine; decide, fun q3 nq3 => ?_⟩
  have L3 := L2.new nq3 (.lst (odds1 ++ odds2))
  refine sa_nil ?_
  refine ⟨p, _, odds1 ++ odds2, _, rfl, .inr (.inl ⟨q3, rfl, L3.ne 2 rfl, L3.at 2 rfl⟩), by decide, by decide, L3.jar, by omega, fun u mu4 hu j4 e4 => ?_⟩
  have L4 := L3.step e4 j4
  obtain ⟨u1, u2⟩ := odds_ok u hu
  refine sg_name (i := 2) ?_ sc_Lodd.nd
  -- within others
  refine sss_cons ?_
  refine ss_for PassesOwn.never rfl (by intro _; rfl) ?_
  refine si_range ?_ B.range
  refine se_callD D_of (hr.mono (by decide)) ?_
  refine sa_cons ?_
  refine se_var (i := 0) rfl ?_
  refine sa_cons ?_
  refine se_lst ?_
  refine sa_cons ?_
  refine se_int ?_
  refine sa_cons ?_
  refine se_int ?_
  refine sa_cons ?_
  refine se_int ?_
  refine sa_cons ?_
  refine se_int ?_
  refine sa_cons ?_
  refine se_int ?_
  refine sa_cons ?_
  refine se_int ?_
  refine sa_cons ?_
  refine se_int ?_
  refine sa_nil ⟨by show 7 ≤ sizeLine; decide, fun q5 nq5 => ?_⟩
  have L5 := L4.new nq5 (.lst [.int 0, .int 0, .int 0, .int 0, .int 1, .int 2, .int 4])
  refine sa_nil ?_
  refine ⟨p, _, _, _, rfl, .inr (.inl ⟨q5, rfl, L5.ne 3 rfl, L5.at 3 rfl⟩), by simp, by simp, L5.jar, by omega, fun r mu6 hr6 j6 e6 => ?_⟩
  have L6 := L5.step e6 j6
  obtain ⟨m, rfl, m4⟩ : ∃ m : Nat, r = .int (m : Int) ∧ m ≤ 4 := by
    simp only [List.mem_cons, List.not_mem_nil, or_false] at hr6
    rcases hr6 with rfl | rfl | rfl | rfl | rfl | rfl | rfl
    · exact ⟨0, rfl, by decide⟩
    · exact ⟨0, rfl, by decide⟩
    · exact ⟨0, rfl, by decide⟩
    · exact ⟨0, rfl, by decide⟩
    · exact ⟨1, rfl, by decide⟩
    · exact ⟨2, rfl, by decide⟩
    · exact ⟨4, rfl, by decide⟩
  refine ⟨by omega, by omega, ?_⟩
  rw [Int.toNat_natCast]
  refine ⟨fun i G' mu' => ∃ y u, G' = [some (.m p), some (.m q), some u, y] ∧ FrOk 0 (3 + i) u ∧ sz u ≤ 8 + 2 * i ∧ Live mu mu' p (c + 2 + i) [],
    ⟨none, u, rfl, u1, by omega, (L6.sub (List.nil_sublist _)).mono (by omega)⟩, fun _ _ _ _ _ => trivial, fun i w G' mu' hw ⟨y, u, eG, o1, o2, L⟩ => ?_, fun G' mu' ⟨y, u, eG, o1, o2, L⟩ => ?_⟩
  · subst eG
    have i4 : i < 4 := by
      have := (List.getElem?_eq_some_iff.mp hw).1
      rw [List.length_map, List.length_range] at this
      omega
    refine sg_name (i := 3) ?_ sc_Lodd.nd
    refine sss_cons ?_
    refine ss_asg ?_
    refine se_callD D_of (hr.mono (by decide)) ?_
    refine sa_cons ?_
    refine se_var (i := 0) rfl ?_
    refine sa_cons ?_
    refine se_lst ?_
    refine sa_cons ?_
    refine se_tup (sa_cons (se_var (i := 2) rfl (sa_nil ⟨by show 1 ≤ sizeLine; decide, ?_⟩)))
    refine sa_cons ?_
    refine frz_list (sa_cons (se_var (i := 2) rfl (sa_nil ⟨by show 1 ≤ sizeLine; decide, fun _ z => z, ?_⟩)))
    refine sa_cons ?_
    refine se_frz ?_
    refine se_disp ?_ ?_ ?_ ?_ ?_
    case refine_2 => rfl
    case refine_3 => rfl
    case refine_4 => exact List.cons_ne_nil _ _
    case refine_5 => show 1 ≤ 15; decide
    unfold SPs
    refine se_str (se_var (i := 2) rfl ?_)
    unfold SPs
    refine ⟨[(.inr "a", u)], rfl, by simp, by show 1 ≤ 15; decide, fun a2 na2 => ⟨a2, rfl, na2, .inr ⟨["a"], [u], setM_same, rfl, ?_⟩⟩⟩
    rw [rem_set na2]
    refine sa_cons ?_
    refine se_tup (sa_cons (se_var (i := 2) rfl (sa_cons (se_int (sa_nil ⟨by show 2 ≤ sizeLine; decide, ?_⟩)))))
    refine sa_nil ⟨by show 4 ≤ sizeLine; decide, fun q7 nq7 => ?_⟩
    have L7 := L.new nq7 (.lst [W.tup [u], .fl [u], .fd ["a"] [u], .tup [u, .int 0]])
    refine sa_nil ?_
    refine ⟨p, _, _, _, rfl, .inr (.inl ⟨q7, rfl, L7.ne 0 rfl, L7.at 0 rfl⟩), by simp, by simp, L7.jar, by omega, fun v mu8 hv j8 e8 => ?_⟩
    have L8 := L7.step e8 j8
    obtain ⟨v1, v2⟩ := wrap_ok o1 hv
    refine sg_name (i := 2) ?_ sc_Lodd.nd
    exact sss_nil ⟨_, v, rfl, v1.mono (Nat.le_refl _) (by omega), by omega, L8.sub (List.nil_sublist _)⟩
  · subst eG
    rw [List.length_map, List.length_range] at o1 o2 L
    refine sss_cons ?_
    refine ss_ret (se_var (i := 2) rfl ?_)
    exact h u _ (o1.mono (Nat.le_refl _) (by omega)) (by omega) (L.jar.mono (by omega)) L.ex
end
end K1
set_option Elab.async false
set_option linter.all false
set_option maxRecDepth 100000
/-! list() of a tuple or a list; parts of tuples. -/
namespace Dv
open PySem L2
section
variable {X : Cx} {e : Expr} {G : Gs} {mu : Mu} {pos p : Pos} {P : PW1}
theorem se_listC (h : SE X e G mu fun w mu1 => listW [w] mu1 P) (hm : X.mg "list" = none) (hg : Gl X "list" := by rfl) (he : starEach [e] X.env = [(false, eval e X.env)] := by rfl) (hpl : (backTo pos (starEach [] X.env)).any (·.1) = false := by rfl) :
    SE X (.Call (.Name "list" p) [e] [] pos) G mu P := se_bty call_list_of list_w hm (sa_one h he) (by decide +kernel) hg (by decide) (by decide) he hpl
end
theorem cut_to {us : List W} {i : Nat} (h : i ≤ us.length) : cutW us none (some (i : Nat)) = us.take i := by
  have n0 : ¬ (i : Int) < 0 := by omega
  unfold cutW HT.sIx
  simp [n0, Nat.min_eq_left h]
theorem cut_from {us : List W} {i : Nat} (h : i ≤ us.length) : cutW us (some (i : Nat)) none = us.drop i := by
  have n0 : ¬ (i : Int) < 0 := by omega
  unfold cutW HT.sIx
  simp [n0, Nat.min_eq_left h]
  exact List.take_of_length_le (by rw [List.length_drop]; exact Nat.le_refl _)
end Dv
set_option Elab.async false
set_option linter.all false
set_option maxRecDepth 100000
/-! k70: values with one part otherwise. -/
namespace K1
open PySem L2 Dv PyProof.Rows
theorem int_str {t : Nat} {i : Int} (h : InOk t i) (ht : t ≤ 10) : StOk (t + 1) (toString i : String) := by
  refine ⟨by have := (int_log h (by omega)).2; omega, fun c hc => ?_⟩
  by_cases q : c ≠ 45 ∧ (c < 48 ∨ 57 < c)
  · exact absurd hc (int_text_free' c q i)
  · have : (16 : Nat) ^ 8 = 4294967296 := by decide
    omega
theorem str_a {t : Nat} {z : Str} (h : StOk t z) : StOk (t + 1) (z ++ "a") := by
  refine ⟨?_, fun c hc => ?_⟩
  · have := h.1
    rw [strLen_append]
    have : (("a" : Str)).length = 1 := by decide +kernel
    omega
  · rw [str_app] at hc
    rcases List.mem_append.mp hc with q | q
    · exact h.2 c q
    · have : ∀ c ∈ ("a" : Str).cps.toList, c < 16 ^ 8 := by decide +kernel
      exact this c q
theorem InOk.near {t : Nat} {i j : Int} (h : InOk t i) (d : j.natAbs ≤ i.natAbs + 1) : InOk (t + 1) j := by
  unfold InOk at *
  omega
def texts9 : List Str := ["put", "drop", "look", "move", "done", "refused", "none", "there", "again"]
theorem texts9_ok {t : Nat} {z : Str} (h : z ∈ texts9) : StOk t z := by
  have : texts9.all stB = true := by decide +kernel
  have := stB_ok (List.all_eq_true.mp this z h)
  exact ⟨by have := this.1; omega, this.2⟩
/-- what a tuple's bending makes -/
def bends (us : List W) (i : Nat) (b : W) : List W := [.tup (us.take i ++ [b] ++ us.drop (i + 1)), .tup (us.take i ++ [b] ++ us.drop (i + 1)), .tup (us.take i ++ [b] ++ us.drop (i + 1)), .tup (us.take i ++ [b] ++ us.drop (i + 1)), .tup (us.take i ++ us.drop (i + 1)), .tup (us.take (i + 1) ++ us.drop i), .fl us, .tup us.reverse]
theorem szs_split {us : List W} {i : Nat} {x : W} (h : us[i]? = some x) : szs us = szs (us.take i) + (sz x + szs (us.drop (i + 1))) := by
  obtain ⟨hi, e⟩ := List.getElem?_eq_some_iff.mp h
  have := szs_app (us.take i) (us.drop i)
  rw [List.take_append_drop, List.drop_eq_getElem_cons hi, e] at this
  rw [this]
  rfl
theorem bends_ok {t n : Nat} {us : List W} {i : Nat} {x b u : W} (h : us[i]? = some x) (f : ∀ w ∈ us, FrOk t n w) (fb : FrOk (t + 1) (n + 8) b) (sb : sz b ≤ 2 * sz x + 60) (hu : u ∈ bends us i b) : FrOk (t + 1) (n + 1 + 8) u ∧ sz u ≤ 2 * (szs us + 1) + 60 := by
  have f2 : ∀ w ∈ us, FrOk (t + 1) (n + 8) w := fun w hw => (f w hw).mono (by omega) (by omega)
  have s0 := szs_split h
  have s1 : szs (us.take i ++ [b] ++ us.drop (i + 1)) = szs (us.take i) + sz b + szs (us.drop (i + 1)) := by
    rw [szs_app, szs_app]
    rfl
  have fnew : FrOk (t + 1) (n + 1 + 8) (.tup (us.take i ++ [b] ++ us.drop (i + 1))) := fun w hw => by
    rcases List.mem_append.mp hw with z | z
    · rcases List.mem_append.mp z with z | z
      · exact f2 w (List.mem_of_mem_take z)
      · rw [List.mem_singleton.mp z]; exact fb
    · exact f2 w (List.mem_of_mem_drop z)
  have snew : sz (.tup (us.take i ++ [b] ++ us.drop (i + 1))) ≤ 2 * (szs us + 1) + 60 := by
    show szs (us.take i ++ [b] ++ us.drop (i + 1)) + 1 ≤ _
    omega
  unfold bends at hu
  simp only [List.mem_cons, List.not_mem_nil, or_false] at hu
  rcases hu with rfl | rfl | rfl | rfl | rfl | rfl | rfl | rfl
  · exact ⟨fnew, snew⟩
  · exact ⟨fnew, snew⟩
  · exact ⟨fnew, snew⟩
  · exact ⟨fnew, snew⟩
  · refine ⟨fun w hw => ?_, ?_⟩
    · rcases List.mem_append.mp hw with z | z
      · exact f2 w (List.mem_of_mem_take z)
      · exact f2 w (List.mem_of_mem_drop z)
    · show szs (us.take i ++ us.drop (i + 1)) + 1 ≤ _
      rw [szs_app]
      omega
  · refine ⟨fun w hw => ?_, ?_⟩
    · rcases List.mem_append.mp hw with z | z
      · exact f2 w (List.mem_of_mem_take z)
      · exact f2 w (List.mem_of_mem_drop z)
    · show szs (us.take (i + 1) ++ us.drop i) + 1 ≤ _
      have a := szs_sub (List.take_sublist (i + 1) us)
      have b := szs_sub (List.drop_sublist i us)
      rw [szs_app]
      omega
  · refine ⟨fun w hw => f2 w hw, ?_⟩
    show szs us + 1 ≤ _
    omega
  · refine ⟨fun w hw => f2 w (List.mem_reverse.mp hw), ?_⟩
    show szs us.reverse + 1 ≤ _
    rw [szs_perm (List.reverse_perm us)]
    omega
def S_bent (n : Nat) : SpW := fun ws mu P => ∃ p t c x, ws = [.m p, x] ∧ t ≤ 9 ∧ FrOk t n x ∧ sz x ≤ 3000 ∧ JarOk mu p c ∧ c + 4 * n + 40 < 200000 ∧ ∀ u mu', FrOk (t + 1) (n + 8) u → sz u ≤ 2 * sz x + 60 → JarOk mu' p (c + 4 * n + 20) → ExtBut p mu mu' → P u mu'
abbrev DBent (P : Program) (w : World) (K : PySem.W.Frag) (mg : Str → Option Value) (base : Heap) (n : Nat) : Prop := DefOk P w K mg base "_law_bent" ["_law_jar_here", "_law_node"] (n + 4) (S_bent n)
def N_Lbent : List Str := ["_law_jar_here", "_law_node", "_law_at", "_law_new", "_law_some"]
abbrev s_Lbent : Stmt := top 29
theorem sc_Lbent : FnScope N_Lbent ["_law_jar_here", "_law_node"] (defScope s_Lbent) := ⟨rfl, rfl, rfl, by decide +kernel, rfl, by decide +kernel, by decide +kernel⟩
end K1
set_option Elab.async false
set_option linter.all false
set_option maxRecDepth 100000
/-! k70: bending. -/
namespace K1
open PySem L2 Dv PyProof.Rows
theorem isBo_of {x : W} (h : isBo x = true) : ∃ b, x = .bl b := by cases x <;> first | exact ⟨_, rfl⟩ | cases h
section
variable {P : Program} {w : World} {K : PySem.W.Frag} {mg : Str → Option Value} {base : Heap}
set_option maxHeartbeats 1000000 in
theorem bent_at (n : Nat) (ih : ∀ m, n = m + 1 → DBent P w K mg base m) (D : Dfn K mg "_law_bent" s_Lbent ["_law_jar_here", "_law_node"]) (B : Bl mg) (Kb : KNo mg "bool") (Kl : KNo mg "list") (D_take : DTake P w K mg base) (D_of : DOf P w K mg base) (D_odd : DOdd P w K mg base) : DBent P w K mg base n := by
  refine dfnOk (k := n + 3) D sc_Lbent (fun ws mu P ⟨_, _, _, _, e, _⟩ => by rw [e]; rfl) (fun f cdv A outer s H E hr ws mu Pt ⟨p, t, c, x, e, t9, fx, sx, jar, hc, h⟩ => ?_)
  subst e
  have fr : frW x = true := FrB.fr ⟨t, n, by omega, fx⟩
  have z1000 : (3000 : Nat) ≤ sizeLine := by decide
  refine sss_cons ?_
  refine ss_post (fun G1 mu1 => G1 = [some (.m p), some x, none, none, none] ∧ Live mu mu1 p (c + 1) []) ?_ ?_
  · refine ss_if ?_
    refine st_post (fun b mu1 => Live mu mu1 p (c + 1) [] ∧ (b = true → ∃ us, x = .tup us ∧ us ≠ [])) ?_ ?_
    · refine st_of_w ?_
      refine sw_and ?_
      refine st_val ?_
      refine se_isi (T := "tuple") (se_var (i := 1) rfl ⟨_, _, tyN_fr fr, kit_tup fr, ?_⟩) B.isinstance B.tuple
      refine if2_split (fun q => ?_) fun q => ⟨(Live.zero jar).mono (by omega), fun z => (by cases z)⟩
      obtain ⟨us, rfl⟩ : ∃ us, x = .tup us := by cases x <;> first | exact ⟨_, rfl⟩ | cases q
      refine sw_and ?_
      refine st_cmp (op_ne0 ?_) ne0_w (nomark _) ?_
      · have := hr.un; show (A.deeper _).units < cLine; omega
      refine se_var (i := 1) rfl ?_
      refine se_tup (sa_nil ⟨by decide, us, rfl, rfl, fun b hb => ?_⟩)
      refine if2_split (fun q2 => ?_) fun q2 => ⟨(Live.zero jar).mono (by omega), fun z => (by cases z)⟩
      have u0 : us ≠ [] := fun z => by rw [z] at hb; rw [hb] at q2; cases q2
      refine sw_and1 ?_
      refine st_cmp op_gt cmpN_w (nomark _) ?_
      refine se_callD D_take (hr.mono (by omega)) ?_
      refine sa_cons (se_var (i := 0) rfl (sa_cons (se_int (sa_nil ?_))))
      refine ⟨p, 6, _, rfl, by decide, by decide, jar, by omega, fun z mu2 z0 z1 j2 e2 => ?_⟩
      exact se_int ⟨_, _, rfl, rfl, fun b2 hb2 => ⟨(Live.zero jar).step e2 j2, fun _ => ⟨us, rfl, u0⟩⟩⟩
    rintro b mu1 ⟨L1, hx⟩
    refine if2_split (fun q => ?_) fun q => sss_nil ⟨rfl, L1⟩
    obtain ⟨us, rfl, u0⟩ := hx q
    have lp : 0 < us.length := List.length_pos_iff.mpr u0
    have lz : us.length ≤ 3000 := by
      have := szs_len us
      have : szs us + 1 ≤ 3000 := sx
      omega
    cases n with
    | zero => exact fx.elim
    | succ m =>
    have D_bent := ih m rfl
    have fx : ∀ w ∈ us, FrOk t m w := fx
    -- where
    refine sss_cons ?_
    refine ss_asg ?_
    refine se_callD D_take (hr.mono (by omega)) ?_
    refine sa_cons ?_
    refine se_var (i := 0) rfl ?_
    refine sa_cons ?_
    refine se_len (se_var (i := 1) rfl ?_) B.len
    refine sa_nil ?_
    refine ⟨p, _, _, rfl, by omega, by omega, L1.jar, by omega, fun r mu2 r0 r1 j2 e2 => ?_⟩
    have L2 := L1.step e2 j2
    obtain ⟨i, rfl⟩ : ∃ i : Nat, r = i := ⟨r.toNat, by omega⟩
    have hi : i < us.length := by omega
    obtain ⟨y, hy⟩ : ∃ y, us[i]? = some y := ⟨_, List.getElem?_eq_getElem hi⟩
    have ym := List.mem_of_getElem? hy
    refine sg_name (i := 2) ?_ sc_Lbent.nd
    have c1 := cut_to (us := us) (i := i) (by omega)
    have c2 : cutW us (some ((i : Int) + 1)) none = us.drop (i + 1) := cut_from (us := us) (i := i + 1) (by omega)
    have c3 := cut_from (us := us) (i := i) (by omega)
    have c4 : cutW us none (some ((i : Int) + 1)) = us.take (i + 1) := cut_to (us := us) (i := i + 1) (by omega)
    -- one part otherwise
    refine sss_cons ?_
    refine ss_asg ?_
    refine se_bin op_catA catT_w ?_
    refine se_bin op_catA catT_w ?_
    refine se_slTo (se_var (i := 1) rfl (se_var (i := 2) rfl ?_))
    dsimp only [isI, slW]
    rw [c1]
    refine se_tup ?_
    refine sa_cons ?_
    refine se_callD D_bent (hr.mono (by omega)) ?_
    refine sa_cons ?_
    refine se_var (i := 0) rfl ?_
    refine sa_cons ?_
    refine se_ix (se_var (i := 1) rfl (se_var (i := 2) rfl ⟨y, atI_nat' hy, ?_⟩))
    refine sa_nil ?_
    have sy : sz y ≤ szs us := sz_mem ym
    have sxx : szs us + 1 ≤ 3000 := sx
    refine ⟨p, t, _, y, rfl, t9, fx y ym, by omega, L2.jar, by omega, fun b mu3 fb sb j3 e3 => ?_⟩
    have L3 := L2.step e3 j3
    refine sa_nil ⟨by show 1 ≤ sizeLine; decide, ?_⟩
    have t1 := List.length_take_le i us
    have t2 : (us.drop (i + 1)).length ≤ us.length := by rw [List.length_drop]; omega
    have t3 : (us.drop i).length ≤ us.length := by rw [List.length_drop]; omega
    have t4 := List.length_take_le (i + 1) us
    have t5 : (us.take i).length ≤ us.length := (List.take_sublist i us).length_le
    have t6 : (us.take (i + 1)).length ≤ us.length := (List.take_sublist (i + 1) us).length_le
    have zz : 7000 ≤ sizeLine := by decide
    refine ⟨by simp only [List.length_cons, List.length_nil]; omega, ?_⟩
    refine se_slFrom ?_
    refine se_var (i := 1) rfl ?_
    refine se_bin op_Add Add_w ?_
    refine se_var (i := 2) rfl (se_int ?_)
    dsimp only [opAddV, isI, slW]
    rw [c2]
    refine ⟨by rw [List.length_append]; simp only [List.length_cons, List.length_nil]; omega, ?_⟩
    refine sg_name (i := 3) ?_ sc_Lbent.nd
    -- one of these
    refine sss_cons ?_
    refine ss_asg ?_
    refine se_lst ?_
    refine sa_cons ?_
    refine se_var (i := 3) rfl ?_
    refine sa_cons ?_
    refine se_var (i := 3) rfl ?_
    refine sa_cons ?_
    refine se_var (i := 3) rfl ?_
    refine sa_cons ?_
    refine se_var (i := 3) rfl ?_
    refine sa_cons ?_
    refine se_bin op_catA catT_w ?_
    refine se_slTo (se_var (i := 1) rfl (se_var (i := 2) rfl ?_))
    dsimp only [isI, slW]
    rw [c1]
    refine se_slFrom ?_
    refine se_var (i := 1) rfl ?_
    refine se_bin op_Add Add_w ?_
    refine se_var (i := 2) rfl (se_int ?_)
    dsimp only [opAddV, isI, slW]
    rw [c2]
    refine ⟨by omega, ?_⟩
    refine sa_cons ?_
    refine se_bin op_catA catT_w ?_
    refine se_slTo ?_
    refine se_var (i := 1) rfl ?_
    refine se_bin op_Add Add_w ?_
    refine se_var (i := 2) rfl (se_int ?_)
    dsimp only [opAddV, isI, slW]
    rw [c4]
    refine se_slFrom ?_
    refine se_var (i := 1) rfl (se_var (i := 2) rfl ?_)
    dsimp only [isI, slW]
    rw [c3]
    refine ⟨by omega, ?_⟩
    refine sa_cons ?_
    refine se_frz ?_
    refine se_listC (se_var (i := 1) rfl fun a na => ⟨a, rfl, na, .inl ⟨us, setM_same, ?_⟩⟩) Kl.no
    rw [rem_set na]
    refine sa_cons ?_
    refine se_rev (se_var (i := 1) rfl ?_)
    refine sa_nil ⟨by show 8 ≤ sizeLine; decide, fun q4 nq4 => ?_⟩
    change SG _ _ _ _ (setM mu3 q4 (.lst (bends us i b))) _
    have L4 := L3.new nq4 (.lst (bends us i b))
    generalize setM mu3 q4 (.lst (bends us i b)) = mu4 at L4 ⊢
    refine sg_name (i := 4) ?_ sc_Lbent.nd
    refine sss_cons ?_
    refine ss_ret ?_
    refine se_callD D_of (hr.mono (by omega)) ?_
    refine sa_cons ?_
    refine se_var (i := 0) rfl ?_
    refine sa_cons ?_
    refine se_var (i := 4) rfl ?_
    refine sa_nil ?_
    refine ⟨p, _, bends us i b, _, rfl, .inr (.inl ⟨q4, rfl, L4.ne 0 rfl, L4.at 0 rfl⟩), by simp [bends], by show 8 ≤ 1000; decide, L4.jar, by omega, fun u mu5 hu j5 e5 => ?_⟩
    obtain ⟨u1, u2⟩ := bends_ok hy fx fb sb hu
    exact h u _ u1 u2 (j5.mono (by omega)) (L4.step e5 j5).ex
  rintro G1 mu1 ⟨rfl, L1⟩
  -- a truth
  refine sss_cons ?_
  refine ss_if ?_
  refine st_val ?_
  refine se_isi (T := "bool") (se_var (i := 1) rfl ⟨_, _, tyN_fr fr, kit_bool fr, ?_⟩) B.isinstance Kb.no
  refine if2_split (fun q => ?_) fun q => sss_nil ?_
  · obtain ⟨b, rfl⟩ := isBo_of q
    refine sss_cons ?_
    refine ss_ret ?_
    refine se_callD D_of (hr.mono (by omega)) ?_
    refine sa_cons ?_
    refine se_var (i := 0) rfl ?_
    refine sa_cons ?_
    refine se_lst ?_
    refine sa_cons ?_
    refine se_not (se_var (i := 1) rfl ?_)
    refine sa_cons ?_
    refine se_intC (se_var (i := 1) rfl ?_) B.int
    refine sa_cons ?_
    refine se_non ?_
    refine sa_nil ⟨by show 3 ≤ sizeLine; decide, fun q4 nq4 => ?_⟩
    have L4 := L1.new nq4 (.lst [.bl !b, .int (if b then 1 else 0), .non])
    refine sa_nil ?_
    refine ⟨p, _, [.bl !b, .int (if b then 1 else 0), .non], _, rfl, .inr (.inl ⟨q4, rfl, L4.ne 0 rfl, L4.at 0 rfl⟩), by simp, by show 3 ≤ 1000; decide, L4.jar, by omega, fun u mu5 hu j5 e5 => ?_⟩
    have fin : ∀ u, FrOk (t + 1) (n + 8) u → sz u = 1 → Pt u mu5 := fun u f1 f2 => h u _ f1 (by omega) (j5.mono (by omega)) (L4.step e5 j5).ex
    simp only [List.mem_cons, List.not_mem_nil, or_false] at hu
    rcases hu with rfl | rfl | rfl
    · exact fin _ fr_bl rfl
    · exact fin _ (fr_int (by cases b <;> exact Nat.le_trans (by decide : _ ≤ 10 ^ 17 + 100) (by omega))) rfl
    · exact fin _ fr_non rfl
  -- a number
  refine sss_cons ?_
  refine ss_post (fun G1 mu1 => G1 = [some (.m p), some x, none, none, none] ∧ Live mu mu1 p (c + 2) []) ?_ ?_
  · refine ss_if ?_
    refine st_post (fun b mu1 => Live mu mu1 p (c + 2) [] ∧ (b = true → ∃ k, x = .int k)) ?_ ?_
    · refine st_of_w ?_
      refine sw_and ?_
      refine st_val ?_
      refine se_isi (T := "int") (se_var (i := 1) rfl ⟨_, _, tyN_fr fr, kit_int fr, ?_⟩) B.isinstance B.int
      refine if2_split (fun q2 => ?_) fun q => ⟨L1.mono (by omega), fun z => (by cases z)⟩
      obtain ⟨k, rfl⟩ : ∃ k, x = .int k := by cases x <;> first | exact ⟨_, rfl⟩ | (cases q2; done) | (cases q; done)
      refine sw_and1 ?_
      refine st_cmp op_gt cmpN_w (nomark _) ?_
      refine se_callD D_take (hr.mono (by omega)) ?_
      refine sa_cons (se_var (i := 0) rfl (sa_cons (se_int (sa_nil ?_))))
      refine ⟨p, 4, _, rfl, by decide, by decide, L1.jar, by omega, fun z mu2 z0 z1 j2 e2 => ?_⟩
      exact se_int ⟨_, _, rfl, rfl, fun b2 hb2 => ⟨L1.step e2 j2, fun _ => ⟨k, rfl⟩⟩⟩
    rintro b mu2 ⟨L2, hx⟩
    refine if2_split (fun q => ?_) fun q => sss_nil ⟨rfl, L2⟩
    obtain ⟨k, rfl⟩ := hx q
    have ok := fr_int' fx
    refine sss_cons ?_
    refine ss_ret ?_
    refine se_callD D_of (hr.mono (by omega)) ?_
    refine sa_cons ?_
    refine se_var (i := 0) rfl ?_
    refine sa_cons ?_
    refine se_lst ?_
    refine sa_cons ?_
    refine se_bin op_Add Add_w (se_var (i := 1) rfl (se_int ?_))
    refine sa_cons ?_
    refine se_bin op_Sub Sub_w (se_var (i := 1) rfl (se_int ?_))
    refine sa_cons ?_
    refine se_neg (se_var (i := 1) rfl ⟨k, rfl, ?_⟩)
    refine sa_cons ?_
    refine se_cmp op_eq eqN_w (nomark _) ?_
    refine se_var (i := 1) rfl (se_int ⟨_, _, rfl, rfl, fun b hb => ?_⟩)
    refine sa_cons ?_
    refine se_strI (se_var (i := 1) rfl ⟨k, rfl, (int_log ok (by omega)).1, ?_⟩) B.str
    refine sa_cons ?_
    refine se_non ?_
    refine sa_cons ?_
    refine se_int ?_
    refine sa_nil ⟨by show 7 ≤ sizeLine; decide, fun q4 nq4 => ?_⟩
    have L4 := L2.new nq4 (.lst [.int (k + 1), .int (k - 1), .int (-k), .bl b, .str (toString k : String), .non, .int 0])
    refine sa_nil ?_
    refine ⟨p, _, [.int (k + 1), .int (k - 1), .int (-k), .bl b, .str (toString k : String), .non, .int 0], _, rfl, .inr (.inl ⟨q4, rfl, L4.ne 0 rfl, L4.at 0 rfl⟩), by simp, by show 7 ≤ 1000; decide, L4.jar, by omega, fun u mu5 hu j5 e5 => ?_⟩
    have fin : ∀ u, FrOk (t + 1) (n + 8) u → sz u = 1 → Pt u mu5 := fun u f1 f2 => h u _ f1 (by omega) (j5.mono (by omega)) (L4.step e5 j5).ex
    simp only [List.mem_cons, List.not_mem_nil, or_false] at hu
    rcases hu with rfl | rfl | rfl | rfl | rfl | rfl | rfl
    · exact fin _ (fr_int (ok.near (by omega))) rfl
    · exact fin _ (fr_int (ok.near (by omega))) rfl
    · exact fin _ (fr_int (ok.near (by omega))) rfl
    · exact fin _ fr_bl rfl
    · exact fin _ (fr_str (int_str ok (by omega))) rfl
    · exact fin _ fr_non rfl
    · exact fin _ (fr_int (Nat.zero_le _)) rfl
  rintro G1 mu2 ⟨rfl, L2⟩
  -- a text
  refine sss_cons ?_
  refine ss_post (fun G1 mu1 => G1 = [some (.m p), some x, none, none, none] ∧ Live mu mu1 p (c + 3) []) ?_ ?_
  · refine ss_if ?_
    refine st_post (fun b mu1 => Live mu mu1 p (c + 3) [] ∧ (b = true → ∃ z, x = .str z)) ?_ ?_
    · refine st_of_w ?_
      refine sw_and ?_
      refine st_val ?_
      refine se_isi (T := "str") (se_var (i := 1) rfl ⟨_, _, tyN_fr fr, kit_str fr, ?_⟩) B.isinstance B.str
      refine if2_split (fun q2 => ?_) fun q => ⟨L2.mono (by omega), fun z => (by cases z)⟩
      obtain ⟨y, rfl⟩ : ∃ y, x = .str y := by cases x <;> first | exact ⟨_, rfl⟩ | cases q2
      refine sw_and1 ?_
      refine st_cmp op_gt cmpN_w (nomark _) ?_
      refine se_callD D_take (hr.mono (by omega)) ?_
      refine sa_cons (se_var (i := 0) rfl (sa_cons (se_int (sa_nil ?_))))
      refine ⟨p, 4, _, rfl, by decide, by decide, L2.jar, by omega, fun z mu2 z0 z1 j2 e2 => ?_⟩
      exact se_int ⟨_, _, rfl, rfl, fun b2 hb2 => ⟨L2.step e2 j2, fun _ => ⟨y, rfl⟩⟩⟩
    rintro b mu3 ⟨L3, hx⟩
    refine if2_split (fun q => ?_) fun q => sss_nil ⟨rfl, L3⟩
    obtain ⟨y, rfl⟩ := hx q
    have ok := fr_str' fx
    refine sss_cons ?_
    refine ss_ret ?_
    refine se_callD D_of (hr.mono (by omega)) ?_
    refine sa_cons ?_
    refine se_var (i := 0) rfl ?_
    refine sa_cons ?_
    refine se_lst ?_
    refine sa_cons ?_
    refine se_str ?_
    refine sa_cons ?_
    refine se_str ?_
    refine sa_cons ?_
    refine se_str ?_
    refine sa_cons ?_
    refine se_str ?_
    refine sa_cons ?_
    refine se_str ?_
    refine sa_cons ?_
    refine se_str ?_
    refine sa_cons ?_
    refine se_str ?_
    refine sa_cons ?_
    refine se_str ?_
    refine sa_cons ?_
    refine se_str ?_
    refine sa_cons ?_
    refine se_bin op_add_str cat_w (se_var (i := 1) rfl (se_str ⟨by
      have := ok.1
      have : (("a" : Str)).length = 1 := by decide +kernel
      omega, ?_⟩))
    refine sa_nil ⟨by show 10 ≤ sizeLine; decide, fun q4 nq4 => ?_⟩
    change SA _ _ _ (setM mu3 q4 (.lst (texts9.map W.str ++ [.str (y ++ "a")]))) _
    have L4 := L3.new nq4 (.lst (texts9.map W.str ++ [.str (y ++ "a")]))
    refine sa_nil ?_
    refine ⟨p, _, texts9.map W.str ++ [.str (y ++ "a")], _, rfl, .inr (.inl ⟨q4, rfl, L4.ne 0 rfl, L4.at 0 rfl⟩), by simp, by show 10 ≤ 1000; decide, L4.jar, by omega, fun u mu5 hu j5 e5 => ?_⟩
    have fin : ∀ u, FrOk (t + 1) (n + 8) u → sz u = 1 → Pt u mu5 := fun u f1 f2 => h u _ f1 (by omega) (j5.mono (by omega)) (L4.step e5 j5).ex
    rcases List.mem_append.mp hu with hu | hu
    · obtain ⟨z, hz, rfl⟩ := List.mem_map.mp hu
      exact fin _ (fr_str (texts9_ok hz)) rfl
    · rw [List.mem_singleton.mp hu]
      exact fin _ (fr_str (str_a ok)) rfl
  rintro G1 mu3 ⟨rfl, L3⟩
  -- an odd one
  refine sss_cons ?_
  refine ss_ret ?_
  refine se_callD D_odd (hr.mono (by omega)) ?_
  refine sa_cons (se_var (i := 0) rfl (sa_nil ?_))
  refine ⟨p, _, rfl, L3.jar, by omega, fun u mu4 fu su j4 e4 => ?_⟩
  exact h u _ (fu.mono (by omega) (by omega)) (by omega) (j4.mono (by omega)) (L3.step e4 j4).ex
abbrev DBents (P : Program) (w : World) (K : PySem.W.Frag) (mg : Str → Option Value) (base : Heap) : Prop := ∀ n, DBent P w K mg base n
theorem d_Lbent (D : Dfn K mg "_law_bent" s_Lbent ["_law_jar_here", "_law_node"]) (B : Bl mg) (Kb : KNo mg "bool") (Kl : KNo mg "list") (D_take : DTake P w K mg base) (D_of : DOf P w K mg base) (D_odd : DOdd P w K mg base) : DBents P w K mg base := by
  intro n
  induction n with
  | zero => exact bent_at 0 (fun m e => by omega) D B Kb Kl D_take D_of D_odd
  | succ n ih =>
    exact bent_at (n + 1) (fun m e => by
      have e : m = n := by omega
      subst e
      exact ih) D B Kb Kl D_take D_of D_odd
end
end K1
set_option Elab.async false
set_option linter.all false
set_option maxRecDepth 100000
/-! k70: looks; the page. -/
namespace K1
open PySem L2 Dv
theorem szs_six : ∀ {us : List W}, (∀ u ∈ us, sz u ≤ 6) → szs us ≤ 6 * us.length
  | [], _ => Nat.le_refl _
  | u :: us, h => by
    have a := h u (by simp)
    have b := szs_six (us := us) fun v hv => h v (by simp [hv])
    simp only [szs, List.length_cons]
    omega
theorem st_nm {z : Str} (h : NmOk z) : StOk 0 z := by
  refine ⟨by have := h.2.1; omega, fun c hc => ?_⟩
  have := h.2.2 c hc
  have : (16 : Nat) ^ 8 = 4294967296 := by decide
  omega
theorem st_sort {z : Str} (h : z ∈ sorts3) : StOk 0 z := by
  have a : sorts3.all stB = true := by decide +kernel
  exact stB_ok (List.all_eq_true.mp a z h)
theorem st_answer {z : Str} (h : z ∈ answers5) : StOk 0 z := by
  have a : answers5.all stB = true := by decide +kernel
  exact stB_ok (List.all_eq_true.mp a z h)
theorem in_small {i : Int} (h0 : 0 ≤ i) (h1 : i ≤ 1000) : InOk 0 i := by unfold InOk; omega
theorem five_ok {b e k s an : W} (h1 : FrOk 0 0 b) (h2 : FrOk 0 0 e) (h3 : FrOk 0 0 k) (h4 : FrOk 0 0 s) (h5 : FrOk 0 0 an) : FrOk 0 1 (.tup [b, e, k, s, an]) := fun w hw => by
  simp only [List.mem_cons, List.not_mem_nil, or_false] at hw
  rcases hw with rfl | rfl | rfl | rfl | rfl <;> assumption
theorem told_ok {d : De} {n : Nat} (h : DeOk d n) (hn : n ≤ 1000) : FrOk 0 1 (toldW d) ∧ sz (toldW d) ≤ 6 := by
  obtain ⟨b, e, k, s, m⟩ := d
  have hb : b ≤ (n : Int) := h.b.2
  have h1 : FrOk 0 0 (.int b) := fr_int (in_small h.b.1 (by omega))
  have h3 : FrOk 0 0 (.str k) := fr_str (st_nm h.k)
  have h4 : FrOk 0 0 (.str s) := fr_str (st_sort h.s)
  cases e with
  | none => exact ⟨five_ok h1 fr_non h3 h4 fr_non, by show 1 + (1 + (1 + (1 + (1 + 0)))) + 1 ≤ 6; decide⟩
  | some i =>
    have he := h.e i rfl
    have h2 : FrOk 0 0 (.int i) := fr_int (in_small he.1 (by omega))
    cases m with
    | none => exact absurd rfl (h.em (by simp))
    | some q =>
      obtain ⟨m, t, y, u⟩ := q
      exact ⟨five_ok h1 h2 h3 h4 (fr_str (st_answer (h.y m t y u rfl))), by show 1 + (1 + (1 + (1 + (1 + 0)))) + 1 ≤ 6; decide⟩
theorem page_ok {ds : List (Addr × De)} {n : Nat} (h : ∀ q ∈ ds, DeOk q.2 n) (hn : n ≤ 1000) (l : ds.length ≤ 8) : FrOk 0 2 (.tup (ds.map fun q => toldW q.2)) ∧ sz (.tup (ds.map fun q => toldW q.2)) ≤ 49 := by
  refine ⟨fun w hw => ?_, ?_⟩
  · obtain ⟨q, hq, rfl⟩ := List.mem_map.mp hw
    exact (told_ok (h q hq) hn).1
  · have := szs_six (us := ds.map fun q => toldW q.2) fun u hu => by
      obtain ⟨q, hq, rfl⟩ := List.mem_map.mp hu
      exact (told_ok (h q hq) hn).2
    rw [List.length_map] at this
    show szs _ + 1 ≤ 49
    omega
section
variable {P : Program} {w : World} {K : PySem.W.Frag} {mg : Str → Option Value} {base : Heap}
def N_Llooks : List Str := ["_law_names_here", "_law_many", "_law_found", "_law_at"]
abbrev s_Llooks : Stmt := top 33
theorem sc_Llooks : FnScope N_Llooks ["_law_names_here", "_law_many"] (defScope s_Llooks) := ⟨rfl, rfl, rfl, by decide +kernel, rfl, by decide +kernel, by decide +kernel⟩
def S_looks : SpW := fun ws mu P => ∃ a many, ∃ ns : List Str, ws = [.m a, .int ((many : Nat) : Int)] ∧ many ≤ 25 ∧ mu a = some (.lst (stW ns)) ∧ ns ≠ [] ∧ (∀ z ∈ ns, NmOk z) ∧ ∀ us mu', (∀ u ∈ us, FrOk 0 1 u ∧ sz u ≤ 6) → us.length = many → Ext mu mu' → P (.tup us) mu'
set_option maxHeartbeats 1000000 in
theorem d_Llooks (D : Dfn K mg "_law_looks" s_Llooks ["_law_names_here", "_law_many"]) (B : Bl mg) : DefOk P w K mg base "_law_looks" ["_law_names_here", "_law_many"] 1 S_looks := by
  refine dfnOk D sc_Llooks (fun ws mu P ⟨_, _, _, e, _⟩ => by rw [e]; rfl) (fun f cdv A outer s H E hr ws mu Pt ⟨a, many, ns, e, m25, ha, ns0, nm, h⟩ => ?_)
  subst e
  refine sss_cons ?_
  refine ss_asg ?_
  refine se_lst (sa_nil ⟨by decide, fun F nF => ?_⟩)
  refine sg_name (i := 2) ?_ sc_Llooks.nd
  refine sss_cons ?_
  refine ss_for PassesOwn.never rfl (by intro _; rfl) ?_
  refine si_range (se_var (i := 1) rfl ⟨by omega, by omega, ?_⟩) B.range
  rw [Int.toNat_natCast]
  refine ⟨fun i G' mu' => ∃ y us, G' = [some (.m a), some (.int (many : Int)), some (.m F), y] ∧ Ext mu mu' ∧ mu' F = some (.lst us) ∧ us.length = i ∧ ∀ u ∈ us, FrOk 0 1 u ∧ sz u ≤ 6,
    ⟨none, [], rfl, Ext.refl.set nF, setM_same, rfl, by simp⟩, fun _ _ _ _ _ => trivial, fun i w G' mu' hw ⟨y, us, eG, ex, hF, hl, hu⟩ => ?_, fun G' mu' ⟨y, us, eG, ex, hF, hl, hu⟩ => ?_⟩
  · subst eG
    have hi : i < many := by
      have := (List.getElem?_eq_some_iff.mp hw).1
      rw [List.length_map, List.length_range] at this
      exact this
    rw [List.getElem?_map, List.getElem?_range hi] at hw
    have hw : w = .int (i : Int) := (Option.some.inj hw).symm
    subst hw
    have ha' := ex _ _ ha
    have lp : 0 < ns.length := List.length_pos_iff.mpr ns0
    refine sg_name (i := 3) ?_ sc_Llooks.nd
    refine sss_cons ?_
    refine ss_expr ?_
    refine se_append (se_var (i := 2) rfl ⟨⟨_, hF⟩, sa_one ?_⟩)
    refine se_tup ?_
    refine sa_cons ?_
    refine se_bin op_Add Add_w ?_
    refine se_bin op_Mult Mult_w (se_int (se_var (i := 3) rfl ⟨cmulW 2 5 (by decide) (by omega) (by decide) (by decide) (by decide), ?_⟩))
    refine se_int ?_
    refine sa_cons ?_
    refine se_bin op_Add Add_w ?_
    refine se_bin op_Mult Mult_w (se_int (se_var (i := 3) rfl ⟨cmulW 2 5 (by decide) (by omega) (by decide) (by decide) (by decide), ?_⟩))
    refine se_int ?_
    refine sa_cons ?_
    refine se_ix ?_
    refine se_var (i := 0) rfl ?_
    refine se_bin op_Mod Mod_w ?_
    refine se_intC (se_var (i := 3) rfl ?_) B.int
    refine se_len (se_var (i := 0) rfl ⟨_, ha', ?_⟩) B.len
    have el : (stW ns).length = ns.length := by unfold stW; rw [List.length_map]
    rw [el]
    refine ⟨by omega, ?_⟩
    have r0 : 0 ≤ (i : Int) % (ns.length : Int) := Int.emod_nonneg _ (by omega)
    have r1 : (i : Int) % (ns.length : Int) < ((stW ns).length : Nat) := by rw [el]; exact Int.emod_lt_of_pos _ (by omega)
    obtain ⟨x, hx, q⟩ := atI_lt r0 r1
    obtain ⟨z, hz, rfl⟩ := List.mem_map.mp hx
    refine ⟨_, _, ha', q, ?_⟩
    refine sa_cons ?_
    refine se_str ?_
    refine sa_cons ?_
    refine se_str ?_
    refine sa_nil ⟨by show 5 ≤ sizeLine; decide, ?_⟩
    have s25 : (25 : Nat) < sizeLine := by decide
    refine ⟨us, hF, by omega, sss_nil ⟨_, _, rfl, Ext.own ex nF, setM_same, by rw [List.length_append, hl]; rfl, fun u hu2 => ?_⟩⟩
    rcases List.mem_append.mp hu2 with h2 | h2
    · exact hu u h2
    · rw [List.mem_singleton.mp h2]
      refine ⟨five_ok (fr_int (in_small (by omega) (by omega))) (fr_int (in_small (by omega) (by omega))) (fr_str (st_nm (nm z hz))) (fr_str (st_sort (by simp [sorts3]))) (fr_str (st_answer (by simp [answers5]))), ?_⟩
      show 1 + (1 + (1 + (1 + (1 + 0)))) + 1 ≤ 6
      decide
  · subst eG
    rw [List.length_map, List.length_range] at hl
    refine sss_cons ?_
    refine ss_ret (se_tupleC (se_var (i := 2) rfl ⟨_, hF, ?_⟩) B.tuple)
    exact h us _ hu hl ex
end
end K1
set_option Elab.async false
set_option linter.all false
set_option maxRecDepth 100000
/-! k70: _law_right. -/
namespace K1
open PySem L2 Dv
theorem ne_self (x : Str) : (!decide (x = x)) = false := by simp
theorem asF_fr {mu : Mu} {u : W} (h : frW u = true) : asF mu u = some (dat u) := by
  cases u with
  | m a => unfold frW at h; cases h
  | _ => exact (if_pos h : (if frW _ = true then some (dat _) else (none : Option PyData)) = _)
/-- a thing that is looked at -/
def Th (u : W) : Prop := FrOk 3 26 u ∧ sz u ≤ 1000
theorem Th.frb {u : W} (h : Th u) : FrB u := ⟨3, 26, by decide, h.1⟩
theorem Th.show {u : W} (h : Th u) : ShowOk (dat u) := h.1.show (by decide) (by decide) (by have := h.2; omega)
theorem th_of {u : W} {t n : Nat} (h : FrOk t n u) (ht : t ≤ 3) (hn : n ≤ 26) (hs : sz u ≤ 1000) : Th u := ⟨h.mono ht hn, hs⟩
theorem looks_th {us : List W} {m : Nat} (h : ∀ u ∈ us, FrOk 0 1 u ∧ sz u ≤ 6) (hl : us.length = m) (hm : m ≤ 25) : Th (.tup us) := by
  refine th_of (n := 2) (fun u hu => (h u hu).1) (by decide) (by decide) ?_
  have := szs_six fun u hu => (h u hu).2
  show szs us + 1 ≤ 1000
  omega
theorem reprA_by {mu : Mu} {u : W} {P : PW1} (h : Th u) (q : P (.str (dat u).shown) mu) : reprAW [u] mu P := ⟨u, _, rfl, asF_fr h.frb.fr, h.show, q⟩
theorem reprB_by {mu : Mu} {b : Bool} {P : PW1} (q : P (.str (dat (.bl b)).shown) mu) : reprAW [.bl b] mu P := reprA_by (u := .bl b) ⟨fr_bl, by show 1 ≤ 1000; decide⟩ q
section
variable {P : Program} {w : World} {K : PySem.W.Frag} {mg : Str → Option Value} {base : Heap}
def N_Lright : List Str := ["_law_jar_here", "_law_names_here", "_law_page", "_law_some", "_law_turn", "_law_bent_here", "_law_more", "_law_thing", "_law_shown", "_law_due_here"]
abbrev s_Lright : Stmt := top 34
theorem sc_Lright : FnScope N_Lright ["_law_jar_here"] (defScope s_Lright) := ⟨rfl, rfl, rfl, by decide +kernel, rfl, by decide +kernel, by decide +kernel⟩
def S_lright : SpW := fun ws mu P => ∃ p c, ws = [.m p] ∧ JarOk mu p c ∧ c + 7000 < 200000 ∧ ∀ mu', JarOk mu' p (c + 6000) → ExtBut p mu mu' → P (.bl true) mu'
abbrev DLooks (P : Program) (w : World) (K : PySem.W.Frag) (mg : Str → Option Value) (base : Heap) : Prop := DefOk P w K mg base "_law_looks" ["_law_names_here", "_law_many"] 1 S_looks
/-- looks of the first k names -/
theorem looks_of {X : Cx} {G : Gs} {mu : Mu} {PP : PW1} {k : Nat} {m : Nat} {y : Addr} {ns : List Str} {p1 pos : Pos}
    (D : DLooks X.prog X.w X.K X.mg X.base) (hr : Room 1 X.A) {e1 e2 : Expr} (hy : mu y = some (.lst (stW ns))) (k0 : 0 < k) (kn : k ≤ ns.length) (m25 : m ≤ 25) (nm : ∀ z ∈ ns, NmOk z)
    (h1 : ∀ (Q : PW1), (∀ q, mu q = none → Q (.m q) (setM mu q (.lst (stW (ns.take k))))) → SE X e1 G mu Q) (h2 : ∀ (mu' : Mu) (Q : PW1), Q (.int (m : Nat)) mu' → SE X e2 G mu' Q)
    (h : ∀ us mu', (∀ u ∈ us, FrOk 0 1 u ∧ sz u ≤ 6) → us.length = m → Ext mu mu' → PP (.tup us) mu')
    (hg : Gl X "_law_looks" := by rfl) (hs : starEach [e1, e2] X.env = (false, eval e1 X.env) :: starEach [e2] X.env := by rfl) (hs2 : starEach [e2] X.env = (false, eval e2 X.env) :: starEach [] X.env := by rfl) (hpl : (backTo pos (starEach [e2] X.env)).any (·.1) = false := by rfl) :
    SE X (.Call (.Name "_law_looks" p1) [e1, e2] [] pos) G mu PP := by
  refine se_callD D hr ?_ hg (by decide) hs hpl
  refine sa_cons (h1 _ fun q nq => ?_) hs
  refine sa_cons (h2 _ _ (sa_nil ?_)) hs2
  have ne : ns.take k ≠ [] := fun z => by
    have := congrArg List.length z
    rw [List.length_take, List.length_nil] at this
    omega
  refine ⟨q, m, ns.take k, rfl, m25, setM_same, ne, fun z hz => nm z (List.mem_of_mem_take hz), fun us mu' a b c => h us mu' a b ((Ext.refl.set nq).trans c)⟩
end
end K1
set_option Elab.async false
set_option linter.all false
set_option maxRecDepth 100000
/-! k70: _law_right, the end. -/
namespace K1
open PySem L2 Dv
theorem cut_st {ns : List Str} {k : Nat} (h : k ≤ ns.length) : cutW (stW ns) none (some (k : Nat)) = stW (ns.take k) := by
  have := cut_to (us := stW ns) (i := k) (by unfold stW; rw [List.length_map]; exact h)
  rw [this]
  unfold stW
  rw [List.map_take]
theorem slTo_st {mu : Mu} {y : Addr} {ns : List Str} {Q : PW1} (k : Nat) (hk : k ≤ ns.length) (hy : mu y = some (.lst (stW ns))) (q : ∀ p, mu p = none → Q (.m p) (setM mu p (.lst (stW (ns.take k))))) : slW (.m y) none (some (k : Nat)) mu Q := ⟨stW ns, hy, fun p np => by rw [cut_st hk]; exact q p np⟩
theorem bent_size {s j : Nat} (h0 : j = 0 → s ≤ 49) (h1 : j = 1 → s ≤ 158) (h2 : j = 2 → s ≤ 376) (hj : j ≤ 2) : 2 * s + 60 ≤ 812 ∧ (j + 1 = 1 → 2 * s + 60 ≤ 158) ∧ (j + 1 = 2 → 2 * s + 60 ≤ 376) := by
  have : j = 0 ∨ j = 1 ∨ j = 2 := by omega
  rcases this with rfl | rfl | rfl
  · have := h0 rfl; omega
  · have := h1 rfl; omega
  · have := h2 rfl; omega
section
variable {P : Program} {w : World} {K : PySem.W.Frag} {mg : Str → Option Value} {base : Heap}
abbrev DNames (P : Program) (w : World) (K : PySem.W.Frag) (mg : Str → Option Value) (base : Heap) : Prop := DefOk P w K mg base "_law_names" ["_law_jar_here", "_law_many"] 3 S_names
set_option maxHeartbeats 4000000 in
theorem d_Lright (D : Dfn K mg "_law_right" s_Lright ["_law_jar_here"]) (B : Bl mg) (D_take : DTake P w K mg base) (D_names : DNames P w K mg base) (D_told : DefOk P w K mg base "_law_told" ["_law_deeds"] 1 S_told) (D_story : DStory P w K mg base) (D_looks : DLooks P w K mg base)
    (D_odd : DOdd P w K mg base) (D_bent : DBents P w K mg base) (D_due : DefOk P w K mg base "_law_due" ["_law_thing"] 3 (S_any histB)) (D_hist : DefOk P w K mg base "is_history" ["value"] 4 (S_any histB)) (K_hist : DefKw P w K mg base "is_history" "value" 4 (S_any histB)) :
    DefG P w K mg base "_law_right" ["_law_jar_here"] 24 S_lright := by
  refine dfnG D sc_Lright (fun ws mu P ⟨_, _, e, _⟩ => by rw [e]; rfl) (fun f cdv A outer s H E hr hgd ws mu Pt ⟨p, c, e, jar, hc, h⟩ => ?_)
  subst e
  -- names
  refine sss_cons ?_
  refine ss_asg ?_
  refine se_callD D_names (hr.mono (by decide)) ?_
  refine sa_cons (se_var (i := 0) rfl (sa_cons (se_int (sa_nil ?_))))
  refine ⟨p, 4, c, rfl, by decide, jar, by omega, fun y ns mu1 ny hy nl nnd nm j1 e1 => ?_⟩
  have yp : y ≠ p := Ne.symm (jar.ne ny)
  refine sg_name (i := 1) ?_ sc_Lright.nd
  have L1 : Live mu mu1 p (c + 10) [(y, .lst (stW ns))] := ⟨j1, fun q hq => by rw [List.mem_singleton.mp hq]; exact ⟨hy, yp, ny⟩, by simp, e1⟩
  -- the page
  refine sss_cons ?_
  refine ss_asg ?_
  refine se_callD D_told (hr.mono (by decide)) ?_
  refine sa_cons ?_
  refine se_callD D_story (hr.mono (by decide)) ?_
  refine sa_cons (se_var (i := 0) rfl (sa_cons ?_))
  refine se_slTo (se_var (i := 1) rfl ?_)
  refine se_bin op_Add Add_w (se_int ?_)
  refine se_callD D_take (hr.mono (by decide)) ?_
  refine sa_cons (se_var (i := 0) rfl (sa_cons (se_int (sa_nil ?_))))
  refine ⟨p, 3, _, rfl, by decide, by decide, L1.jar, by omega, fun r mu2 r0 r1 j2 e2 => ?_⟩
  have L2 := L1.step e2 j2
  obtain ⟨k, rfl⟩ : ∃ k : Nat, r = k := ⟨r.toNat, by omega⟩
  have k3 : k < 3 := by omega
  have ek : (1 : Int) + (k : Int) = ((1 + k : Nat) : Int) := by omega
  dsimp only [opAddV, isI]
  rw [ek]
  refine slTo_st (1 + k) (by omega) (L2.at 0 rfl) fun q3 nq3 => ?_
  have L3 := L2.new nq3 (.lst (stW (ns.take (1 + k))))
  generalize setM mu2 q3 (.lst (stW (ns.take (1 + k)))) = mu3 at L3 ⊢
  refine sa_cons ?_
  refine se_bin op_Add Add_w (se_int ?_)
  refine se_callD D_take (hr.mono (by decide)) ?_
  refine sa_cons (se_var (i := 0) rfl (sa_cons (se_int (sa_nil ?_))))
  refine ⟨p, 8, _, rfl, by decide, by decide, L3.jar, by omega, fun r mu4 r0 r1 j4 e4 => ?_⟩
  have L4 := L3.step e4 j4
  obtain ⟨m, rfl⟩ : ∃ m : Nat, r = m := ⟨r.toNat, by omega⟩
  have em : (1 : Int) + (m : Int) = ((1 + m : Nat) : Int) := by omega
  refine sa_nil ?_
  refine ⟨p, q3, 1 + m, _, ns.take (1 + k), by show [W.m p, .m q3, .int (1 + (m : Int))] = _; rw [em], by omega, L4.jar, by omega, L4.at 1 rfl, L4.ne 1 rfl, fun z => by
    have := congrArg List.length z
    rw [List.length_take, List.length_nil] at this
    omega, by rw [List.length_take]; omega, fun z hz => nm z (List.mem_of_mem_take hz), fun Dd ds mu5 dd l8 dok j5 e5 => ?_⟩
  have L5 := L4.step e5 j5
  refine sa_nil ?_
  refine ⟨Dd, ds, 256, rfl, dd, l8, dok, fun mu6 e6 => ?_⟩
  have L6 := L5.ext e6
  obtain ⟨pg1, pg2⟩ := page_ok dok (by decide) l8
  have pl : (ds.map fun q => toldW q.2).length ≤ 8 := by rw [List.length_map]; exact l8
  generalize (ds.map fun q => toldW q.2) = pg at pg1 pg2 pl ⊢
  refine sg_name (i := 2) ?_ sc_Lright.nd
  have L6 : Live mu mu6 p (c + 212) [(y, .lst (stW ns))] := (L6.sub (.cons_cons _ (List.nil_sublist _))).mono (by omega)
  have z100 : 100 ≤ sizeLine := by decide
  -- the first four
  refine sss_cons ?_
  refine ss_asg ?_
  refine se_lst ?_
  refine sa_cons (se_var (i := 2) rfl ?_)
  refine sa_cons ?_
  refine looks_of D_looks (hr.mono (by decide)) (k := 1) (m := 8) (L6.at 0 rfl) (by decide) (by omega) (by decide) nm (fun Q hq => se_slTo (se_var (i := 1) rfl (se_int (slTo_st 1 (by omega) (L6.at 0 rfl) hq)))) (fun mu' Q hq => se_int hq) fun a1 mu7 g1 b1 e7 => ?_
  have L7 := L6.ext e7
  refine sa_cons ?_
  refine looks_of D_looks (hr.mono (by decide)) (k := 1) (m := 9) (L7.at 0 rfl) (by decide) (by omega) (by decide) nm (fun Q hq => se_slTo (se_var (i := 1) rfl (se_int (slTo_st 1 (by omega) (L7.at 0 rfl) hq)))) (fun mu' Q hq => se_int hq) fun a2 mu8 g2 b2 e8 => ?_
  have L8 := L7.ext e8
  refine sa_cons ?_
  refine looks_of D_looks (hr.mono (by decide)) (k := 3) (m := 24) (L8.at 0 rfl) (by decide) (by omega) (by decide) nm (fun Q hq => se_slTo (se_var (i := 1) rfl (se_int (slTo_st 3 (by omega) (L8.at 0 rfl) hq)))) (fun mu' Q hq => se_int hq) fun a3 mu9 g3 b3 e9 => ?_
  have L9 := L8.ext e9
  refine sa_nil ⟨by show 4 ≤ sizeLine; omega, fun q9 nq9 => ?_⟩
  have L10 := L9.new nq9 (.lst [.tup pg, .tup a1, .tup a2, .tup a3])
  refine sg_name (i := 3) ?_ sc_Lright.nd
  generalize setM mu9 q9 (.lst [.tup pg, .tup a1, .tup a2, .tup a3]) = mu10 at L10 ⊢
  -- five more
  refine sss_cons ?_
  refine ss_asg ?_
  refine se_bin op_cat catL_w ?_
  refine se_var (i := 3) rfl ?_
  refine se_lst ?_
  refine sa_cons ?_
  refine looks_of D_looks (hr.mono (by decide)) (k := 4) (m := 25) (L10.at 0 rfl) (by decide) (by omega) (by decide) nm (fun Q hq => se_slTo (se_var (i := 1) rfl (se_int (slTo_st 4 (by omega) (L10.at 0 rfl) hq)))) (fun mu' Q hq => se_int hq) fun a4 mu11 g4 b4 e11 => ?_
  have L11 := L10.ext e11
  refine sa_cons ?_
  refine se_tup (sa_nil ⟨by decide, ?_⟩)
  refine sa_cons ?_
  refine se_callD D_odd (hr.mono (by decide)) ?_
  refine sa_cons (se_var (i := 0) rfl (sa_nil ?_))
  refine ⟨p, _, rfl, L11.jar, by omega, fun o1 mu12 fo1 so1 j12 e12 => ?_⟩
  have L12 := L11.step e12 j12
  refine sa_cons ?_
  refine se_callD D_odd (hr.mono (by decide)) ?_
  refine sa_cons (se_var (i := 0) rfl (sa_nil ?_))
  refine ⟨p, _, rfl, L12.jar, by omega, fun o2 mu13 fo2 so2 j13 e13 => ?_⟩
  have L13 := L12.step e13 j13
  refine sa_cons ?_
  refine se_bin op_catA catT_w ?_
  refine se_var (i := 2) rfl ?_
  refine se_slTo (se_var (i := 2) rfl (se_int ?_))
  dsimp only [isI, slW]
  obtain ⟨pc, hpc, spc, lpc⟩ : ∃ pc, cutW pg none (some 1) = pc ∧ pc.Sublist pg ∧ pc.length ≤ 8 := by
    refine ⟨_, rfl, ?_, ?_⟩
    · unfold cutW
      exact (List.take_sublist _ _).trans (List.drop_sublist _ _)
    · have : (cutW pg none (some 1)).Sublist pg := by
        unfold cutW
        exact (List.take_sublist _ _).trans (List.drop_sublist _ _)
      exact Nat.le_trans this.length_le pl
  rw [hpc]
  refine ⟨by omega, ?_⟩
  refine sa_nil ⟨by show 5 ≤ sizeLine; omega, fun q14 nq14 => ?_⟩
  have L14 := L13.new nq14 (.lst [.tup a4, .tup [], o1, o2, .tup (pg ++ pc)])
  refine ⟨q9, q14, _, _, rfl, rfl, L14.at 1 rfl, L14.at 2 rfl, by show 9 ≤ sizeLine; omega, fun S nS => ?_⟩
  have L15 := L14.new nS (.lst ([.tup pg, .tup a1, .tup a2, .tup a3] ++ [.tup a4, .tup [], o1, o2, .tup (pg ++ pc)]))
  have thp : Th (.tup pg) := th_of pg1 (by decide) (by decide) (by omega)
  have spg : szs pg + 1 ≤ 49 := pg2
  have fpg : ∀ u ∈ pg, FrOk 0 1 u := pg1
  have th9 : ∀ u ∈ ([.tup pg, .tup a1, .tup a2, .tup a3] ++ [.tup a4, .tup [], o1, o2, .tup (pg ++ pc)] : List W), Th u := fun u hu => by
    simp only [List.cons_append, List.nil_append, List.mem_cons, List.not_mem_nil, or_false] at hu
    rcases hu with rfl | rfl | rfl | rfl | rfl | rfl | rfl | rfl | rfl
    · exact thp
    · exact looks_th g1 b1 (by decide)
    · exact looks_th g2 b2 (by decide)
    · exact looks_th g3 b3 (by decide)
    · exact looks_th g4 b4 (by decide)
    · exact th_of (t := 0) (n := 1) (fun u hu => by cases hu) (by decide) (by decide) (by decide)
    · exact th_of fo1 (by decide) (by decide) (by omega)
    · exact th_of fo2 (by decide) (by decide) (by omega)
    · refine th_of (t := 0) (n := 2) (fun u hu => ?_) (by decide) (by decide) ?_
      · rcases List.mem_append.mp hu with h1 | h1
        · exact fpg u h1
        · exact fpg u (spc.subset h1)
      · show szs (pg ++ pc) + 1 ≤ 1000
        have := szs_sub spc
        rw [szs_app]
        omega
  have l9 : ([.tup pg, .tup a1, .tup a2, .tup a3] ++ [.tup a4, .tup [], o1, o2, .tup (pg ++ pc)] : List W).length = 9 := rfl
  generalize ([.tup pg, .tup a1, .tup a2, .tup a3] ++ [.tup a4, .tup [], o1, o2, .tup (pg ++ pc)] : List W) = us9 at L15 th9 l9 ⊢
  refine sg_name (i := 3) ?_ sc_Lright.nd
  generalize setM (setM mu13 q14 (.lst [.tup a4, .tup [], o1, o2, .tup (pg ++ pc)])) S (.lst us9) = mu15 at L15 ⊢
  have L16 : Live mu mu15 p (c + 240) [(y, .lst (stW ns)), (S, .lst us9)] := (L15.sub (.cons_cons _ (.cons _ (.cons _ (.cons_cons _ .slnil))))).mono (by omega)
  -- one more
  refine sss_cons ?_
  refine ss_expr ?_
  refine se_append (se_var (i := 3) rfl ⟨⟨_, L16.at 1 rfl⟩, sa_one ?_⟩)
  refine se_bin op_catA catT_w ?_
  refine se_var (i := 2) rfl ?_
  refine se_tup ?_
  refine sa_cons ?_
  refine se_tup ?_
  refine sa_cons ?_
  refine se_bin op_Pow Pow_w (se_int (se_int ⟨⟨by decide, by decide, by decide⟩, ?_⟩))
  refine sa_cons ?_
  refine se_bin op_Add Add_w ?_
  refine se_bin op_Pow Pow_w (se_int (se_int ⟨⟨by decide, by decide, by decide⟩, ?_⟩))
  refine se_int ?_
  refine sa_cons ?_
  refine se_ix (se_var (i := 1) rfl (se_int ?_))
  obtain ⟨z0, hz0⟩ : ∃ z, ns[0]? = some z := ⟨_, List.getElem?_eq_getElem (by omega)⟩
  refine ⟨_, .str z0, L16.at 0 rfl, atI_nat' (i := 0) (by unfold stW; rw [List.getElem?_map, hz0]; rfl), ?_⟩
  refine sa_cons ?_
  refine se_str ?_
  refine sa_cons ?_
  refine se_str ?_
  refine sa_nil ⟨by show 5 ≤ sizeLine; omega, ?_⟩
  refine sa_nil ⟨by show 1 ≤ sizeLine; omega, ?_⟩
  have nz := nm z0 (List.mem_of_getElem? hz0)
  have e17 : (10 : Int) ^ (17 : Int).toNat = 100000000000000000 := by decide +kernel
  rw [e17]
  refine ⟨by show pg.length + 1 ≤ sizeLine; omega, ?_⟩
  refine ⟨us9, L16.at 1 rfl, by rw [l9]; omega, ?_⟩
  have th10 : ∀ u ∈ us9 ++ [.tup (pg ++ [.tup [.int 100000000000000000, .int (100000000000000000 + 1), .str z0, .str "put", .str "done"]])], Th u := fun u hu => by
    rcases List.mem_append.mp hu with h1 | h1
    · exact th9 u h1
    · rw [List.mem_singleton.mp h1]
      refine th_of (t := 0) (n := 2) (fun u hu => ?_) (by decide) (by decide) ?_
      · rcases List.mem_append.mp hu with h1 | h1
        · exact fpg u h1
        · rw [List.mem_singleton.mp h1]
          refine five_ok (fr_int ?_) (fr_int ?_) (fr_str (st_nm nz)) (fr_str (st_sort (by simp [sorts3]))) (fr_str (st_answer (by simp [answers5])))
          · show (100000000000000000 : Int).natAbs ≤ 10 ^ 17 + 100 + 0
            decide
          · show (100000000000000000 + 1 : Int).natAbs ≤ 10 ^ 17 + 100 + 0
            decide
      · show szs _ + 1 ≤ 1000
        rw [szs_app]
        have : szs [W.tup [.int 100000000000000000, .int (100000000000000000 + 1), .str z0, .str "put", .str "done"]] = 6 := rfl
        omega
  have L17 := L16.put 1 rfl (.lst (us9 ++ [.tup (pg ++ [.tup [.int 100000000000000000, .int (100000000000000000 + 1), .str z0, .str "put", .str "done"]])]))
  change SSs _ _ _ (setM mu15 S (.lst (us9 ++ [.tup (pg ++ [.tup [.int 100000000000000000, .int (100000000000000000 + 1), .str z0, .str "put", .str "done"]])]))) _
  have l10 : (us9 ++ [W.tup (pg ++ [.tup [.int 100000000000000000, .int (100000000000000000 + 1), .str z0, .str "put", .str "done"]])]).length = 10 := by rw [List.length_append, l9]; rfl
  generalize us9 ++ [W.tup (pg ++ [.tup [.int 100000000000000000, .int (100000000000000000 + 1), .str z0, .str "put", .str "done"]])] = us10 at L17 th10 l10 ⊢
  generalize setM mu15 S (.lst us10) = mu17 at L17 ⊢
  have L17 : Live mu mu17 p (c + 240) [(y, .lst (stW ns)), (S, .lst us10)] := L17
  -- bent ones
  refine sss_cons ?_
  refine ss_for PassesOwn.never rfl (by intro _; rfl) ?_
  refine si_range (se_int ⟨by decide, by decide, ?_⟩) B.range
  rw [show (14 : Int).toNat = 14 from rfl]
  refine ⟨fun i G' mu' => ∃ y4 y5 y6 us, G' = [some (.m p), some (.m y), some (.tup pg), some (.m S), y4, y5, y6, none, none, none] ∧ us.length = 10 + i ∧ (∀ u ∈ us, Th u) ∧ Live mu mu' p (c + 240 + 300 * i) [(y, .lst (stW ns)), (S, .lst us)],
    ⟨none, none, none, us10, rfl, l10, th10, L17⟩, fun _ _ _ _ _ => trivial, fun i w G' mu' hw ⟨y4, y5, y6, us, eG, hl, hu, L⟩ => ?_, fun G' mu' ⟨y4, y5, y6, us, eG, hl, hu, L⟩ => ?_⟩
  · subst eG
    have i14 : i < 14 := by
      have := (List.getElem?_eq_some_iff.mp hw).1
      rw [List.length_map, List.length_range] at this
      exact this
    refine sg_name (i := 4) ?_ sc_Lright.nd
    refine sss_cons ?_
    refine ss_asg ?_
    refine se_var (i := 2) rfl ?_
    refine sg_name (i := 5) ?_ sc_Lright.nd
    refine sss_cons ?_
    refine ss_for PassesOwn.never rfl (by intro _; rfl) ?_
    refine si_range ?_ B.range
    refine se_bin op_Add Add_w (se_int ?_)
    refine se_callD D_take (hr.mono (by decide)) ?_
    refine sa_cons (se_var (i := 0) rfl (sa_cons (se_int (sa_nil ?_))))
    refine ⟨p, 3, _, rfl, by decide, by decide, L.jar, by omega, fun r mu18 r0 r1 j18 e18 => ?_⟩
    have L18 := L.step e18 j18
    obtain ⟨k2, rfl⟩ : ∃ k2 : Nat, r = k2 := ⟨r.toNat, by omega⟩
    refine ⟨by omega, by omega, ?_⟩
    rw [show ((1 : Int) + (k2 : Int)).toNat = 1 + k2 by omega]
    refine ⟨fun j G' mu' => ∃ y6 v, G' = [some (.m p), some (.m y), some (.tup pg), some (.m S), some w, some v, y6, none, none, none] ∧ FrOk j (2 + 8 * j) v ∧ sz v + 60 ≤ 109 * 2 ^ j ∧ Live mu mu' p (c + 240 + 300 * i + 1 + 92 * j) [(y, .lst (stW ns)), (S, .lst us)],
      ⟨y6, .tup pg, rfl, pg1, by simp only [Nat.pow_zero]; omega, L18⟩, fun _ _ _ _ _ => trivial, fun j w2 G' mu' hw2 ⟨y6, v, eG, o1, o2, LL⟩ => ?_, fun G' mu' ⟨y6, v, eG, o1, o2, LL⟩ => ?_⟩
    · subst eG
      have j3 : j < 3 := by
        have := (List.getElem?_eq_some_iff.mp hw2).1
        rw [List.length_map, List.length_range] at this
        omega
      have p4 : 2 ^ j ≤ 4 := by
        have : j = 0 ∨ j = 1 ∨ j = 2 := by omega
        rcases this with rfl | rfl | rfl <;> decide
      refine sg_name (i := 6) ?_ sc_Lright.nd
      refine sss_cons ?_
      refine ss_asg ?_
      refine se_callD (D_bent (2 + 8 * j)) (hr.mono (by omega)) ?_
      refine sa_cons (se_var (i := 0) rfl (sa_cons (se_var (i := 5) rfl (sa_nil ?_))))
      refine ⟨p, j, _, v, rfl, by omega, o1, by omega, LL.jar, by omega, fun u mu19 fu su j19 e19 => ?_⟩
      refine sg_name (i := 5) ?_ sc_Lright.nd
      refine sss_nil ⟨_, u, rfl, fu.mono (Nat.le_refl _) (by omega), by rw [Nat.pow_succ]; omega, (LL.step e19 j19).mono (by omega)⟩
    · subst eG
      rw [List.length_map, List.length_range] at o1 o2 LL
      have p8 : 2 ^ (1 + k2) ≤ 8 := by
        have : k2 = 0 ∨ k2 = 1 ∨ k2 = 2 := by omega
        rcases this with rfl | rfl | rfl <;> decide
      have tv : Th v := th_of o1 (by omega) (by omega) (by omega)
      have s30 : 30 ≤ sizeLine := by decide
      refine sss_cons ?_
      refine ss_expr ?_
      refine se_append (se_var (i := 3) rfl ⟨⟨_, LL.at 1 rfl⟩, sa_one ?_⟩)
      refine se_var (i := 5) rfl ⟨us, LL.at 1 rfl, by omega, ?_⟩
      refine sss_nil ⟨_, _, _, us ++ [v], rfl, by rw [List.length_append, hl]; rfl, fun u h1 => ?_, (LL.put 1 rfl (.lst (us ++ [v]))).mono (by omega)⟩
      rcases List.mem_append.mp h1 with h1 | h1
      · exact hu u h1
      · rw [List.mem_singleton.mp h1]; exact tv
  subst eG
  rw [List.length_map, List.length_range] at hl L
  -- each is looked at
  refine sss_cons ?_
  refine ss_for PassesOwn.never rfl (by intro _; rfl) ?_
  refine si_lst (se_var (i := 3) rfl ⟨us, L.at 1 rfl, ?_⟩)
  refine ⟨fun i G' mu2 => ∃ y7 y8 y9, G' = [some (.m p), some (.m y), some (.tup pg), some (.m S), y4, y5, y6, y7, y8, y9] ∧ Live mu mu2 p (c + 240 + 300 * 14) [(y, .lst (stW ns)), (S, .lst us)],
    ⟨none, none, none, rfl, L⟩, fun i G' mu2 _ ⟨y7, y8, y9, eG, L⟩ => L.at 1 rfl, fun i u G' mu2 hw ⟨y7, y8, y9, eG, L⟩ => ?_, fun G' mu2 ⟨y7, y8, y9, eG, L⟩ => ?_⟩
  · subst eG
    have th := hu u (List.mem_of_getElem? hw)
    refine sg_name (i := 7) ?_ sc_Lright.nd
    refine sss_cons ?_
    refine ss_par (i := 8) (j := 9) ?_ rfl sc_Lright.nd (by decide) (by rfl)
    refine se_reprA hr hgd (se_var (i := 7) rfl (reprA_by th ?_)) B.repr
    refine se_reprA hr hgd ?_ B.repr
    refine se_callD D_due (hr.mono (by decide)) ?_
    refine sa_cons (se_var (i := 7) rfl (sa_nil ⟨u, rfl, th.frb, fun b1 mu3 hb1 e3 => reprB_by ?_⟩))
    refine sss_cons ?_
    refine ss_if ?_
    refine st_of_w ?_
    refine sw_or ?_
    refine st_cmp op_ne neS_w (nomark _) ?_
    refine se_reprA hr hgd ?_ B.repr
    refine se_callD D_hist (hr.mono (by decide)) ?_
    refine sa_cons (se_var (i := 7) rfl (sa_nil ⟨u, rfl, th.frb, fun b2 mu4 hb2 e4 => reprB_by ?_⟩))
    refine se_var (i := 9) rfl ⟨_, _, rfl, rfl, fun b hb => ?_⟩
    rw [hb, hb1, hb2, ne_self]
    refine sw_or ?_
    refine st_cmp op_ne neS_w (nomark _) ?_
    refine se_reprA hr hgd ?_ B.repr
    refine se_kw1 K_hist (hr.mono (by decide)) ?_
    refine se_var (i := 7) rfl ⟨u, rfl, th.frb, fun b3 mu5 hb3 e5 => reprB_by ?_⟩
    refine se_var (i := 9) rfl ⟨_, _, rfl, rfl, fun b' hb' => ?_⟩
    rw [hb', hb3, ne_self]
    refine sw_or1 ?_
    refine st_cmp op_ne neS_w (nomark _) ?_
    refine se_reprA hr hgd (se_var (i := 7) rfl (reprA_by th ?_)) B.repr
    refine se_var (i := 8) rfl ⟨_, _, rfl, rfl, fun b'' hb'' => ?_⟩
    rw [hb'', ne_self]
    exact sss_nil (sss_nil ⟨_, _, _, rfl, ((L.ext e3).ext e4).ext e5⟩)
  · subst eG
    refine sss_cons ?_
    refine ss_ret (se_bl ?_)
    exact h _ (L.jar.mono (by omega)) L.ex
end
end K1
set_option Elab.async false
set_option linter.all false
set_option maxRecDepth 100000
/-! k70: law. -/
namespace K1
open PySem L2 Dv
section
variable {X : Cx}
theorem max2_w : CallW X (fun xs H Q => ∃ i j, xs = [.int i, .int j] ∧ Q (.int (if j > i then j else i)) H) fun ws mu P => ∃ i j, ws = [.int i, .int j] ∧ P (.int (if j > i then j else i)) mu := fun ws vs mu H P Q d m ⟨i, j, e, q⟩ k => by
  subst e
  obtain ⟨x, y, e, d1, d2⟩ := d.two
  have d1 : x = .int i := d1
  have d2 : y = .int j := d2
  subst e d1 d2
  exact ⟨i, j, rfl, k.now q rfl m⟩
theorem min2_w : CallW X (fun xs H Q => ∃ i j, xs = [.int i, .int j] ∧ Q (.int (if j < i then j else i)) H) fun ws mu P => ∃ i j, ws = [.int i, .int j] ∧ P (.int (if j < i then j else i)) mu := fun ws vs mu H P Q d m ⟨i, j, e, q⟩ k => by
  subst e
  obtain ⟨x, y, e, d1, d2⟩ := d.two
  have d1 : x = .int i := d1
  have d2 : y = .int j := d2
  subst e d1 d2
  exact ⟨i, j, rfl, k.now q rfl m⟩
end
section
variable {P : Program} {w : World} {K : PySem.W.Frag} {mg : Str → Option Value} {base : Heap} {f a Cl : Addr} {fd : FuncData} {ns : List Int}
abbrev N_law : List Str := ["_law_script", "_law_k", "_law_jar_here", "_law_turn"]
abbrev s_law : Stmt := top 35
theorem sc_law : FnScope N_law ["_law_script"] (defScope s_law) := ⟨rfl, rfl, rfl, by decide +kernel, rfl, by decide +kernel, by decide +kernel⟩
def S_law (a : Addr) : SpW := fun ws mu P => ws = [.m a] ∧ ∀ mu', P (.bl true) mu'
set_option maxHeartbeats 1000000 in
theorem ok_law (F : Fun K "law" "law" s_law f fd) (B : Bl mg) (sc : Scr base a ns) (D_jar : DefOk P w K mg base "_law_jar" ["_law_script", "_law_k"] 1 (S_jar a))
    (D_right : DefG P w K mg base "_law_right" ["_law_jar_here"] 24 S_lright) : FnG P w K mg base 25 f fd ["_law_script"] (spW K (S_law a)) := by
  refine okG F sc_law (fun ws mu P ⟨e, _⟩ => by rw [e]; rfl) (fun cdv A outer s H E hr hgd ws mu Pt ⟨e, h⟩ => ?_)
  subst e
  refine sss_cons ?_
  refine ss_for PassesOwn.never rfl (by intro _; rfl) ?_
  refine si_range ?_ B.range
  refine se_blt (call_max2 rfl) max2_w B.max ?_
  refine sa_cons (se_int (sa_cons (se_blt (call_min2 rfl) min2_w B.min ?_)))
  refine sa_cons (se_int (sa_cons (se_lenB sc (se_var (i := 0) rfl ⟨rfl, sa_nil ?_⟩) B.len)))
  refine ⟨_, _, rfl, sa_nil ⟨_, _, rfl, ?_⟩⟩
  have hr3 : ∀ n : Nat, ∃ r : Nat, r ≤ 3 ∧ (if (if ((n : Nat) : Int) < 3 then ((n : Nat) : Int) else 3) > 1 then (if ((n : Nat) : Int) < 3 then ((n : Nat) : Int) else 3) else (1 : Int)) = (r : Nat) := fun n => by
    by_cases h1 : ((n : Nat) : Int) < 3
    · by_cases h2 : ((n : Nat) : Int) > 1
      · exact ⟨n, by omega, by rw [if_pos h1, if_pos h2]⟩
      · exact ⟨1, by omega, by rw [if_pos h1, if_neg h2]; rfl⟩
    · exact ⟨3, by omega, by rw [if_neg h1, if_pos (by decide)]; rfl⟩
  obtain ⟨r, r3, er⟩ := hr3 ns.length
  rw [er]
  refine ⟨by omega, by omega, ?_⟩
  rw [Int.toNat_natCast]
  refine ⟨fun i G' mu' => ∃ x y, G' = [some (.m a), x, y, none], ⟨none, none, rfl⟩, fun _ _ _ _ _ => trivial, fun i u G' mu' hu ⟨x, y, eG⟩ => ?_, fun G' mu' ⟨x, y, eG⟩ => ?_⟩
  · subst eG
    have hi : i < r := by have := (List.getElem?_eq_some_iff.mp hu).1; simpa using this
    have eu : u = .int ((i : Nat) : Int) := by
      rw [List.getElem?_map, List.getElem?_range hi] at hu
      exact (Option.some.inj hu).symm
    subst eu
    refine sg_name (i := 1) ?_ sc_law.nd
    refine sss_cons ?_
    refine ss_asg ?_
    refine se_callD D_jar (hr.mono (by decide)) (sa_cons (se_var (i := 0) rfl (sa_cons (se_var (i := 1) rfl (sa_nil ?_)))))
    refine ⟨i, rfl, by omega, fun j mu6 nj jar e6 => ?_⟩
    refine sg_name (i := 2) ?_ sc_law.nd
    refine sss_cons (ss_if (st_not (st_val (se_all ?_ B.all))))
    refine se_lc (own := [("_law_turn", 3)]) (.nm 3) rfl sc_law.nd (blkOk_by (N := N_law) (sc := defScope s_law) (by decide +kernel)) rfl (fun _ _ _ _ _ => (pg_name (i := 3) sc_law.nd rfl (Or.inl rfl))) (by intro _; rfl) ?_
    refine si_range ?_ B.range
    refine se_int ⟨by decide, by decide, ?_⟩
    intro D hD
    refine ⟨fun k acc mu2 => acc = List.replicate k (W.bl true) ∧ JarOk mu2 j (k * 6000), ⟨rfl, jar⟩, fun _ _ _ _ _ => trivial, fun k v2 acc mu9 hv ⟨ea, jr⟩ => ?_, fun acc mu9 ⟨ea, jr⟩ => ?_⟩
    · have k4 : k < 4 := by have := (List.getElem?_eq_some_iff.mp hv).1; simpa using this
      refine ⟨by rw [ea, List.length_replicate]; exact Nat.lt_of_lt_of_le k4 (by decide), _, rfl, fun s H C cl fp => ?_⟩
      refine se_callG D_right (hr.mono (by decide)) hgd (sa_cons (se_var (i := 2) rfl (sa_nil ?_)))
      refine ⟨j, _, rfl, jr, by omega, fun mu10 j10 e10 => ⟨?_, j10.mono (by omega)⟩⟩
      rw [ea, List.replicate_succ']
    · refine ⟨[true, true, true, true], by rw [setM_same, ea]; rfl, ?_⟩
      refine sss_nil ?_
      refine sss_nil ?_
      exact ⟨_, _, rfl⟩
  · subst eG
    exact sss_cons (ss_ret (se_bl (h _)))
end
end K1
set_option Elab.async false
set_option linter.all false
set_option maxRecDepth 100000
/-! All together. -/
namespace K1
open PySem L2 Dv
section
variable {P : Program} {w : World} {K : PySem.W.Frag} {mg : Str → Option Value} {h : Heap}
theorem dfn_by {x : Str} {st : Stmt} {ps : List Str} {f : Addr} {oc : Value} {od an : Option Addr} {osl : Array (Option Value)} {kV doc pm cdv ct : Value} (X : K.In h) (G : h.Ns mainGlobals mg)
    (b : ∀ (kV doc pm : Value) (an : Option Addr) (cdv ct : Value) (us : List Value), us.length = ps.length → bindArgs (PySem.W.fnOf x x (defArgs st) (defBody st) (defScope st) .none kV doc pm an cdv ct) ⟨us, []⟩ = pure (ps.zip us))
    (a : PySem.W.nsIn K mainGlobals x = some (some (.ref f))) (l : K.lookup f = some ⟨oc, od, .func (PySem.W.fnOf x x (defArgs st) (defBody st) (defScope st) .none kV doc pm an cdv ct), osl⟩)
    (c : PySem.W.codeIn K cdv x = true) (k : PySem.W.keepIn K (.ref f) = true) : Dfn K mg x st ps :=
  ⟨f, _, fun_mk l c k, PySem.W.mg_of X G a, (fun_mk l c k).binds b⟩
theorem bl_by (X : K.In h) (G : h.Ns mainGlobals mg) {t1 : Tok} (b1 : PySem.W.nsIn K mainGlobals "isinstance" = some none) (b2 : PySem.W.nsIn K mainGlobals "tuple" = some none) (b3 : PySem.W.nsIn K mainGlobals "list" = some none) (b4 : PySem.W.nsIn K mainGlobals "str" = some none)
    (b5 : PySem.W.nsIn K mainGlobals "len" = some none) (b6 : PySem.W.nsIn K mainGlobals "all" = some none) (b7 : PySem.W.nsIn K mainGlobals "any" = some none) (b8 : PySem.W.nsIn K mainGlobals "zip" = some none) (b9 : PySem.W.nsIn K mainGlobals "set" = some none)
    (b10 : PySem.W.nsIn K mainGlobals "range" = some none) (b11 : PySem.W.nsIn K mainGlobals "sorted" = some none) (b12 : PySem.W.nsIn K mainGlobals "int" = some none) (b13 : PySem.W.nsIn K mainGlobals "abs" = some none) (b14 : PySem.W.nsIn K mainGlobals "min" = some none)
    (b15 : PySem.W.nsIn K mainGlobals "max" = some none) (b16 : PySem.W.nsIn K mainGlobals "enumerate" = some none) (b17 : PySem.W.nsIn K mainGlobals "dict" = some none) (b18 : PySem.W.nsIn K mainGlobals "repr" = some none)
    (b19 : PySem.W.nsIn K mainGlobals "LETTERS" = some (some (.str "abcdefghijklmnopqrstuvwxyz" t1))) : Bl mg :=
  ⟨PySem.W.mg_none_of X G b1, PySem.W.mg_none_of X G b2, PySem.W.mg_none_of X G b3, PySem.W.mg_none_of X G b4, PySem.W.mg_none_of X G b5, PySem.W.mg_none_of X G b6, PySem.W.mg_none_of X G b7, PySem.W.mg_none_of X G b8, PySem.W.mg_none_of X G b9, PySem.W.mg_none_of X G b10, PySem.W.mg_none_of X G b11, PySem.W.mg_none_of X G b12, PySem.W.mg_none_of X G b13, PySem.W.mg_none_of X G b14, PySem.W.mg_none_of X G b15, PySem.W.mg_none_of X G b16, PySem.W.mg_none_of X G b17, PySem.W.mg_none_of X G b18, ⟨_, PySem.W.mg_of X G b19⟩⟩
theorem kdic_KT_ANSWERS {x : Str} {d : Addr} {es : Array DictEntry} {n : Nat} {a1 a2 a3 : Addr} {i1 i2 i3 : Array Value} {n1 n2 n3 : Nat} {s1 s2 s3 : Array (Option Value)} (X : K.In h) (G : h.Ns mainGlobals mg) (g : PySem.W.nsIn K mainGlobals x = some (some (.ref d))) (l : K.lookup d = some ⟨.type "dict", none, .dict es n, #[]⟩) (k : PySem.W.KeysLit w.params es.toList)
    (e1 : PySem.W.nsIn K d "put" = some (some (.ref a1))) (l1 : K.lookup a1 = some ⟨.type "tuple", none, .seq i1 n1, s1⟩) (z1 : i1.size ≤ sizeLine) (r1 : Vals ([("done" : Str), "refused", "again"].map V.str) i1.toList)
    (e2 : PySem.W.nsIn K d "drop" = some (some (.ref a2))) (l2 : K.lookup a2 = some ⟨.type "tuple", none, .seq i2 n2, s2⟩) (z2 : i2.size ≤ sizeLine) (r2 : Vals ([("done" : Str), "none", "again"].map V.str) i2.toList)
    (e3 : PySem.W.nsIn K d "look" = some (some (.ref a3))) (l3 : K.lookup a3 = some ⟨.type "tuple", none, .seq i3 n3, s3⟩) (z3 : i3.size ≤ sizeLine) (r3 : Vals ([("there" : Str), "none", "again"].map V.str) i3.toList)
    : KDic K w mg x ansOf :=
  ⟨d, PySem.W.mg_of X G g, fun z ys hf => by
    unfold ansOf at hf
    split at hf
    · rename_i q; cases hf; subst q; exact ⟨a1, _, i1, n1, ⟨es, n, _, l, k, e1, rfl⟩, l1, rfl, rfl, z1, r1⟩
    · skip
      split at hf
      · rename_i q; cases hf; subst q; exact ⟨a2, _, i2, n2, ⟨es, n, _, l, k, e2, rfl⟩, l2, rfl, rfl, z2, r2⟩
      · skip
        split at hf
        · rename_i q; cases hf; subst q; exact ⟨a3, _, i3, n3, ⟨es, n, _, l, k, e3, rfl⟩, l3, rfl, rfl, z3, r3⟩
        · cases hf⟩

theorem kno_by {x : Str} (X : K.In h) (G : h.Ns mainGlobals mg) (g : PySem.W.nsIn K mainGlobals x = some none) : KNo mg x := ⟨PySem.W.mg_none_of X G g⟩
theorem kint_by {x : Str} {n : Int} {t : Tok} (X : K.In h) (G : h.Ns mainGlobals mg) (g : PySem.W.nsIn K mainGlobals x = some (some (.int n t))) : KInt mg x n := ⟨_, PySem.W.mg_of X G g⟩
theorem kstr_by {x z : Str} {t : Tok} (X : K.In h) (G : h.Ns mainGlobals mg) (g : PySem.W.nsIn K mainGlobals x = some (some (.str z t))) : KStr mg x z := ⟨_, PySem.W.mg_of X G g⟩
theorem ktup_by {x : Str} {ys : List Str} {a : Addr} {its : Array Value} {n : Nat} {osl : Array (Option Value)} (X : K.In h) (G : h.Ns mainGlobals mg) (g : PySem.W.nsIn K mainGlobals x = some (some (.ref a))) (l : K.lookup a = some ⟨.type "tuple", none, .seq its n, osl⟩) (z : its.size ≤ sizeLine) (r : Vals (ys.map V.str) its.toList) : KTup K mg x ys :=
  ⟨a, _, its, n, PySem.W.mg_of X G g, l, rfl, rfl, rfl, z, r⟩
set_option maxHeartbeats 1000000 in
theorem all_by {fa : Addr} (hfa : mg "law" = some (.ref fa)) 
    (B : Bl mg) (KT_bool : KNo mg "bool") (KT_SORTS : KTup K mg "SORTS" sorts3) (KT_ANSWERS : KDic K w mg "ANSWERS" ansOf) (KT_MOST_RECORDS : KInt mg "MOST_RECORDS" 24) (KT_MOST_OF_A_KEY : KInt mg "MOST_OF_A_KEY" 8) (KT_list : KNo mg "list") (D_law : Dfn K mg "law" s_law ["_law_script"])
    (D_is_rising : Dfn K mg "is_rising" s_is_rising ["values"])
    (D_Ltake : Dfn K mg "_law_take" s_Ltake ["_law_jar_here", "_law_many"])
    (D_Lof : Dfn K mg "_law_of" s_Lof ["_law_jar_here", "_law_some"])
    (D_Lnames : Dfn K mg "_law_names" s_Lnames ["_law_jar_here", "_law_many"])
    (D_Ljar : Dfn K mg "_law_jar" s_Ljar ["_law_script", "_law_k"])
    (D_is_integer : Dfn K mg "is_integer" s_is_integer ["value"])
    (D_is_nameA : Dfn K mg "is_name" s_is_nameA ["value"])
    (D_is_tupleA : Dfn K mg "is_tuple" s_is_tupleA ["value", "least", "most"])
    (D_is_time : Dfn K mg "is_time_of_record" s_is_time ["value"])
    (D_is_record : Dfn K mg "is_record" s_is_record ["value"])
    (D_are_different : Dfn K mg "are_different" s_are_different ["names"])
    (D_keys_of : Dfn K mg "keys_of" s_keys_of ["history"])
    (D_numbers_of : Dfn K mg "numbers_of" s_numbers_of ["history", "key"])
    (D_is_history : Dfn K mg "is_history" s_is_history ["value"])
    (D_Lis_int : Dfn K mg "_law_is_int" s_Lis_int ["_law_thing"])
    (D_Lis_name : Dfn K mg "_law_is_name" s_Lis_name ["_law_thing"])
    (D_Lanswers : Dfn K mg "_law_answers" s_Lanswers ["_law_sort"])
    (D_Lis_record : Dfn K mg "_law_is_record" s_Lis_record ["_law_thing"])
    (D_Ldue : Dfn K mg "_law_due" s_Ldue ["_law_thing"])
    (D_Lbehind : Dfn K mg "_law_behind" s_Lbehind ["_law_sort", "_law_is_up"])
    (D_Ltold : Dfn K mg "_law_told" s_Ltold ["_law_deeds"])
    (D_Lanswer : Dfn K mg "_law_answer" s_Lanswer ["_law_sort", "_law_is_up"])
    (D_Lstory : Dfn K mg "_law_story" s_Lstory ["_law_jar_here", "_law_keys", "_law_many"])
    (D_Lodd : Dfn K mg "_law_odd" s_Lodd ["_law_jar_here"])
    (D_Lbent : Dfn K mg "_law_bent" s_Lbent ["_law_jar_here", "_law_node"])
    (D_Llooks : Dfn K mg "_law_looks" s_Llooks ["_law_names_here", "_law_many"])
    (D_Lright : Dfn K mg "_law_right" s_Lright ["_law_jar_here"]) :
    ∃ fd : FuncData, (∀ (s : Shared) (v : Value), BindsTo s fd ⟨[v], []⟩ [("_law_script", v)]) ∧ ∀ (base : Heap) (a : Addr) (ns : List Int), K.In base → base.Ns mainGlobals mg → Scr base a ns → FnG P w K mg base 25 fa fd ["_law_script"] (spW K (S_law a)) := by
  obtain ⟨f, fd, F, hm, hb⟩ := D_law.ex
  have e := hfa.symm.trans hm
  cases e
  refine ⟨fd, fun s v => ?_, fun base a ns _ _ sc => ?_⟩
  · obtain ⟨oc, od, kV, doc, pm, an, cdv, ct, osl, efd, lk, hcd⟩ := F.ex
    subst efd
    exact .of_eq rfl
  · skip
    have E_is_rising := d_is_rising (P := P) (w := w) (base := base) D_is_rising B
    have E__law_take := d_Ltake (P := P) (w := w) (base := base) D_Ltake B
    have E__law_of := d_Lof (P := P) (w := w) (base := base) D_Lof B E__law_take
    have E__law_names := d_Lnames (P := P) (w := w) (base := base) D_Lnames B E__law_take E__law_of
    have E__law_jar := d_Ljar (P := P) (w := w) (base := base) sc D_Ljar B
    have E_is_integer := d_is_integer (P := P) (w := w) (base := base) D_is_integer B KT_bool
    have E_is_name := d_is_nameA (P := P) (w := w) (base := base) D_is_nameA B
    have E_is_tuple := d_is_tupleA (P := P) (w := w) (base := base) D_is_tupleA B
    have E_is_time_of_record := d_is_time (P := P) (w := w) (base := base) D_is_time E_is_integer
    have E_is_record := d_is_record (P := P) (w := w) (base := base) D_is_record KT_SORTS KT_ANSWERS E_is_tuple E_is_time_of_record E_is_name
    have E_are_different := d_are_different (P := P) (w := w) (base := base) D_are_different B
    have E_keys_of := d_keys_of (P := P) (w := w) (base := base) D_keys_of B
    have E_numbers_of := d_numbers_of (P := P) (w := w) (base := base) D_numbers_of B
    obtain ⟨E_is_history, EK_is_history⟩ := d_is_history (P := P) (w := w) (base := base) D_is_history B KT_MOST_RECORDS KT_MOST_OF_A_KEY E_is_tuple E_is_record E_is_rising E_are_different E_keys_of E_numbers_of
    have E__law_is_int := d_Lis_int (P := P) (w := w) (base := base) D_Lis_int B KT_bool
    have E__law_is_name := d_Lis_name (P := P) (w := w) (base := base) D_Lis_name B
    have E__law_answers := d_Lanswers (P := P) (w := w) (base := base) D_Lanswers
    have E__law_is_record := d_Lis_record (P := P) (w := w) (base := base) D_Lis_record B E__law_is_int E__law_is_name E__law_answers
    have E__law_due := d_Ldue (P := P) (w := w) (base := base) D_Ldue B E__law_is_record
    have E__law_behind := d_Lbehind (P := P) (w := w) (base := base) D_Lbehind
    have E__law_told := d_Ltold (P := P) (w := w) (base := base) D_Ltold B
    have E__law_answer := d_Lanswer (P := P) (w := w) (base := base) D_Lanswer B
    have E__law_story := d_Lstory (P := P) (w := w) (base := base) D_Lstory B E__law_take E__law_of E__law_answer E__law_behind
    have E__law_odd := d_Lodd (P := P) (w := w) (base := base) D_Lodd B E__law_of
    have E__law_bent := d_Lbent (P := P) (w := w) (base := base) D_Lbent B KT_bool KT_list E__law_take E__law_of E__law_odd
    have E__law_looks := d_Llooks (P := P) (w := w) (base := base) D_Llooks B
    have E__law_right := d_Lright (P := P) (w := w) (base := base) D_Lright B E__law_take E__law_names E__law_told E__law_story E__law_looks E__law_odd E__law_bent E__law_due E_is_history EK_is_history
    exact ok_law F B sc E__law_jar E__law_right
end
end K1
set_option Elab.async false
set_option linter.all false
set_option maxRecDepth 100000
open PySem PySem.W PyProof.Rows
set_option maxHeartbeats 0 in
theorem PySem.Challenge.cw_unlikekeys_k70_histories_of_any_value_holds : PySem.Challenge.rw_unlikekeys_k70_histories_of_any_value.Holds := by
  w_on; o_law; k_head; (case hw => w_witness2)
  k_fill
  refine Dv.walkG (l := PySem.Challenge.rw_unlikekeys_k70_histories_of_any_value) (k := 25) (S := K1.S_law) (x := "_law_script") rfl rfl ⟨rfl, by decide, by decide⟩ (fun w h Y => PySem.W.kIn_of Y) ?F ?S
  case S => exact fun a P h => ⟨rfl, h⟩
  case F =>
    intro w mg fa h KX G hmg
    refine' K1.all_by hmg  ?B ?KT_bool ?KT_SORTS ?KT_ANSWERS ?KT_MOST_RECORDS ?KT_MOST_OF_A_KEY ?KT_list ?Dlaw ?D_is_rising ?D_Ltake ?D_Lof ?D_Lnames ?D_Ljar ?D_is_integer ?D_is_nameA ?D_is_tupleA ?D_is_time ?D_is_record ?D_are_different ?D_keys_of ?D_numbers_of ?D_is_history ?D_Lis_int ?D_Lis_name ?D_Lanswers ?D_Lis_record ?D_Ldue ?D_Lbehind ?D_Ltold ?D_Lanswer ?D_Lstory ?D_Lodd ?D_Lbent ?D_Llooks ?D_Lright
    case B =>
      refine' K1.bl_by KX G ?b1 ?b2 ?b3 ?b4 ?b5 ?b6 ?b7 ?b8 ?b9 ?b10 ?b11 ?b12 ?b13 ?b14 ?b15 ?b16 ?b17 ?b18 ?b19
      (case b1 => k_is); (case b2 => k_is); (case b3 => k_is); (case b4 => k_is); (case b5 => k_is); (case b6 => k_is); (case b7 => k_is); (case b8 => k_is); (case b9 => k_is); (case b10 => k_is); (case b11 => k_is); (case b12 => k_is); (case b13 => k_is); (case b14 => k_is); (case b15 => k_is); (case b16 => k_is); (case b17 => k_is); (case b18 => k_is); (case b19 => k_is)
    case KT_bool =>
      refine' K1.kno_by KX G ?g
      (case g => k_is)
    case KT_SORTS =>
      refine' K1.ktup_by KX G ?g ?l ?z ?r
      (case g => k_is); (case l => k_is); (case z => decide +kernel); (case r => exact .cons ⟨_, rfl⟩ (.cons ⟨_, rfl⟩ (.cons ⟨_, rfl⟩ .nil)))
    case KT_ANSWERS =>
      refine' K1.kdic_KT_ANSWERS KX G ?g ?l ?k ?e1 ?l1 ?z1 ?r1 ?e2 ?l2 ?z2 ?r2 ?e3 ?l3 ?z3 ?r3
      (case g => k_is); (case l => k_is); (case k => k_keys); (case e1 => k_is); (case l1 => k_is); (case z1 => decide +kernel); (case r1 => exact .cons ⟨_, rfl⟩ (.cons ⟨_, rfl⟩ (.cons ⟨_, rfl⟩ (.nil)))); (case e2 => k_is); (case l2 => k_is); (case z2 => decide +kernel); (case r2 => exact .cons ⟨_, rfl⟩ (.cons ⟨_, rfl⟩ (.cons ⟨_, rfl⟩ (.nil)))); (case e3 => k_is); (case l3 => k_is); (case z3 => decide +kernel); (case r3 => exact .cons ⟨_, rfl⟩ (.cons ⟨_, rfl⟩ (.cons ⟨_, rfl⟩ (.nil))))
    case KT_MOST_RECORDS =>
      refine' K1.kint_by KX G ?g
      (case g => k_is)
    case KT_MOST_OF_A_KEY =>
      refine' K1.kint_by KX G ?g
      (case g => k_is)
    case KT_list =>
      refine' K1.kno_by KX G ?g
      (case g => k_is)
    case Dlaw =>
      refine' K1.dfn_by KX G (fun _ _ _ _ _ _ us hl => match us, hl with | [_], _ => rfl) ?a ?l ?c ?k
      (case a => k_is); (case l => k_is); (case c => k_is); (case k => k_is)
    case D_is_rising =>
      refine' K1.dfn_by KX G (fun _ _ _ _ _ _ us hl => match us, hl with | [_], _ => rfl) ?a ?l ?c ?k
      (case a => k_is); (case l => k_is); (case c => k_is); (case k => k_is)
    case D_Ltake =>
      refine' K1.dfn_by KX G (fun _ _ _ _ _ _ us hl => match us, hl with | [_, _], _ => rfl) ?a ?l ?c ?k
      (case a => k_is); (case l => k_is); (case c => k_is); (case k => k_is)
    case D_Lof =>
      refine' K1.dfn_by KX G (fun _ _ _ _ _ _ us hl => match us, hl with | [_, _], _ => rfl) ?a ?l ?c ?k
      (case a => k_is); (case l => k_is); (case c => k_is); (case k => k_is)
    case D_Lnames =>
      refine' K1.dfn_by KX G (fun _ _ _ _ _ _ us hl => match us, hl with | [_, _], _ => rfl) ?a ?l ?c ?k
      (case a => k_is); (case l => k_is); (case c => k_is); (case k => k_is)
    case D_Ljar =>
      refine' K1.dfn_by KX G (fun _ _ _ _ _ _ us hl => match us, hl with | [_, _], _ => rfl) ?a ?l ?c ?k
      (case a => k_is); (case l => k_is); (case c => k_is); (case k => k_is)
    case D_is_integer =>
      refine' K1.dfn_by KX G (fun _ _ _ _ _ _ us hl => match us, hl with | [_], _ => rfl) ?a ?l ?c ?k
      (case a => k_is); (case l => k_is); (case c => k_is); (case k => k_is)
    case D_is_nameA =>
      refine' K1.dfn_by KX G (fun _ _ _ _ _ _ us hl => match us, hl with | [_], _ => rfl) ?a ?l ?c ?k
      (case a => k_is); (case l => k_is); (case c => k_is); (case k => k_is)
    case D_is_tupleA =>
      refine' K1.dfn_by KX G (fun _ _ _ _ _ _ us hl => match us, hl with | [_, _, _], _ => rfl) ?a ?l ?c ?k
      (case a => k_is); (case l => k_is); (case c => k_is); (case k => k_is)
    case D_is_time =>
      refine' K1.dfn_by KX G (fun _ _ _ _ _ _ us hl => match us, hl with | [_], _ => rfl) ?a ?l ?c ?k
      (case a => k_is); (case l => k_is); (case c => k_is); (case k => k_is)
    case D_is_record =>
      refine' K1.dfn_by KX G (fun _ _ _ _ _ _ us hl => match us, hl with | [_], _ => rfl) ?a ?l ?c ?k
      (case a => k_is); (case l => k_is); (case c => k_is); (case k => k_is)
    case D_are_different =>
      refine' K1.dfn_by KX G (fun _ _ _ _ _ _ us hl => match us, hl with | [_], _ => rfl) ?a ?l ?c ?k
      (case a => k_is); (case l => k_is); (case c => k_is); (case k => k_is)
    case D_keys_of =>
      refine' K1.dfn_by KX G (fun _ _ _ _ _ _ us hl => match us, hl with | [_], _ => rfl) ?a ?l ?c ?k
      (case a => k_is); (case l => k_is); (case c => k_is); (case k => k_is)
    case D_numbers_of =>
      refine' K1.dfn_by KX G (fun _ _ _ _ _ _ us hl => match us, hl with | [_, _], _ => rfl) ?a ?l ?c ?k
      (case a => k_is); (case l => k_is); (case c => k_is); (case k => k_is)
    case D_is_history =>
      refine' K1.dfn_by KX G (fun _ _ _ _ _ _ us hl => match us, hl with | [_], _ => rfl) ?a ?l ?c ?k
      (case a => k_is); (case l => k_is); (case c => k_is); (case k => k_is)
    case D_Lis_int =>
      refine' K1.dfn_by KX G (fun _ _ _ _ _ _ us hl => match us, hl with | [_], _ => rfl) ?a ?l ?c ?k
      (case a => k_is); (case l => k_is); (case c => k_is); (case k => k_is)
    case D_Lis_name =>
      refine' K1.dfn_by KX G (fun _ _ _ _ _ _ us hl => match us, hl with | [_], _ => rfl) ?a ?l ?c ?k
      (case a => k_is); (case l => k_is); (case c => k_is); (case k => k_is)
    case D_Lanswers =>
      refine' K1.dfn_by KX G (fun _ _ _ _ _ _ us hl => match us, hl with | [_], _ => rfl) ?a ?l ?c ?k
      (case a => k_is); (case l => k_is); (case c => k_is); (case k => k_is)
    case D_Lis_record =>
      refine' K1.dfn_by KX G (fun _ _ _ _ _ _ us hl => match us, hl with | [_], _ => rfl) ?a ?l ?c ?k
      (case a => k_is); (case l => k_is); (case c => k_is); (case k => k_is)
    case D_Ldue =>
      refine' K1.dfn_by KX G (fun _ _ _ _ _ _ us hl => match us, hl with | [_], _ => rfl) ?a ?l ?c ?k
      (case a => k_is); (case l => k_is); (case c => k_is); (case k => k_is)
    case D_Lbehind =>
      refine' K1.dfn_by KX G (fun _ _ _ _ _ _ us hl => match us, hl with | [_, _], _ => rfl) ?a ?l ?c ?k
      (case a => k_is); (case l => k_is); (case c => k_is); (case k => k_is)
    case D_Ltold =>
      refine' K1.dfn_by KX G (fun _ _ _ _ _ _ us hl => match us, hl with | [_], _ => rfl) ?a ?l ?c ?k
      (case a => k_is); (case l => k_is); (case c => k_is); (case k => k_is)
    case D_Lanswer =>
      refine' K1.dfn_by KX G (fun _ _ _ _ _ _ us hl => match us, hl with | [_, _], _ => rfl) ?a ?l ?c ?k
      (case a => k_is); (case l => k_is); (case c => k_is); (case k => k_is)
    case D_Lstory =>
      refine' K1.dfn_by KX G (fun _ _ _ _ _ _ us hl => match us, hl with | [_, _, _], _ => rfl) ?a ?l ?c ?k
      (case a => k_is); (case l => k_is); (case c => k_is); (case k => k_is)
    case D_Lodd =>
      refine' K1.dfn_by KX G (fun _ _ _ _ _ _ us hl => match us, hl with | [_], _ => rfl) ?a ?l ?c ?k
      (case a => k_is); (case l => k_is); (case c => k_is); (case k => k_is)
    case D_Lbent =>
      refine' K1.dfn_by KX G (fun _ _ _ _ _ _ us hl => match us, hl with | [_, _], _ => rfl) ?a ?l ?c ?k
      (case a => k_is); (case l => k_is); (case c => k_is); (case k => k_is)
    case D_Llooks =>
      refine' K1.dfn_by KX G (fun _ _ _ _ _ _ us hl => match us, hl with | [_, _], _ => rfl) ?a ?l ?c ?k
      (case a => k_is); (case l => k_is); (case c => k_is); (case k => k_is)
    case D_Lright =>
      refine' K1.dfn_by KX G (fun _ _ _ _ _ _ us hl => match us, hl with | [_], _ => rfl) ?a ?l ?c ?k
      (case a => k_is); (case l => k_is); (case c => k_is); (case k => k_is)
