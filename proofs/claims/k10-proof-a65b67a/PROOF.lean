import PyProof.Rows.All
import HandS.ForMost
import HandS.TupAny
import HandS.Flow
import HandS.IsInst
import HandS.Wide
import HandS.Walk
import HandS.Zip
import HandS.Deep
import KE.LtData
import HandS.ListItems
import HandS.DictComp
import HandS.Words
import HandS.Text
import PySem.Challenge.RW_unlikekeys_k10_texts_of_schemes
import HandS.Star
import KE.SortData
import HandS.Sort
import KE.GoesEnum
import HandS.Strs
import HandS.SetKeys
import HandS.OwnEq
import HandS.Style
import HandS.Ends
import HandS.FStr
import HandS.SetTxt0
import HandS.SetFor
import HandS.Set
import HandS.NoneIn
import HandS.RaiseMore
import HandS.CallLocal
import HandS.Remove
import HandS.More
import PyProof.SeqRoads2
import PyProof.DictUpdate
set_option Elab.async false
set_option linter.all false
set_option maxRecDepth 100000
/-! Values without a heap over the hand layer: W, the cells that change (M), judgements by what is wanted behind. -/
namespace Dv
open PySem L2

/-- a value: plain data with tuples, and references (lists, dicts, instances, the script) -/
inductive W where
  | non | bl (b : Bool) | int (i : Int) | str (x : Str) | tup (ws : List W) | m (a : Addr)
/-- what a cell holds -/
inductive C where
  | lst (ws : List W)
  | dic (kvs : List (Key × W))
  | ins (Cl : Addr) (fs : List (Str × W))
abbrev Mu := Addr → Option C
def setM (mu : Mu) (a : Addr) (c : C) : Mu := fun b => if b = a then some c else mu b
theorem setM_same {mu : Mu} {a : Addr} {c : C} : setM mu a c a = some c := by unfold setM; rw [if_pos rfl]
theorem setM_ne {mu : Mu} {a b : Addr} {c : C} (h : b ≠ a) : setM mu a c b = mu b := by unfold setM; rw [if_neg h]
theorem setM_set {mu : Mu} {a : Addr} {c d : C} : setM (setM mu a c) a d = setM mu a d := by
  funext b; unfold setM; split <;> rfl

section
variable (K : PySem.W.Frag) (H : Hp)
mutual
def Den : W → V → Prop
  | .non, v => v = .non
  | .bl b, v => v = .bl b
  | .int i, v => v = .int i
  | .str x, v => v = .str x
  | .m a, v => v = .ref a
  | .tup ws, v => ∃ a xs, v = .ref a ∧ SqT K H a xs ∧ DenAll ws xs
def DenAll : List W → List V → Prop
  | [], xs => xs = []
  | w :: ws, xs => ∃ v vs, xs = v :: vs ∧ Den w v ∧ DenAll ws vs
end
def CellOk (a : Addr) : C → Prop
  | .lst ws => ∃ xs, H a = some (.lst xs) ∧ DenAll K H ws xs
  | .dic kvs => ∃ vs, H a = some (.dK vs) ∧ kvs.map (·.1) = vs.map (·.1) ∧ DenAll K H (kvs.map (·.2)) (vs.map (·.2))
  | .ins Cl fs => ∃ dx vs, H a = some (.ins Cl dx vs) ∧ fs.map (·.1) = vs.map (·.1) ∧ DenAll K H (fs.map (·.2)) (vs.map (·.2))
def HM (mu : Mu) : Prop := ∀ a c, mu a = some c → CellOk K H a c
def DenG (G : List (Option W)) (σ : St) : Prop := G.length = σ.length ∧ ∀ (i : Nat) (w : W), G[i]? = some (some w) → ∃ v, σ[i]? = some (some v) ∧ Den K H w v
end

section
variable {K : PySem.W.Frag} {H H' H'' : Hp} {mu mu' mu'' : Mu}
mutual
theorem Den.mono (h : ∀ a xs, SqT K H a xs → SqT K H' a xs) : ∀ (w : W) {v : V}, Den K H w v → Den K H' w v
  | .non, _, e => e
  | .bl _, _, e => e
  | .int _, _, e => e
  | .str _, _, e => e
  | .m _, _, e => e
  | .tup ws, _, ⟨a, xs, e, s, d⟩ => ⟨a, xs, e, h a xs s, DenAll.mono h ws d⟩
theorem DenAll.mono (h : ∀ a xs, SqT K H a xs → SqT K H' a xs) : ∀ (ws : List W) {vs : List V}, DenAll K H ws vs → DenAll K H' ws vs
  | [], _, e => e
  | w :: ws, _, ⟨v, vs, e, d, r⟩ => ⟨v, vs, e, Den.mono h w d, DenAll.mono h ws r⟩
end
theorem DenAll.length : ∀ {ws : List W} {vs : List V}, DenAll K H ws vs → ws.length = vs.length
  | [], _, e => by have e : _ = _ := e; subst e; rfl
  | w :: ws, _, ⟨v, vs, e, d, r⟩ => by subst e; simp [DenAll.length r]
theorem DenAll.get : ∀ {ws : List W} {vs : List V} {i : Nat} {v : V}, DenAll K H ws vs → vs[i]? = some v → ∃ w, ws[i]? = some w ∧ Den K H w v
  | [], _, i, v, e, h => by have e : _ = _ := e; subst e; simp at h
  | w :: ws, _, 0, v, ⟨v', vs, e, d, r⟩, h => by subst e; simp at h; subst h; exact ⟨w, rfl, d⟩
  | w :: ws, _, i + 1, v, ⟨v', vs, e, d, r⟩, h => by
    subst e
    obtain ⟨w', h1, h2⟩ := DenAll.get (i := i) (v := v) r (by simpa using h)
    exact ⟨w', by simpa using h1, h2⟩
theorem DenAll.get' : ∀ {ws : List W} {vs : List V} {i : Nat} {w : W}, DenAll K H ws vs → ws[i]? = some w → ∃ v, vs[i]? = some v ∧ Den K H w v
  | [], _, i, v, e, h => by simp at h
  | w :: ws, _, 0, v, ⟨v', vs, e, d, r⟩, h => by subst e; simp at h; subst h; exact ⟨v', rfl, d⟩
  | w :: ws, _, i + 1, v, ⟨v', vs, e, d, r⟩, h => by
    subst e
    obtain ⟨w', h1, h2⟩ := DenAll.get' (i := i) (w := v) r (by simpa using h)
    exact ⟨w', by simpa using h1, h2⟩
theorem DenAll.append : ∀ {ws ws' : List W} {vs vs' : List V}, DenAll K H ws vs → DenAll K H ws' vs' → DenAll K H (ws ++ ws') (vs ++ vs')
  | [], _, _, _, e, r => by have e : _ = _ := e; subst e; exact r
  | w :: ws, _, _, _, ⟨v, vs, e, d, r⟩, r' => by subst e; exact ⟨v, _, rfl, d, DenAll.append r r'⟩
theorem DenAll.take : ∀ {ws : List W} {vs : List V} (n : Nat), DenAll K H ws vs → DenAll K H (ws.take n) (vs.take n)
  | _, _, 0, _ => by simp [DenAll]
  | [], _, n + 1, e => by have e : _ = _ := e; subst e; simp [DenAll]
  | w :: ws, _, n + 1, ⟨v, vs, e, d, r⟩ => by subst e; exact ⟨v, _, rfl, d, DenAll.take n r⟩
theorem DenAll.drop : ∀ {ws : List W} {vs : List V} (n : Nat), DenAll K H ws vs → DenAll K H (ws.drop n) (vs.drop n)
  | _, _, 0, r => r
  | [], _, n + 1, e => by have e : _ = _ := e; subst e; simp [DenAll]
  | w :: ws, _, n + 1, ⟨v, vs, e, d, r⟩ => by subst e; exact DenAll.drop n r
theorem DenAll.reverse : ∀ {ws : List W} {vs : List V}, DenAll K H ws vs → DenAll K H ws.reverse vs.reverse
  | [], _, e => by have e : _ = _ := e; subst e; rfl
  | w :: ws, _, ⟨v, vs, e, d, r⟩ => by
    subst e
    rw [List.reverse_cons, List.reverse_cons]
    exact DenAll.append (DenAll.reverse r) ⟨v, [], rfl, d, rfl⟩
theorem DenAll.set : ∀ {ws : List W} {vs : List V} (i : Nat) {w : W} {v : V}, DenAll K H ws vs → Den K H w v → DenAll K H (ws.set i w) (vs.set i v)
  | [], _, i, _, _, e, _ => by have e : _ = _ := e; subst e; simp [DenAll]
  | w :: ws, _, 0, _, _, ⟨v, vs, e, d, r⟩, q => by subst e; exact ⟨_, _, rfl, q, r⟩
  | w :: ws, _, i + 1, _, _, ⟨v, vs, e, d, r⟩, q => by subst e; exact ⟨_, _, rfl, d, DenAll.set i r q⟩
theorem DenAll.nil_iff {vs : List V} (d : DenAll K H [] vs) : vs = [] := d

structure Chg (mu : Mu) (H : Hp) (mu' : Mu) (H' : Hp) : Prop where
  keep : ∀ b o, H b = some o → mu b = none → H' b = some o
  old : ∀ b c, mu b = some c → ∃ c', mu' b = some c'
  new : ∀ b o, H b = some o → mu b = none → mu' b = none
theorem Chg.refl : Chg mu H mu H := ⟨fun _ _ h _ => h, fun _ c h => ⟨c, h⟩, fun _ _ _ h => h⟩
theorem Chg.trans (a : Chg mu H mu' H') (b : Chg mu' H' mu'' H'') : Chg mu H mu'' H'' :=
  ⟨fun c o h n => b.keep c o (a.keep c o h n) (a.new c o h n), fun c d h => let ⟨d', e⟩ := a.old c d h; b.old c d' e, fun c o h n => b.new c o (a.keep c o h n) (a.new c o h n)⟩
theorem HM.notup (hm : HM K H mu) {a : Addr} {xs : List V} (h : H a = some (.tup xs)) : mu a = none := by
  cases e : mu a with
  | none => rfl
  | some c =>
    have := hm a c e
    cases c with
    | lst ws => obtain ⟨xs', q, _⟩ := this; rw [h] at q; cases q
    | dic ws => obtain ⟨xs', q, _⟩ := this; rw [h] at q; cases q
    | ins Cl ws => obtain ⟨dx, xs', q, _⟩ := this; rw [h] at q; cases q
theorem HM.nofrz (hm : HM K H mu) {a : Addr} {o : Obj} {u : HO} (h : H a = some (.frz o u)) : mu a = none := by
  cases e : mu a with
  | none => rfl
  | some c =>
    have := hm a c e
    cases c with
    | lst ws => obtain ⟨xs', q, _⟩ := this; rw [h] at q; cases q
    | dic ws => obtain ⟨xs', q, _⟩ := this; rw [h] at q; cases q
    | ins Cl ws => obtain ⟨dx, xs', q, _⟩ := this; rw [h] at q; cases q
theorem Chg.sqt (c : Chg mu H mu' H') (hm : HM K H mu) : ∀ a xs, SqT K H a xs → SqT K H' a xs := fun a xs h => by
  rcases h with (h | ⟨o, h⟩) | h
  · exact .inl (.inl (c.keep _ _ h (hm.notup h)))
  · exact .inl (.inr ⟨o, c.keep _ _ h (hm.nofrz h)⟩)
  · exact .inr h
theorem Chg.den (c : Chg mu H mu' H') (hm : HM K H mu) {w : W} {v : V} (d : Den K H w v) : Den K H' w v := Den.mono (c.sqt hm) w d
theorem Chg.denAll (c : Chg mu H mu' H') (hm : HM K H mu) {w : List W} {v : List V} (d : DenAll K H w v) : DenAll K H' w v := DenAll.mono (c.sqt hm) w d
theorem Chg.denG (c : Chg mu H mu' H') (hm : HM K H mu) {G : List (Option W)} {σ : St} (d : DenG K H G σ) : DenG K H' G σ :=
  ⟨d.1, fun i w h => let ⟨v, e, q⟩ := d.2 i w h; ⟨v, e, c.den hm q⟩⟩
theorem HM.dom (hm : HM K H mu) {a : Addr} (h : H a = none) : mu a = none := by
  cases e : mu a with
  | none => rfl
  | some c =>
    have := hm a c e
    cases c with
    | lst ws => obtain ⟨xs', q, _⟩ := this; rw [h] at q; cases q
    | dic ws => obtain ⟨xs', q, _⟩ := this; rw [h] at q; cases q
    | ins Cl ws => obtain ⟨dx, xs', q, _⟩ := this; rw [h] at q; cases q
theorem HM.some (hm : HM K H mu) {a : Addr} {c : C} (h : mu a = some c) : ∃ o, H a = some o := by
  have := hm a c h
  cases c with
  | lst ws => obtain ⟨xs', q, _⟩ := this; exact ⟨_, q⟩
  | dic ws => obtain ⟨xs', q, _⟩ := this; exact ⟨_, q⟩
  | ins Cl ws => obtain ⟨dx, xs', q, _⟩ := this; exact ⟨_, q⟩
theorem CellOk.mono (h : ∀ a xs, SqT K H a xs → SqT K H' a xs) {a : Addr} {c : C} (hc : CellOk K H a c) (e : H' a = H a) : CellOk K H' a c := by
  cases c with
  | lst ws => obtain ⟨xs, q, d⟩ := hc; exact ⟨xs, e.trans q, DenAll.mono h _ d⟩
  | dic ws => obtain ⟨xs, q, k, d⟩ := hc; exact ⟨xs, e.trans q, k, DenAll.mono h _ d⟩
  | ins Cl ws => obtain ⟨dx, xs, q, k, d⟩ := hc; exact ⟨dx, xs, e.trans q, k, DenAll.mono h _ d⟩
/-- a new untracked-so-far address gets an object that is no cell (a tuple) -/
theorem laid {o : HO} {p : Addr} (hm : HM K H mu) (hp : H p = none) : Chg mu H mu (upd H p o) ∧ HM K (upd H p o) mu := by
  have c : Chg mu H mu (upd H p o) := ⟨fun b o' h _ => by rw [upd_ne (ne_of_none h hp)]; exact h, fun b c h => ⟨c, h⟩, fun _ _ _ h => h⟩
  refine ⟨c, fun a d h => CellOk.mono (c.sqt hm) (hm a d h) ?_⟩
  obtain ⟨o', q⟩ := hm.some h
  rw [upd_ne (ne_of_none q hp)]
/-- a new cell -/
theorem laidC {o : HO} {p : Addr} {c : C} (hm : HM K H mu) (hp : H p = none) (hc : ∀ H', (∀ a xs, SqT K H a xs → SqT K H' a xs) → H' p = some o → CellOk K H' p c) : Chg mu H (setM mu p c) (upd H p o) ∧ HM K (upd H p o) (setM mu p c) := by
  have c1 : Chg mu H (setM mu p c) (upd H p o) := ⟨fun b o' h _ => by rw [upd_ne (ne_of_none h hp)]; exact h,
    fun b d h => by
      by_cases e : b = p
      · subst e; exact ⟨_, setM_same⟩
      · exact ⟨d, by rw [setM_ne e]; exact h⟩, fun b o' h n => by rw [setM_ne (ne_of_none h hp)]; exact n⟩
  refine ⟨c1, fun a d h => ?_⟩
  by_cases e : a = p
  · subst e
    rw [setM_same] at h
    cases h
    exact hc _ (c1.sqt hm) upd_same
  · rw [setM_ne e] at h
    exact CellOk.mono (c1.sqt hm) (hm a d h) (upd_ne e)
/-- a cell is written -/
theorem wrote {o : HO} {p : Addr} {c c0 : C} (hm : HM K H mu) (hp : mu p = some c0) (hc : ∀ H', (∀ a xs, SqT K H a xs → SqT K H' a xs) → H' p = some o → CellOk K H' p c) : Chg mu H (setM mu p c) (upd H p o) ∧ HM K (upd H p o) (setM mu p c) := by
  have ne : ∀ b, mu b = none → b ≠ p := fun b n z => by subst z; rw [hp] at n; cases n
  have c1 : Chg mu H (setM mu p c) (upd H p o) := ⟨fun b o' h n => by rw [upd_ne (ne b n)]; exact h,
    fun b d h => by
      by_cases e : b = p
      · subst e; exact ⟨_, setM_same⟩
      · exact ⟨d, by rw [setM_ne e]; exact h⟩, fun b o' h n => by rw [setM_ne (ne b n)]; exact n⟩
  refine ⟨c1, fun a d h => ?_⟩
  by_cases e : a = p
  · subst e
    rw [setM_same] at h
    cases h
    exact hc _ (c1.sqt hm) upd_same
  · rw [setM_ne e] at h
    exact CellOk.mono (c1.sqt hm) (hm a d h) (upd_ne e)
end

/-! ### the judgements -/
abbrev Gs := List (Option W)
abbrev PW1 := W → Mu → Prop
def Kont (K : PySem.W.Frag) (mu : Mu) (H : Hp) (Post : PW1) (Q : VK) : Prop := ∀ v w mu' H', Post w mu' → Chg mu H mu' H' → Den K H' w v → HM K H' mu' → Q v H'
def KontB (K : PySem.W.Frag) (mu : Mu) (H : Hp) (Post : Bool → Mu → Prop) (Q : Bool → Hp → Prop) : Prop := ∀ b mu' H', Post b mu' → Chg mu H mu' H' → HM K H' mu' → Q b H'
def KontA (K : PySem.W.Frag) (mu : Mu) (H : Hp) (Post : List W → Mu → Prop) (Q : List V → Hp → Prop) : Prop := ∀ vs ws mu' H', Post ws mu' → Chg mu H mu' H' → DenAll K H' ws vs → HM K H' mu' → Q vs H'
structure WE where
  nx : Gs → Mu → Prop
  rt : PW1
  bk : Gs → Mu → Prop := fun _ _ => False
  ct : Gs → Mu → Prop := fun _ _ => False
def KontG (K : PySem.W.Frag) (mu : Mu) (H : Hp) (Post : Gs → Mu → Prop) (Q : St → Hp → Prop) : Prop := ∀ σ G mu' H', Post G mu' → Chg mu H mu' H' → DenG K H' G σ → HM K H' mu' → Q σ H'
structure KontS (K : PySem.W.Frag) (mu : Mu) (H : Hp) (E : WE) (D : Ends) : Prop where
  nx : KontG K mu H E.nx D.nx
  rt : Kont K mu H E.rt D.rt
  bk : KontG K mu H E.bk D.bk
  ct : KontG K mu H E.ct D.ct

section
variable (X : Cx)
def tE (e : Expr) : TE := fun σ H Q => ∀ pins s, Inv X pins σ H s → wpAny (model X.prog X.w) X.A (eval e X.env) (EP X pins σ Q) X.xe s
def tT (e : Expr) : TT := fun σ H Q => ∀ pins s, Inv X pins σ H s → wpAny (model X.prog X.w) X.A (isTrue e X.env (eval e X.env)) (TP X pins σ Q) X.xe s
def tA (es : List Expr) : TA := fun σ H Q => ∀ pos pins s, Inv X pins σ H s → wpAny (model X.prog X.w) X.A (spliced (backTo pos (starEach es X.env))) (AP X pins σ Q) X.xe s
def tS (st : Stmt) : TS := fun D σ H => ∀ pins s, Inv X pins σ H s → wpAny (model X.prog X.w) X.A (exec st X.env) (SP X pins D) X.xe s
def tSs (st : List Stmt) : TS := fun D σ H => ∀ pins s, Inv X pins σ H s → wpAny (model X.prog X.w) X.A (execs st X.env) (SP X pins D) X.xe s
def SE (e : Expr) (G : Gs) (mu : Mu) (Post : PW1) : Prop := ∀ σ H Q, DenG X.K H G σ → HM X.K H mu → Kont X.K mu H Post Q → tE X e σ H Q
def ST (e : Expr) (G : Gs) (mu : Mu) (Post : Bool → Mu → Prop) : Prop := ∀ σ H Q, DenG X.K H G σ → HM X.K H mu → KontB X.K mu H Post Q → tT X e σ H Q
def SA (es : List Expr) (G : Gs) (mu : Mu) (Post : List W → Mu → Prop) : Prop := ∀ σ H Q, DenG X.K H G σ → HM X.K H mu → KontA X.K mu H Post Q → tA X es σ H Q
def SS (st : Stmt) (G : Gs) (mu : Mu) (E : WE) : Prop := ∀ σ H D, DenG X.K H G σ → HM X.K H mu → KontS X.K mu H E D → tS X st D σ H
def SSs (st : List Stmt) (G : Gs) (mu : Mu) (E : WE) : Prop := ∀ σ H D, DenG X.K H G σ → HM X.K H mu → KontS X.K mu H E D → tSs X st D σ H
end
section
variable {X : Cx} {e a b : Expr} {es : List Expr} {st : Stmt} {sts : List Stmt} {G : Gs} {mu mu' : Mu} {H H' : Hp} {σ : St} {K : PySem.W.Frag}
theorem peE : PE X e (tE X e) := ⟨fun pins s _ _ _ I h => h pins s I⟩
theorem ptT : PT X e (tT X e) := ⟨fun pins s _ _ _ I h => h pins s I⟩
theorem paA : PA X es (tA X es) := ⟨fun pos pins s _ _ _ I h => h pos pins s I⟩
theorem psS : PS X st (tS X st) := ⟨fun pins s _ _ _ I h => h pins s I⟩
theorem pssS : PSs X sts (tSs X sts) := ⟨fun pins s _ _ _ I h => h pins s I⟩
theorem SE.mk {t : TE} {Post : PW1} (p : PE X e t) (r : ∀ σ H Q, DenG X.K H G σ → HM X.K H mu → Kont X.K mu H Post Q → t σ H Q) : SE X e G mu Post := fun σ H Q d m k pins s I => p.run pins s σ H Q I (r σ H Q d m k)
theorem ST.mk {t : TT} {Post : Bool → Mu → Prop} (p : PT X e t) (r : ∀ σ H Q, DenG X.K H G σ → HM X.K H mu → KontB X.K mu H Post Q → t σ H Q) : ST X e G mu Post := fun σ H Q d m k pins s I => p.run pins s σ H Q I (r σ H Q d m k)
theorem SA.mk {t : TA} {Post : List W → Mu → Prop} (p : PA X es t) (r : ∀ σ H Q, DenG X.K H G σ → HM X.K H mu → KontA X.K mu H Post Q → t σ H Q) : SA X es G mu Post := fun σ H Q d m k pos pins s I => p.run pos pins s σ H Q I (r σ H Q d m k)
theorem SS.mk {t : TS} {E : WE} (p : PS X st t) (r : ∀ σ H D, DenG X.K H G σ → HM X.K H mu → KontS X.K mu H E D → t D σ H) : SS X st G mu E := fun σ H D d m k pins s I => p.run pins s σ H D I (r σ H D d m k)
theorem SSs.mk {t : TS} {E : WE} (p : PSs X sts t) (r : ∀ σ H D, DenG X.K H G σ → HM X.K H mu → KontS X.K mu H E D → t D σ H) : SSs X sts G mu E := fun σ H D d m k pins s I => p.run pins s σ H D I (r σ H D d m k)
theorem Kont.step {Post : PW1} {Q : VK} (k : Kont K mu H Post Q) (c : Chg mu H mu' H') : Kont K mu' H' Post Q := fun v w m2 H2 p c2 d m => k v w m2 H2 p (c.trans c2) d m
theorem KontB.step {Post : Bool → Mu → Prop} {Q : Bool → Hp → Prop} (k : KontB K mu H Post Q) (c : Chg mu H mu' H') : KontB K mu' H' Post Q := fun w m2 H2 p c2 m => k w m2 H2 p (c.trans c2) m
theorem KontA.step {Post : List W → Mu → Prop} {Q : List V → Hp → Prop} (k : KontA K mu H Post Q) (c : Chg mu H mu' H') : KontA K mu' H' Post Q := fun v w m2 H2 p c2 d m => k v w m2 H2 p (c.trans c2) d m
theorem KontG.step {Post : Gs → Mu → Prop} {Q : St → Hp → Prop} (k : KontG K mu H Post Q) (c : Chg mu H mu' H') : KontG K mu' H' Post Q := fun v w m2 H2 p c2 d m => k v w m2 H2 p (c.trans c2) d m
theorem KontS.step {E : WE} {D : Ends} (k : KontS K mu H E D) (c : Chg mu H mu' H') : KontS K mu' H' E D := ⟨k.nx.step c, k.rt.step c, k.bk.step c, k.ct.step c⟩
theorem Kont.now {Post : PW1} {Q : VK} (k : Kont K mu H Post Q) {w : W} {v : V} (p : Post w mu) (d : Den K H w v) (m : HM K H mu) : Q v H := k v w mu H p Chg.refl d m
/-- a part's end: what comes next, at the state behind it -/
theorem Kont.of {Post : PW1} {Q : VK} (f : ∀ v w mu' H', Post w mu' → Chg mu H mu' H' → Den K H' w v → HM K H' mu' → Q v H') : Kont K mu H Post Q := f
end
end Dv
set_option Elab.async false
set_option linter.all false
set_option maxRecDepth 100000
/-! Rules by values: names, constants, displays, operators, comparisons, tests, statements, loops. -/
namespace Dv
open PySem L2
section
variable {X : Cx} {e a b c : Expr} {es : List Expr} {st : Stmt} {sts : List Stmt} {G : Gs} {mu mu' : Mu} {pos : Pos} {P : PW1}

/-! ### atoms -/
theorem se_var {i : Nat} {x : Str} {w : W} (hG : G[i]? = some (some w)) (h : P w mu) (hN : X.N[i]? = some x := by rfl) (hv : Vis X.env.scope x := by first | exact Or.inl rfl | exact Or.inr (Or.inl rfl) | exact Or.inr (Or.inr rfl))
    (hd : (x == ("__debug__" : Str)) = false := by decide) (hcd : (x == ("__classdict__" : Str)) = false := by decide) : SE X (.Name x pos) G mu P :=
  SE.mk (pe_var hN hv hd hcd) fun σ H Q d m k => let ⟨v, e, q⟩ := d.2 i w hG; ⟨v, e, k.now h q m⟩
theorem se_int {i j} (h : P (.int i) mu) : SE X (.Constant (.int i) j pos) G mu P := SE.mk pe_int fun σ H Q d m k => k.now h rfl m
theorem se_bl {i j} (h : P (.bl i) mu) : SE X (.Constant (.bool i) j pos) G mu P := SE.mk pe_bl fun σ H Q d m k => k.now h rfl m
theorem se_non {j} (h : P .non mu) : SE X (.Constant .none j pos) G mu P := SE.mk pe_non fun σ H Q d m k => k.now h rfl m
theorem se_str {i j} (h : P (.str i) mu) : SE X (.Constant (.str i) j pos) G mu P := SE.mk pe_str fun σ H Q d m k => k.now h rfl m
/-- a module's constant -/
theorem se_glob {x : Str} {w : W} {v : V} {u : Value} (hm : X.mg x = some u) (r : RelV v u) (hw : ∀ K H, Den K H w v) (h : P w mu) (hg : Gl X x := by rfl) (hd : (x == ("__debug__" : Str)) = false := by decide) : SE X (.Name x pos) G mu P :=
  SE.mk (pe_glob hg hm r hd) fun σ H Q d m k => k.now h (hw _ _) m

/-! ### arguments, displays -/
theorem sa_nil {P : List W → Mu → Prop} (h : P [] mu) : SA X [] G mu P := SA.mk pa_nil fun σ H Q d m k => k [] [] mu H h Chg.refl rfl m
theorem sa_cons {P : List W → Mu → Prop} (h : SE X e G mu fun w mu1 => SA X es G mu1 fun ws mu2 => P (w :: ws) mu2) (hs : starEach (e :: es) X.env = (false, eval e X.env) :: starEach es X.env := by rfl) : SA X (e :: es) G mu P :=
  SA.mk (pa_cons peE paA hs) fun σ H Q d m k => h σ H _ d m fun v w mu1 H1 h1 c1 d1 m1 => h1 σ H1 _ (c1.denG m d) m1 fun vs ws mu2 H2 h2 c2 d2 m2 => k _ _ mu2 H2 h2 (c1.trans c2) ⟨v, vs, rfl, c2.den m1 d1, d2⟩ m2
theorem se_tup {x1} (h : SA X es G mu fun ws mu1 => ws.length ≤ sizeLine ∧ P (.tup ws) mu1) : SE X (.Tuple es x1 pos) G mu P :=
  SE.mk (pe_tup paA) fun σ H Q d m k => h σ H _ d m fun vs ws mu1 H1 ⟨hl, h1⟩ c1 d1 m1 => ⟨by rw [← d1.length]; exact hl, fun p hp => by
    obtain ⟨c2, m2⟩ := laid (o := .tup vs) m1 hp
    exact k _ _ mu1 _ h1 (c1.trans c2) ⟨p, vs, rfl, SqT.of upd_same, c2.denAll m1 d1⟩ m2⟩
theorem newLst {K : PySem.W.Frag} {H : Hp} {p : Addr} {vs : List V} {ws : List W} (d : DenAll K H ws vs) : ∀ H', (∀ a xs, SqT K H a xs → SqT K H' a xs) → H' p = some (.lst vs) → CellOk K H' p (.lst ws) := fun H' st h => ⟨vs, h, DenAll.mono st _ d⟩
theorem se_lst (h : SA X es G mu fun ws mu1 => ws.length ≤ sizeLine ∧ ∀ p, mu1 p = none → P (.m p) (setM mu1 p (.lst ws))) : SE X (.List es pos) G mu P :=
  SE.mk (pe_lst paA) fun σ H Q d m k => h σ H _ d m fun vs ws mu1 H1 ⟨hl, h1⟩ c1 d1 m1 => ⟨by rw [← d1.length]; exact hl, fun p hp => by
    obtain ⟨c2, m2⟩ := laidC (o := .lst vs) (c := .lst ws) m1 hp (newLst d1)
    exact k _ _ _ _ (h1 p (m1.dom hp)) (c1.trans c2) rfl m2⟩

/-! ### operators -/
theorem opr_or {f : Value → Value → Sem Value} {r1 r2 : R2} (h1 : OpR X f r1) (h2 : OpR X f r2) : OpR X f fun x y H Q => r1 x y H Q ∨ r2 x y H Q :=
  fun pins s σ H x y v u Q I rx ry h => h.elim (h1 pins s σ H x y v u Q I rx ry) (h2 pins s σ H x y v u Q I rx ry)
/-- a rule by values of a rule over the heap -/
def OpW (X : Cx) (r : R2) (f : W → W → Mu → PW1 → Prop) : Prop := ∀ w1 w2 x y mu H P Q, Den X.K H w1 x → Den X.K H w2 y → HM X.K H mu → f w1 w2 mu P → Kont X.K mu H P Q → r x y H Q
theorem se_bin {op : Operator} {r : R2} {f : W → W → Mu → PW1 → Prop} (ho : OpR X (binaryOp op) r) (hw : OpW X r f)
    (h : SE X a G mu fun w1 mu1 => SE X b G mu1 fun w2 mu2 => f w1 w2 mu2 P) : SE X (.BinOp a op b pos) G mu P :=
  SE.mk (pe_op ho peE peE) fun σ H Q d m k => h σ H _ d m fun x w1 mu1 H1 h1 c1 d1 m1 => h1 σ H1 _ (c1.denG m d) m1 fun y w2 mu2 H2 h2 c2 d2 m2 =>
    hw _ _ _ _ _ _ _ _ (c2.den m1 d1) d2 m2 h2 (k.step (c1.trans c2))
theorem se_cmp {op : CmpOp} {r : R2} {f : W → W → Mu → PW1 → Prop} (ho : OpR X (compareOp op) r) (hw : OpW X r f) (hb : behindInMarks op b = false)
    (h : SE X a G mu fun w1 mu1 => SE X b G mu1 fun w2 mu2 => f w1 w2 mu2 P) : SE X (.Compare a [op] [b] pos) G mu P :=
  SE.mk (pe_cmpR ho peE peE hb) fun σ H Q d m k => h σ H _ d m fun x w1 mu1 H1 h1 c1 d1 m1 => h1 σ H1 _ (c1.denG m d) m1 fun y w2 mu2 H2 h2 c2 d2 m2 =>
    hw _ _ _ _ _ _ _ _ (c2.den m1 d1) d2 m2 h2 (k.step (c1.trans c2))
/-- a bool as the end of a test -/
abbrev isB (P : Bool → Mu → Prop) : PW1 := fun w mu => match w with | .bl k => P k mu | _ => False
theorem isB_den {K : PySem.W.Frag} {H : Hp} {mu : Mu} {P : Bool → Mu → Prop} {w : W} {v : V} (h : isB P w mu) (d : Den K H w v) : ∃ k, w = .bl k ∧ v = .bl k ∧ P k mu := by
  cases w with
  | bl k => exact ⟨k, rfl, d, h⟩
  | _ => exact h.elim
theorem st_cmp {op : CmpOp} {r : R2} {f : W → W → Mu → PW1 → Prop} {P : Bool → Mu → Prop} (ho : OpR X (compareOp op) r) (hw : OpW X r f) (hb : behindInMarks op b = false)
    (h : SE X a G mu fun w1 mu1 => SE X b G mu1 fun w2 mu2 => f w1 w2 mu2 (isB P)) : ST X (.Compare a [op] [b] pos) G mu P :=
  ST.mk (pt_cmpR ho peE peE hb) fun σ H Q d m k => h σ H _ d m fun x w1 mu1 H1 h1 c1 d1 m1 => h1 σ H1 _ (c1.denG m d) m1 fun y w2 mu2 H2 h2 c2 d2 m2 =>
    hw _ _ _ _ _ _ _ _ (c2.den m1 d1) d2 m2 h2 fun v w mu3 H3 h3 c3 d3 m3 => let ⟨kk, e1, e2, h4⟩ := isB_den h3 d3; ⟨kk, e2, k _ _ _ h4 ((c1.trans c2).trans c3) m3⟩
theorem st_val {P : Bool → Mu → Prop} (h : SE X e G mu (isB P)) (he : ∀ whole, isTrue e X.env whole = (do let v ← whole; standAt e.pos; holding [v] (truthy v)) := by intro _; rfl) : ST X e G mu P :=
  ST.mk (pt_val peE he) fun σ H Q d m k => h σ H _ d m fun v w mu1 H1 h1 c1 d1 m1 => let ⟨kk, e1, e2, h4⟩ := isB_den h1 d1; ⟨kk, e2, k _ _ _ h4 c1 m1⟩
theorem st_not {P : Bool → Mu → Prop} (h : ST X a G mu fun k mu1 => P (!k) mu1) : ST X (.UnaryOp .Not a pos) G mu P :=
  ST.mk (pt_not ptT) fun σ H Q d m k => h σ H _ d m fun b mu1 H1 h1 c1 m1 => k _ _ _ h1 c1 m1
/-! tests: and, or -/
def tW (X : Cx) (e : Expr) : TT := fun σ H Q => ∀ (whole : Sem Value) pins s, Inv X pins σ H s → wpAny (model X.prog X.w) X.A (isTrue e X.env whole) (TP X pins σ Q) X.xe s
def SW (X : Cx) (e : Expr) (G : Gs) (mu : Mu) (Post : Bool → Mu → Prop) : Prop := ∀ σ H Q, DenG X.K H G σ → HM X.K H mu → KontB X.K mu H Post Q → tW X e σ H Q
theorem pwW : PW X e (tW X e) := ⟨fun whole pins s _ _ _ I h => h whole pins s I⟩
theorem SW.mk {t : TT} {Post : Bool → Mu → Prop} (p : PW X e t) (r : ∀ σ H Q, DenG X.K H G σ → HM X.K H mu → KontB X.K mu H Post Q → t σ H Q) : SW X e G mu Post := fun σ H Q d m k whole pins s I => p.run whole pins s σ H Q I (r σ H Q d m k)
theorem st_of_w {P : Bool → Mu → Prop} (h : SW X e G mu P) : ST X e G mu P := ST.mk (PW.pt pwW) fun σ H Q d m k => h σ H Q d m k
theorem sw_and1 {P : Bool → Mu → Prop} (h : ST X a G mu P) : SW X (.BoolOp .And [a] pos) G mu P := SW.mk (pw_and1 ptT) fun σ H Q d m k => h σ H Q d m k
theorem sw_or1 {P : Bool → Mu → Prop} (h : ST X a G mu P) : SW X (.BoolOp .Or [a] pos) G mu P := SW.mk (pw_or1 ptT) fun σ H Q d m k => h σ H Q d m k
abbrev if2 (k : Bool) (A B : Prop) : Prop := match k with | true => A | false => B
theorem sw_and {P : Bool → Mu → Prop} {rest : List Expr} (h : ST X a G mu fun k mu1 => if2 k (SW X (.BoolOp .And (b :: rest) pos) G mu1 P) (P false mu1)) : SW X (.BoolOp .And (a :: b :: rest) pos) G mu P :=
  SW.mk (pw_and ptT pwW) fun σ H Q d m k => h σ H _ d m fun b mu1 H1 h1 c1 m1 => by
    cases b with
    | true => exact iteT (h1 σ H1 Q (c1.denG m d) m1 (k.step c1))
    | false => exact iteF (k _ _ _ h1 c1 m1)
theorem sw_or {P : Bool → Mu → Prop} {rest : List Expr} (h : ST X a G mu fun k mu1 => if2 k (P true mu1) (SW X (.BoolOp .Or (b :: rest) pos) G mu1 P)) : SW X (.BoolOp .Or (a :: b :: rest) pos) G mu P :=
  SW.mk (pw_or ptT pwW) fun σ H Q d m k => h σ H _ d m fun b mu1 H1 h1 c1 m1 => by
    cases b with
    | false => exact iteF (h1 σ H1 Q (c1.denG m d) m1 (k.step c1))
    | true => exact iteT (k _ _ _ h1 c1 m1)
/-! values: and, or, not, if else -/
abbrev bW (w : W) (A B : Prop) : Prop := match w with | .bl true => A | .bl false => B | _ => False
theorem bW_den {K : PySem.W.Frag} {H : Hp} {A B : Prop} {w : W} {v : V} (h : bW w A B) (d : Den K H w v) : ∃ k, v = .bl k ∧ w = .bl k ∧ if k = true then A else B := by
  cases w with
  | bl k => cases k with
    | true => exact ⟨true, d, rfl, iteT h⟩
    | false => exact ⟨false, d, rfl, iteF h⟩
  | _ => exact h.elim
theorem se_one {op} (h : SE X a G mu P) : SE X (.BoolOp op [a] pos) G mu P := SE.mk (pe_one peE) fun σ H Q d m k => h σ H Q d m k
theorem se_and {rest : List Expr} (h : SE X a G mu fun w mu1 => bW w (SE X (.BoolOp .And (b :: rest) pos) G mu1 P) (P (.bl false) mu1)) : SE X (.BoolOp .And (a :: b :: rest) pos) G mu P :=
  SE.mk (pe_and peE peE) fun σ H Q d m k => h σ H _ d m fun v w mu1 H1 h1 c1 d1 m1 => by
    obtain ⟨kk, e1, e2, q⟩ := bW_den h1 d1
    refine ⟨kk, e1, ?_⟩
    cases kk with
    | true => exact iteT ((show SE X _ G mu1 P from q) σ H1 Q (c1.denG m d) m1 (k.step c1))
    | false => exact iteF (k _ _ _ _ (show P (.bl false) mu1 from q) c1 rfl m1)
theorem se_or {rest : List Expr} (h : SE X a G mu fun w mu1 => bW w (P (.bl true) mu1) (SE X (.BoolOp .Or (b :: rest) pos) G mu1 P)) : SE X (.BoolOp .Or (a :: b :: rest) pos) G mu P :=
  SE.mk (pe_or peE peE) fun σ H Q d m k => h σ H _ d m fun v w mu1 H1 h1 c1 d1 m1 => by
    obtain ⟨kk, e1, e2, q⟩ := bW_den h1 d1
    refine ⟨kk, e1, ?_⟩
    cases kk with
    | false => exact iteF ((show SE X _ G mu1 P from q) σ H1 Q (c1.denG m d) m1 (k.step c1))
    | true => exact iteT (k _ _ _ _ (show P (.bl true) mu1 from q) c1 rfl m1)
theorem se_not (h : SE X a G mu (isB fun k mu1 => P (.bl !k) mu1)) : SE X (.UnaryOp .Not a pos) G mu P :=
  SE.mk (pe_not peE) fun σ H Q d m k => h σ H _ d m fun v w mu1 H1 h1 c1 d1 m1 => let ⟨kk, e1, e2, h4⟩ := isB_den h1 d1; ⟨kk, e2, k _ _ _ _ h4 c1 rfl m1⟩
theorem se_if (h : ST X c G mu fun k mu1 => if2 k (SE X a G mu1 P) (SE X b G mu1 P)) : SE X (.IfExp c a b pos) G mu P :=
  SE.mk (pe_ifExp ptT peE peE) fun σ H Q d m k => h σ H _ d m fun kk mu1 H1 h1 c1 m1 => by
    cases kk with
    | true => exact iteT (h1 σ H1 Q (c1.denG m d) m1 (k.step c1))
    | false => exact iteF (h1 σ H1 Q (c1.denG m d) m1 (k.step c1))
/-! two comparisons in a chain -/
theorem se_chain {op op' : CmpOp} {r r' : R2} {f f' : W → W → Mu → PW1 → Prop} (ho : OpR X (compareOp op) r) (hw : OpW X r f) (ho' : OpR X (compareOp op') r') (hw' : OpW X r' f')
    (h : SE X a G mu fun w1 mu1 => SE X b G mu1 fun w2 mu2 => f w1 w2 mu2 fun z mu3 => bW z (SE X c G mu3 fun w3 mu4 => f' w2 w3 mu4 P) (P (.bl false) mu3)) (hb : lastMarks [op, op'] [b, c] = false := by rfl) : SE X (.Compare a [op, op'] [b, c] pos) G mu P :=
  SE.mk (pe_chain ho ho' peE peE peE hb) fun σ H Q d m k => h σ H _ d m fun x w1 mu1 H1 h1 c1 d1 m1 => h1 σ H1 _ (c1.denG m d) m1 fun y w2 mu2 H2 h2 c2 d2 m2 =>
    hw _ _ _ _ _ _ _ _ (c2.den m1 d1) d2 m2 h2 fun v w mu3 H3 h3 c3 d3 m3 => by
      have c123 := (c1.trans c2).trans c3
      obtain ⟨kk, e1, e2, q⟩ := bW_den h3 d3
      refine ⟨kk, e1, ?_⟩
      cases kk with
      | true => exact iteT ((show SE X c G mu3 _ from q) σ H3 _ (c123.denG m d) m3 fun v w mu4 H4 h4 c4 d4 m4 => hw' _ _ _ _ _ _ _ _ (c4.den m3 (c3.den m2 d2)) d4 m4 h4 (k.step (c123.trans c4)))
      | false => exact iteF (k _ _ _ _ (show P (.bl false) mu3 from q) c123 rfl m3)
theorem st_chain {op op' : CmpOp} {r r' : R2} {f f' : W → W → Mu → PW1 → Prop} {P : Bool → Mu → Prop} (ho : OpR X (compareOp op) r) (hw : OpW X r f) (ho' : OpR X (compareOp op') r') (hw' : OpW X r' f')
    (h : SE X a G mu fun w1 mu1 => SE X b G mu1 fun w2 mu2 => f w1 w2 mu2 fun z mu3 => bW z (SE X c G mu3 fun w3 mu4 => f' w2 w3 mu4 (isB P)) (P false mu3)) (hb : lastMarks [op, op'] [b, c] = false := by rfl) : ST X (.Compare a [op, op'] [b, c] pos) G mu P :=
  ST.mk (pt_chain ho ho' peE peE peE hb) fun σ H Q d m k => h σ H _ d m fun x w1 mu1 H1 h1 c1 d1 m1 => h1 σ H1 _ (c1.denG m d) m1 fun y w2 mu2 H2 h2 c2 d2 m2 =>
    hw _ _ _ _ _ _ _ _ (c2.den m1 d1) d2 m2 h2 fun v w mu3 H3 h3 c3 d3 m3 => by
      have c123 := (c1.trans c2).trans c3
      obtain ⟨kk, e1, e2, q⟩ := bW_den h3 d3
      refine ⟨kk, e1, ?_⟩
      cases kk with
      | true => exact iteT ((show SE X c G mu3 _ from q) σ H3 _ (c123.denG m d) m3 fun v w mu4 H4 h4 c4 d4 m4 => hw' _ _ _ _ _ _ _ _ (c4.den m3 (c3.den m2 d2)) d4 m4 h4 fun v w mu5 H5 h5 c5 d5 m5 => let ⟨kk, e1, e2, h6⟩ := isB_den h5 d5; ⟨kk, e2, k _ _ _ h6 ((c123.trans c4).trans c5) m5⟩)
      | false => exact iteF ⟨false, rfl, k _ _ _ (show P false mu3 from q) c123 m3⟩

/-! ### statements -/
theorem sss_nil {E : WE} (h : E.nx G mu) : SSs X [] G mu E := SSs.mk pss_nil fun σ H D d m k => k.nx _ _ _ _ h Chg.refl d m
theorem sss_cons {E : WE} (h : SS X st G mu { E with nx := fun G1 mu1 => SSs X sts G1 mu1 E }) : SSs X (st :: sts) G mu E :=
  SSs.mk (pss_cons psS pssS) fun σ H D d m k => h σ H _ d m ⟨fun σ1 G1 mu1 H1 h1 c1 d1 m1 => h1 σ1 H1 D d1 m1 (k.step c1), k.rt, k.bk, k.ct⟩
theorem ss_ret {E : WE} (h : SE X e G mu E.rt) : SS X (.Return (some e) pos) G mu E := SS.mk (ps_ret peE) fun σ H D d m k => h σ H _ d m k.rt
theorem ss_pass {E : WE} (h : E.nx G mu) : SS X (.Pass pos) G mu E := SS.mk ps_pass fun σ H D d m k => k.nx _ _ _ _ h Chg.refl d m
theorem ss_expr {E : WE} (h : SE X e G mu fun _ mu1 => E.nx G mu1) (hs : swapsWith e none pos.line X.env = pure false := by rfl) : SS X (.Expr e pos) G mu E :=
  SS.mk (ps_expr peE hs) fun σ H D d m k => h σ H _ d m fun v w mu1 H1 h1 c1 d1 m1 => k.nx _ _ _ _ h1 c1 (c1.denG m d) m1
theorem ss_if {E : WE} {u t : List Stmt} (h : ST X c G mu fun k mu1 => if2 k (SSs X t G mu1 E) (SSs X u G mu1 E)) : SS X (.If c t u pos) G mu E :=
  SS.mk (ps_if ptT pssS pssS) fun σ H D d m k => h σ H _ d m fun kk mu1 H1 h1 c1 m1 => by
    cases kk with
    | true => exact iteT (h1 σ H1 D (c1.denG m d) m1 (k.step c1))
    | false => exact iteF (h1 σ H1 D (c1.denG m d) m1 (k.step c1))
theorem DenG.set {K : PySem.W.Frag} {H : Hp} {G : Gs} {σ : St} {i : Nat} {w : W} {v : V} (d : DenG K H G σ) (q : Den K H w v) : DenG K H (G.set i (some w)) (σ.set i (some v)) := by
  refine ⟨by rw [List.length_set, List.length_set]; exact d.1, fun j w' h => ?_⟩
  by_cases e : i = j
  · subst e
    by_cases hl : i < G.length
    · rw [List.getElem?_set_self hl] at h
      cases h
      exact ⟨v, List.getElem?_set_self (by rw [← d.1]; exact hl), q⟩
    · rw [List.getElem?_eq_none (by simpa using hl)] at h
      cases h
  · rw [List.getElem?_set_ne e] at h
    rw [List.getElem?_set_ne e]
    exact d.2 j w' h
/-! targets -/
def tG (X : Cx) (e : Expr) : TG := fun v σ H Q => ∀ (u : Value) pins s, RelV v u → Inv X pins σ H s → wpAny (model X.prog X.w) X.A (assign e X.env u) (fun _ s' => ∃ σ' H', Inv X pins σ' H' s' ∧ Q σ' H') X.xe s
def tGs (X : Cx) (es : List Expr) : TGs := fun vs σ H Q => ∀ (us : List Value) pins s, Vals vs us → Inv X pins σ H s → wpAny (model X.prog X.w) X.A (assignInOrder ((assignEach es X.env).map (·.2)) us) (fun _ s' => ∃ σ' H', Inv X pins σ' H' s' ∧ Q σ' H') X.xe s
theorem pgG : PG X e (tG X e) := ⟨fun pins s σ H v u Q I r h => h u pins s r I⟩
theorem pgsG : PGs X es (tGs X es) := ⟨fun pins s σ H v u Q I r h => h u pins s r I⟩
def SG (X : Cx) (e : Expr) (w : W) (G : Gs) (mu : Mu) (Post : Gs → Mu → Prop) : Prop := ∀ σ H v Q, DenG X.K H G σ → HM X.K H mu → Den X.K H w v → KontG X.K mu H Post Q → tG X e v σ H Q
def SGs (X : Cx) (es : List Expr) (ws : List W) (G : Gs) (mu : Mu) (Post : Gs → Mu → Prop) : Prop := ∀ σ H vs Q, DenG X.K H G σ → HM X.K H mu → DenAll X.K H ws vs → KontG X.K mu H Post Q → tGs X es vs σ H Q
theorem SG.mk {t : TG} {w : W} {Post : Gs → Mu → Prop} (p : PG X e t) (r : ∀ σ H v Q, DenG X.K H G σ → HM X.K H mu → Den X.K H w v → KontG X.K mu H Post Q → t v σ H Q) : SG X e w G mu Post :=
  fun σ H v Q d m dv k u pins s rv I => p.run pins s σ H v u Q I rv (r σ H v Q d m dv k)
theorem SGs.mk {t : TGs} {ws : List W} {Post : Gs → Mu → Prop} (p : PGs X es t) (r : ∀ σ H v Q, DenG X.K H G σ → HM X.K H mu → DenAll X.K H ws v → KontG X.K mu H Post Q → t v σ H Q) : SGs X es ws G mu Post :=
  fun σ H v Q d m dv k u pins s rv I => p.run pins s σ H v u Q I rv (r σ H v Q d m dv k)
theorem sg_name {i : Nat} {x : Str} {w : W} {Post : Gs → Mu → Prop} (h : Post (G.set i (some w)) mu) (hN : X.N.Nodup) (hi : X.N[i]? = some x := by rfl) (hx : Loc X.env.scope x := by first | exact .inl rfl | exact .inr rfl)
    (hf : X.fn x = true ∨ X.env.scope.names.lookup x = some .local := by first | exact .inl rfl | exact .inr rfl) : SG X (.Name x pos) w G mu Post :=
  SG.mk (pg_name hN hi hx hf) fun σ H v Q d m dv k => k _ _ _ _ h Chg.refl (DenG.set d dv) m
theorem sgs_nil {Post : Gs → Mu → Prop} (h : Post G mu) : SGs X [] [] G mu Post := SGs.mk pgs_nil fun σ H vs Q d m dv k => ⟨dv, k _ _ _ _ h Chg.refl d m⟩
theorem sgs_cons {w : W} {ws : List W} {Post : Gs → Mu → Prop} (h : SG X e w G mu fun G1 mu1 => SGs X es ws G1 mu1 Post) (ha : (assignEach (e :: es) X.env).map (·.2) = assign e X.env :: (assignEach es X.env).map (·.2) := by rfl) : SGs X (e :: es) (w :: ws) G mu Post :=
  SGs.mk (pgs_cons pgG pgsG ha) fun σ H vs Q d m dv k => by
    obtain ⟨v, r, e1, dv1, dr⟩ := dv
    exact ⟨v, r, e1, h σ H v _ d m dv1 fun σ1 G1 mu1 H1 h1 c1 d1 m1 => h1 σ1 H1 r Q d1 m1 (c1.denAll m dr) (k.step c1)⟩
theorem sg_tup {n : Nat} {kk : Nat} {ws : List W} {Post : Gs → Mu → Prop} (h : SGs X es ws G mu Post) (hc : X.calm = true := by rfl) (hn : ws.length = n := by rfl)
    (ht : ∀ {t : TGs}, PGs X es t → PG X (.Tuple es kk pos) (gTup X.K n t) := by exact fun h => pg_tup rfl h) : SG X (.Tuple es kk pos) (.tup ws) G mu Post :=
  SG.mk (ht pgsG) fun σ H v Q d m dv k => by
    obtain ⟨a, xs, e1, s1, dv1⟩ := dv
    exact ⟨a, xs, e1, s1, by rw [← dv1.length]; exact hn, h σ H xs Q d m dv1 k⟩
theorem ss_asg {tg : Expr} {E : WE} (h : SE X e G mu fun w mu1 => SG X tg w G mu1 E.nx) (hs : swapsWithSole [tg] e pos.line X.env = pure false := by rfl) (hw : swappedStores [tg] e X.env = pure none := by rfl)
    (ha : (assignEach [tg] X.env).map (·.2) = [assign tg X.env] := by rfl) : SS X (.Assign [tg] e pos) G mu E :=
  SS.mk (ps_asg peE pgG hs hw ha) fun σ H D d m k => h σ H _ d m fun v w mu1 H1 h1 c1 d1 m1 => h1 σ H1 v _ (c1.denG m d) m1 d1 (k.nx.step c1)
end
end Dv
set_option Elab.async false
set_option linter.all false
set_option maxRecDepth 100000
/-! Loops and comprehensions by values. -/
namespace Dv
open PySem L2

/-- what a for walks, by values: ws in turn, while Gm holds of the cells -/
def ItW (K : PySem.W.Frag) (J : It) (ws : List W) (Gm : Mu → Prop) (mu1 : Mu) (H1 : Hp) : Prop :=
  ∃ (Gh : Hp → Prop) (Y : Nat → Hp → V → Hp → Prop), Walk J ws.length Gh Y ∧ (∀ mu' H', Chg mu1 H1 mu' H' → HM K H' mu' → Gm mu' → Gh H') ∧
    ∀ i H x H' mu', i < ws.length → Chg mu1 H1 mu' H → HM K H mu' → Gm mu' → Y i H x H' → ∃ w, ws[i]? = some w ∧ Chg mu' H mu' H' ∧ HM K H' mu' ∧ Den K H' w x

section
variable {X : Cx} {e a b c : Expr} {es : List Expr} {st : Stmt} {sts : List Stmt} {G : Gs} {mu mu' : Mu} {pos : Pos} {P : PW1}
def tI (X : Cx) (tg iter : Expr) : TI := fun σ H R => ∀ pins s, Inv X pins σ H s → wpAny (model X.prog X.w) X.A (eval iter X.env) (fun v s1 => wpAny (model X.prog X.w) X.A (pyIter v) (PIE X pins σ tg R) X.xe s1) X.xe s
theorem piI {tg iter : Expr} : PI X tg iter (tI X tg iter) := ⟨fun pins s σ H R I h => h pins s I⟩
def SI (X : Cx) (tg iter : Expr) (G : Gs) (mu : Mu) (Post : List W → (Mu → Prop) → Mu → Prop) : Prop := ∀ σ H R, DenG X.K H G σ → HM X.K H mu →
  (∀ J ws Gm mu1 H1, Post ws Gm mu1 → Chg mu H mu1 H1 → HM X.K H1 mu1 → ItW X.K J ws Gm mu1 H1 → R J H1) → tI X tg iter σ H R
theorem SI.mk {tg iter : Expr} {wi : TI} {Post : List W → (Mu → Prop) → Mu → Prop} (p : PI X tg iter wi) (r : ∀ σ H R, DenG X.K H G σ → HM X.K H mu →
  (∀ J ws Gm mu1 H1, Post ws Gm mu1 → Chg mu H mu1 H1 → HM X.K H1 mu1 → ItW X.K J ws Gm mu1 H1 → R J H1) → wi σ H R) : SI X tg iter G mu Post := fun σ H R d m k pins s I => p.run pins s σ H R I (r σ H R d m k)

theorem itw_tup {K : PySem.W.Frag} {H : Hp} {mu : Mu} {a : Addr} {xs : List V} {ws : List W} (m : HM K H mu) (s : SqT K H a xs) (d : DenAll K H ws xs) : ItW K (Itt K a) ws (fun _ => True) mu H := by
  refine ⟨fun H' => SqT K H' a xs, YAt xs, by rw [d.length]; exact walk_tup, fun mu' H' c m' _ => c.sqt m a xs s, fun i H1 x H2 mu' hi c m' _ ⟨e, y⟩ => ?_⟩
  subst e
  obtain ⟨w, h1, h2⟩ := (c.denAll m d).get y
  exact ⟨w, h1, Chg.refl, m', h2⟩
theorem itw_lst {K : PySem.W.Frag} {H : Hp} {mu : Mu} {a : Addr} {ws : List W} (m : HM K H mu) (h : mu a = some (.lst ws)) : ItW K (Itl K a) ws (fun mu' => mu' a = some (.lst ws)) mu H := by
  obtain ⟨xs, hx, d⟩ := m a _ h
  refine ⟨fun H' => ∃ ys, SqL K H' a ys ∧ DenAll K H' ws ys, fun i H1 x H2 => H2 = H1 ∧ ∃ ys, DenAll K H1 ws ys ∧ ys[i]? = some x, ⟨fun i H' hi ⟨ys, s, d'⟩ => ?_, fun H' ⟨ys, s, d'⟩ => ?_, fun i H' x H'' hi ⟨ys, s, d'⟩ y => ?_⟩,
    fun mu' H' c m' g => ?_, fun i H1 x H2 mu' hi c m' _ ⟨e, ys, d', y⟩ => ?_⟩
  · have hl : i < ys.length := by rw [← d'.length]; exact hi
    exact ⟨ys, ys[i], s, by simp [hl]⟩
  · exact ⟨ys, s, by rw [d'.length]; exact Nat.le_refl _⟩
  · obtain ⟨e, y⟩ := y
    exact ⟨e, ys, d', y ys s⟩
  · obtain ⟨ys, h1, h2⟩ := m' a _ g
    exact ⟨ys, SqL.of h1, h2⟩
  · subst e
    obtain ⟨w, h1, h2⟩ := d'.get y
    exact ⟨w, h1, Chg.refl, m', h2⟩
/-- the items of a tuple or a list -/
abbrev itemsW (w : W) (mu : Mu) (P : List W → (Mu → Prop) → Mu → Prop) : Prop := match w with
  | .tup ws => P ws (fun _ => True) mu
  | .m a => ∃ ws, mu a = some (.lst ws) ∧ P ws (fun mu' => mu' a = some (.lst ws)) mu
  | _ => False
theorem si_tup {tg iter : Expr} {Post : List W → (Mu → Prop) → Mu → Prop} (h : SE X iter G mu fun w mu1 => match w with | .tup ws => Post ws (fun _ => True) mu1 | _ => False) : SI X tg iter G mu Post :=
  SI.mk (pi_tup peE) fun σ H R d m k => h σ H _ d m fun v w mu1 H1 h1 c1 d1 m1 => by
    cases w with
    | tup ws =>
      obtain ⟨a, xs, e, s, d2⟩ := d1
      exact ⟨a, e, ⟨xs, s⟩, k _ _ _ _ _ h1 c1 m1 (itw_tup m1 s d2)⟩
    | _ => exact h1.elim
theorem si_lst {tg iter : Expr} {Post : List W → (Mu → Prop) → Mu → Prop} (h : SE X iter G mu fun w mu1 => match w with | .m a => ∃ ws, mu1 a = some (.lst ws) ∧ Post ws (fun mu' => mu' a = some (.lst ws)) mu1 | _ => False) : SI X tg iter G mu Post :=
  SI.mk (pi_list peE) fun σ H R d m k => h σ H _ d m fun v w mu1 H1 h1 c1 d1 m1 => by
    cases w with
    | m a =>
      obtain ⟨ws, h2, h3⟩ := h1
      obtain ⟨xs, hx, d2⟩ := m1 a _ h2
      have d1 : v = .ref a := d1
      subst d1
      exact ⟨a, rfl, ⟨xs, SqL.of hx⟩, k _ _ _ _ _ h3 c1 m1 (itw_lst m1 h2)⟩
    | _ => exact h1.elim
theorem itw_range {K : PySem.W.Frag} {H : Hp} {mu : Mu} {n : Nat} : ItW K (Itr 0 n) ((List.range n).map fun i => W.int (i : Nat)) (fun _ => True) mu H := by
  refine ⟨fun _ => True, YFn fun i => .int (0 + i), by rw [List.length_map, List.length_range]; exact walk_range, fun _ _ _ _ _ => trivial, fun i H1 x H2 mu' hi c m' _ ⟨e, y⟩ => ?_⟩
  subst e
  rw [List.length_map, List.length_range] at hi
  refine ⟨.int (i : Nat), by simp [hi], Chg.refl, m', ?_⟩
  have y : x = .int (0 + (i : Nat)) := y
  show x = .int (i : Nat)
  rw [y]
  congr 1
  omega
theorem si_range {tg : Expr} {p : Pos} {Post : List W → (Mu → Prop) → Mu → Prop} (h : SE X a G mu fun w mu1 => match w with | .int j => -(2 ^ 62) ≤ j ∧ j < 2 ^ 62 ∧ Post ((List.range j.toNat).map fun i => W.int (i : Nat)) (fun _ => True) mu1 | _ => False)
    (hm : X.mg "range" = none) (hg : Gl X "range" := by rfl) (hs : starEach [a] X.env = [(false, eval a X.env)] := by rfl) : SI X tg (.Call (.Name "range" p) [a] [] pos) G mu Post :=
  SI.mk (pi_range1 hg hm (pa_cons peE pa_nil hs) hs) fun σ H R d m k => h σ H _ d m fun v w mu1 H1 h1 c1 d1 m1 => by
    cases w with
    | int j =>
      have d1 : v = .int j := d1
      subst d1
      exact ⟨j, rfl, h1.1, h1.2.1, k _ _ _ _ _ h1.2.2 c1 m1 itw_range⟩
    | _ => exact h1.elim

/-- for: I by the turn, the names, the cells -/
theorem ss_for {tg iter : Expr} {body : List Stmt} {E : WE} (hp : PassesOwn (model X.prog X.w) X.A X.env X.xe) (hc : X.calm = true) (hf : ∀ x, foldedSetIterable iter X.env x = pure x)
    (h : SI X tg iter G mu fun ws Gm mu1 => ∃ I : Nat → Gs → Mu → Prop, I 0 G mu1 ∧ (∀ i G' mu', i ≤ ws.length → I i G' mu' → Gm mu') ∧
      (∀ i w G' mu', ws[i]? = some w → I i G' mu' → SG X tg w G' mu' fun G2 mu2 => SSs X body G2 mu2 { E with nx := I (i + 1), ct := I (i + 1), bk := E.nx }) ∧ ∀ G' mu', I ws.length G' mu' → E.nx G' mu') : SS X (.For tg iter body [] pos) G mu E :=
  SS.mk (ps_for hp hc piI pgG pssS hf) fun σ H D d m k => h σ H _ d m fun J ws Gm mu1 H1 ⟨I, i0, ig, it, ie⟩ c1 m1 ⟨Gh, Y, wk, hg, hy⟩ =>
    for_it wk (fun i σ' H' => ∃ G' mu', I i G' mu' ∧ Chg mu1 H1 mu' H' ∧ DenG X.K H' G' σ' ∧ HM X.K H' mu') ⟨G, mu1, i0, Chg.refl, c1.denG m d, m1⟩
      (fun i σ' H' hi ⟨G', mu', q, c2, d2, m2⟩ => hg mu' H' c2 m2 (ig i G' mu' hi q))
      (fun i x σ' H' H'' hi ⟨G', mu', q, c2, d2, m2⟩ y => by
        obtain ⟨w, hw, c3, m3, d3⟩ := hy i H' x H'' mu' hi c2 m2 (ig i G' mu' (Nat.le_of_lt hi) q) y
        refine it i w G' mu' hw q σ' H'' x _ (c3.denG m2 d2) m3 d3 fun σ2 G2 mu2 H2 h2 c4 d4 m4 => ?_
        have cc := (c2.trans c3).trans c4
        exact h2 σ2 H2 _ d4 m4 ⟨fun σ3 G3 mu3 H3 h3 c5 d5 m5 => ⟨G3, mu3, h3, cc.trans c5, d5, m5⟩, k.rt.step (c1.trans cc), k.nx.step (c1.trans cc), fun σ3 G3 mu3 H3 h3 c5 d5 m5 => ⟨G3, mu3, h3, cc.trans c5, d5, m5⟩⟩)
      fun σ' H' ⟨G', mu', q, c2, d2, m2⟩ => k.nx _ _ _ _ (ie G' mu' q) (c1.trans c2) d2 m2

/-! ### targets of a comprehension -/
inductive Tg where
  | nm (i : Nat)
  | tp (ts : List Tg)
mutual
def gT (K : PySem.W.Frag) : Tg → TG
  | .nm i => gName i
  | .tp ts => gTup K ts.length (gTs K ts)
def gTs (K : PySem.W.Frag) : List Tg → TGs
  | [] => gNil
  | t :: ts => gCons (gT K t) (gTs K ts)
end
mutual
def Tg.bind : Tg → W → Gs → Option Gs
  | .nm i, w, G => some (G.set i (some w))
  | .tp ts, .tup ws, G => Tg.binds ts ws G
  | .tp _, _, _ => none
def Tg.binds : List Tg → List W → Gs → Option Gs
  | [], [], G => some G
  | t :: ts, w :: ws, G => (Tg.bind t w G).bind fun G1 => Tg.binds ts ws G1
  | _, _, _ => none
end
mutual
def Tg.all (p : Nat → Bool) : Tg → Bool
  | .nm i => p i
  | .tp ts => Tg.alls p ts
def Tg.alls (p : Nat → Bool) : List Tg → Bool
  | [] => true
  | t :: ts => Tg.all p t && Tg.alls p ts
end
def wipeG (G : Gs) : List Nat → Gs
  | [] => G
  | v :: vs => (wipeG G vs).set v none
theorem wipeG_den {K : PySem.W.Frag} {H : Hp} {G : Gs} {σ : St} (d : DenG K H G σ) : ∀ vs : List Nat, DenG K H (wipeG G vs) (wipe σ vs)
  | [] => d
  | v :: vs => by
    obtain ⟨hl, h⟩ := wipeG_den d vs
    refine ⟨by unfold wipeG wipe; rw [List.length_set, List.length_set]; exact hl, fun i w e => ?_⟩
    unfold wipeG at e
    unfold wipe
    by_cases q : v = i
    · subst q
      by_cases z : v < (wipeG G vs).length
      · rw [List.getElem?_set_self z] at e; cases e
      · rw [List.getElem?_eq_none (by simpa using z)] at e; cases e
    · rw [List.getElem?_set_ne q] at e
      rw [List.getElem?_set_ne q]
      exact h i w e
theorem wipe_set {σ : St} {i : Nat} {x : Option V} : ∀ {vs : List Nat}, i ∈ vs → wipe (σ.set i x) vs = wipe σ vs
  | v :: vs, h => by
    unfold wipe
    by_cases e : i ∈ vs
    · rw [wipe_set e]
    · have q : v = i := by
        rcases List.mem_cons.mp h with z | z
        · exact z.symm
        · exact absurd z e
      subst q
      have hn : ∀ us : List Nat, v ∉ us → wipe (σ.set v x) us = (wipe σ us).set v x := by
        intro us
        induction us with
        | nil => intro _; rfl
        | cons u us ih =>
          intro hu
          unfold wipe
          rw [ih fun z => hu (List.mem_cons_of_mem _ z)]
          exact List.set_comm _ _ fun z => hu (by rw [z]; exact List.mem_cons_self)
      rw [hn vs e, List.set_set]
mutual
theorem gT_run {K : PySem.W.Frag} {H : Hp} {vs : List Nat} {Q : St → Hp → Prop} : ∀ (T : Tg) {w : W} {v : V} {G G2 : Gs} {σ : St}, T.bind w G = some G2 → T.all (fun i => decide (i ∈ vs)) = true → DenG K H G σ → Den K H w v →
    (∀ σ2, DenG K H G2 σ2 → wipe σ2 vs = wipe σ vs → Q σ2 H) → gT K T v σ H Q
  | .nm i, w, v, G, G2, σ, hb, ha, d, dv, q => by
    simp only [Tg.bind, Option.some.injEq] at hb
    subst hb
    exact q _ (DenG.set d dv) (wipe_set (of_decide_eq_true ha))
  | .tp ts, .tup ws, v, G, G2, σ, hb, ha, d, dv, q => by
    obtain ⟨a, xs, e, s, dx⟩ := dv
    simp only [Tg.bind] at hb
    unfold Tg.all at ha
    unfold gT
    refine ⟨a, xs, e, s, ?_, gTs_run ts hb ha d dx q⟩
    rw [← dx.length]
    exact (binds_len ts hb).symm
  | .tp ts, .non, v, G, G2, σ, hb, ha, d, dv, q => by simp [Tg.bind] at hb
  | .tp ts, .bl _, v, G, G2, σ, hb, ha, d, dv, q => by simp [Tg.bind] at hb
  | .tp ts, .int _, v, G, G2, σ, hb, ha, d, dv, q => by simp [Tg.bind] at hb
  | .tp ts, .str _, v, G, G2, σ, hb, ha, d, dv, q => by simp [Tg.bind] at hb
  | .tp ts, .m _, v, G, G2, σ, hb, ha, d, dv, q => by simp [Tg.bind] at hb
theorem gTs_run {K : PySem.W.Frag} {H : Hp} {vs : List Nat} {Q : St → Hp → Prop} : ∀ (ts : List Tg) {ws : List W} {xs : List V} {G G2 : Gs} {σ : St}, Tg.binds ts ws G = some G2 → Tg.alls (fun i => decide (i ∈ vs)) ts = true → DenG K H G σ → DenAll K H ws xs →
    (∀ σ2, DenG K H G2 σ2 → wipe σ2 vs = wipe σ vs → Q σ2 H) → gTs K ts xs σ H Q
  | [], [], xs, G, G2, σ, hb, ha, d, dv, q => by
    simp only [Tg.binds, Option.some.injEq] at hb
    subst hb
    exact ⟨dv, q _ d rfl⟩
  | t :: ts, w :: ws, xs, G, G2, σ, hb, ha, d, dv, q => by
    obtain ⟨v, r, e, d1, d2⟩ := dv
    simp only [Tg.binds] at hb
    unfold Tg.alls at ha
    rw [Bool.and_eq_true] at ha
    cases hq : Tg.bind t w G with
    | none => rw [hq] at hb; simp at hb
    | some G1 =>
      rw [hq] at hb
      have hb : Tg.binds ts ws G1 = some G2 := hb
      unfold gTs
      exact ⟨v, r, e, gT_run t hq ha.1 d d1 fun σ1 d3 e3 => gTs_run ts hb ha.2 d3 d2 fun σ2 d4 e4 => q σ2 d4 (e4.trans e3)⟩
  | [], w :: ws, xs, G, G2, σ, hb, ha, d, dv, q => by simp [Tg.binds] at hb
  | t :: ts, [], xs, G, G2, σ, hb, ha, d, dv, q => by simp [Tg.binds] at hb
theorem binds_len : ∀ (ts : List Tg) {ws : List W} {G G2 : Gs}, Tg.binds ts ws G = some G2 → ts.length = ws.length
  | [], [], _, _, _ => rfl
  | t :: ts, w :: ws, G, G2, hb => by
    simp only [Tg.binds] at hb
    cases hq : Tg.bind t w G with
    | none => rw [hq] at hb; simp at hb
    | some G1 =>
      rw [hq] at hb
      have hb : Tg.binds ts ws G1 = some G2 := hb
      simp [binds_len ts hb]
  | [], w :: ws, G, G2, hb => by simp [Tg.binds] at hb
  | t :: ts, [], G, G2, hb => by simp [Tg.binds] at hb
end

theorem set_none_wipe {v : Nat} : ∀ {us : List Nat} {σ : St}, (wipe σ us).set v none = wipe (σ.set v none) us
  | [], σ => rfl
  | u :: us, σ => by
    unfold wipe
    rw [← set_none_wipe]
    by_cases h : u = v
    · subst h; rfl
    · exact List.set_comm _ _ h
theorem wipe_wipe {σ : St} : ∀ {us : List Nat}, wipe (wipe σ us) us = wipe σ us
  | [] => rfl
  | u :: us => by
    show (wipe ((wipe σ us).set u none) us).set u none = (wipe σ us).set u none
    rw [← set_none_wipe, wipe_wipe, List.set_set]
/-! ### comprehensions: I by the turn, what is made so far, the cells -/
/-- one turn's element: kept or not -/
abbrev tt0 : TT := tYes
theorem lc_rd {g : TG} {tt : TT} {te : TE} {tg iter : Expr} {vs : List Nat} {σ : St} {H : Hp} {Q : VK} {P : PW1} (d : DenG X.K H G σ) (m : HM X.K H mu) (k : Kont X.K mu H P Q)
    (h : SI X tg iter G mu fun ws Gm mu1 => ∀ D, mu1 D = none → ∃ I : Nat → List W → Mu → Prop, I 0 [] mu1 ∧ (∀ i acc mu', i ≤ ws.length → I i acc mu' → Gm mu') ∧
      (∀ i w acc mu', ws[i]? = some w → I i acc mu' → acc.length < sizeLine ∧ ∀ (σ' : St) (H' : Hp) (v : V) (R : Option V → Hp → Prop), DenG X.K H' (wipeG G vs) (wipe σ vs) → HM X.K H' mu' → Den X.K H' w v →
        (∀ r y mu4 H4, Chg mu' H' mu4 H4 → HM X.K H4 mu4 → Den X.K H4 r y → I (i + 1) (acc ++ [r]) mu4 → R (some y) H4) → (∀ mu4 H4, Chg mu' H' mu4 H4 → HM X.K H4 mu4 → I (i + 1) acc mu4 → R none H4) →
        g v (wipe σ vs) H' fun σ2 H2 => wipe σ2 vs = wipe σ vs ∧ tt σ2 H2 fun b H3 => if b = true then te σ2 H3 fun y H4 => R (some y) H4 else R none H3) ∧
      ∀ acc mu', I ws.length acc mu' → P (.m D) (setM mu' D (.lst acc))) : tLc (tI X tg iter) g tt te vs σ H Q := by
  refine h σ H _ d m fun J ws Gm mu1 H1 hI c1 m1 ⟨Gh, Y, wk, hg, hy⟩ D hD => ?_
  obtain ⟨I, i0, ig, it, ie⟩ := hI D (m1.dom hD)
  obtain ⟨c0, m0⟩ := laid (o := .lst []) m1 hD
  have dne : ∀ mu' H', Chg mu1 H1 mu' H' → ∀ b o, H1 b = some o → b ≠ D := fun _ _ _ b o e => ne_of_none e hD
  refine lc_it wk (fun i H' => ∃ acc mu' xs, I i acc mu' ∧ H' D = some (.lst xs) ∧ DenAll X.K H' acc xs ∧ mu' D = none ∧ HM X.K H' mu' ∧ Chg mu1 H1 mu' H') ⟨[], mu1, [], i0, upd_same, rfl, m1.dom hD, m0, c0⟩
    (fun i H' hi ⟨acc, mu', xs, q, _, _, _, m2, c2⟩ => hg mu' H' c2 m2 (ig i acc mu' hi q)) (fun i x H' H'' hi ⟨acc, mu', xs, q, hx, dx, nD, m2, c2⟩ y => ?_) fun H' ⟨acc, mu', xs, q, hx, dx, nD, m2, c2⟩ => ?_
  · obtain ⟨w, hw, c3, m3, d3⟩ := hy i H' x H'' mu' hi c2 m2 (ig i acc mu' (Nat.le_of_lt hi) q) y
    obtain ⟨hl, hh⟩ := it i w acc mu' hw q
    have dw : DenG X.K H'' (wipeG G vs) (wipe σ vs) := c3.denG m2 (c2.denG m1 (c1.denG m (wipeG_den d vs)))
    refine hh σ H'' x (fun oy H4 => match oy with
      | some y => ∃ acc', H4 D = some (.lst acc') ∧ acc'.length < sizeLine ∧ ∃ acc mu' xs, I (i + 1) acc mu' ∧ (upd H4 D (.lst (acc' ++ [y]))) D = some (.lst xs) ∧ DenAll X.K (upd H4 D (.lst (acc' ++ [y]))) acc xs ∧ mu' D = none ∧ HM X.K (upd H4 D (.lst (acc' ++ [y]))) mu' ∧ Chg mu1 H1 mu' (upd H4 D (.lst (acc' ++ [y])))
      | none => ∃ acc mu' xs, I (i + 1) acc mu' ∧ H4 D = some (.lst xs) ∧ DenAll X.K H4 acc xs ∧ mu' D = none ∧ HM X.K H4 mu' ∧ Chg mu1 H1 mu' H4) dw m3 d3 (fun r y mu4 H4 c4 m4 d4 q4 => ?_) fun mu4 H4 c4 m4 q4 => ?_
    · have hx3 := c3.keep _ _ hx nD
      have nD3 := nD
      have hx4 := c4.keep _ _ hx3 nD
      have nD4 := c4.new _ _ hx3 nD
      have dx4 := c4.denAll m3 (c3.denAll m2 dx)
      have sq : ∀ a ys, SqT X.K H4 a ys → SqT X.K (upd H4 D (.lst (xs ++ [y]))) a ys := fun a ys s => by
        rcases s with (s | ⟨o, s⟩) | s
        · exact .inl (.inl (by rw [upd_ne (ne_of s hx4 (by intro z; cases z))]; exact s))
        · exact .inl (.inr ⟨o, by rw [upd_ne (ne_of s hx4 (by intro z; cases z))]; exact s⟩)
        · exact .inr s
      refine ⟨xs, hx4, by rw [← dx4.length]; exact hl, acc ++ [r], mu4, xs ++ [y], q4, upd_same, DenAll.append (DenAll.mono sq _ dx4) ⟨y, [], rfl, Den.mono sq _ d4, rfl⟩, nD4, fun a cc ha => CellOk.mono sq (m4 a cc ha) (upd_ne fun z => by subst z; rw [nD4] at ha; cases ha), ?_⟩
      have cc := (c2.trans c3).trans c4
      exact ⟨fun b o e n => by rw [upd_ne (ne_of_none e hD)]; exact cc.keep b o e n, cc.old, cc.new⟩
    · have hx3 := c3.keep _ _ hx nD
      have hx4 := c4.keep _ _ hx3 nD
      exact ⟨acc, mu4, xs, q4, hx4, c4.denAll m3 (c3.denAll m2 dx), c4.new _ _ hx3 nD, m4, (c2.trans c3).trans c4⟩
  · refine k (.ref D) (.m D) (setM mu' D (.lst acc)) H' (ie acc mu' q) (c1.trans ⟨c2.keep, fun b cc e => ?_, fun b o e n => ?_⟩) rfl fun a cc ha => ?_
    · by_cases z : b = D
      · subst z; exact ⟨_, setM_same⟩
      · rw [setM_ne z]; exact c2.old b cc e
    · rw [setM_ne (ne_of_none e hD)]
      exact c2.new b o e n
    · by_cases z : a = D
      · subst z
        rw [setM_same] at ha
        cases ha
        exact ⟨xs, hx, dx⟩
      · rw [setM_ne z] at ha
        exact m2 a cc ha
/-- the element and the test of a block -/
structure Blk (X : Cx) (scope : Scope) (B : Cx → Prop) : Prop where
  all : ∀ (s : Shared) (H : Hp) (C : Addr) (cl : List (Str × Addr)) (fp : List Addr), B (X.blk s H scope (compEnvC scope cl C X.env) fp)
/-- what a comprehension without a test asks -/
abbrev lcPost (B : (Cx → Prop) → Prop) (T : Tg) (elt : Expr) (vs : List Nat) (G : Gs) (P : PW1) : List W → (Mu → Prop) → Mu → Prop := fun ws Gm mu1 => ∀ D, mu1 D = none → ∃ I : Nat → List W → Mu → Prop, I 0 [] mu1 ∧ (∀ i acc mu', i ≤ ws.length → I i acc mu' → Gm mu') ∧
  (∀ i w acc mu', ws[i]? = some w → I i acc mu' → acc.length < sizeLine ∧ ∃ G2, T.bind w (wipeG G vs) = some G2 ∧ B fun Y => SE Y elt G2 mu' fun r mu4 => I (i + 1) (acc ++ [r]) mu4) ∧ ∀ acc mu', I ws.length acc mu' → P (.m D) (setM mu' D (.lst acc))
abbrev lcPost1 (B : (Cx → Prop) → Prop) (T : Tg) (elt t : Expr) (vs : List Nat) (G : Gs) (P : PW1) : List W → (Mu → Prop) → Mu → Prop := fun ws Gm mu1 => ∀ D, mu1 D = none → ∃ I : Nat → List W → Mu → Prop, I 0 [] mu1 ∧ (∀ i acc mu', i ≤ ws.length → I i acc mu' → Gm mu') ∧
  (∀ i w acc mu', ws[i]? = some w → I i acc mu' → acc.length < sizeLine ∧ ∃ G2, T.bind w (wipeG G vs) = some G2 ∧ B fun Y => ST Y t G2 mu' fun b mu3 => if2 b (B fun Z => SE Z elt G2 mu3 fun r mu4 => I (i + 1) (acc ++ [r]) mu4) (I (i + 1) acc mu3)) ∧ ∀ acc mu', I ws.length acc mu' → P (.m D) (setM mu' D (.lst acc))
/-- in every block of a comprehension with this scope -/
def InBlk (X : Cx) (scope : Scope) (p : Cx → Prop) : Prop := ∀ (s : Shared) (H : Hp) (C : Addr) (cl : List (Str × Addr)) (fp : List Addr), p (X.blk s H scope (compEnvC scope cl C X.env) fp)
theorem lc_tur0 {scope : Scope} {own : List (Str × Nat)} {tg iter elt : Expr} (T : Tg) {P : PW1} {σ : St} {H : Hp} {Q : VK} (ha : T.all (fun i => decide (i ∈ own.map (·.2))) = true) (d : DenG X.K H G σ) (m : HM X.K H mu) (k : Kont X.K mu H P Q)
    (h : SI X tg iter G mu (lcPost (InBlk X scope) T elt (own.map (·.2)) G P)) :
    tLc (tI X tg iter) (gT X.K T) tYes (fun σ2 H2 Q2 => ∀ (s : Shared) (H : Hp) (C : Addr) (cl : List (Str × Addr)) (fp : List Addr), tE (X.blk s H scope (compEnvC scope cl C X.env) fp) elt σ2 H2 Q2) (own.map (·.2)) σ H Q := by
  refine lc_rd d m k (fun σ0 H0 R d0 m0 kk => h σ0 H0 R d0 m0 fun J ws Gm mu1 H1 hI c1 m1 iw => kk J ws Gm mu1 H1 (fun D hD => ?_) c1 m1 iw)
  obtain ⟨I, i0, ig, it, ie⟩ := hI D hD
  refine ⟨I, i0, ig, fun i w acc mu' hw q => ?_, ie⟩
  obtain ⟨hl, G2, hb, he⟩ := it i w acc mu' hw q
  refine ⟨hl, fun σ' H' v R dw m3 dv r1 r2 => gT_run T hb ha dw dv fun σ2 d2 e2 => ⟨e2.trans wipe_wipe, iteT (B := R none H') fun s Hs C cl fp => he s Hs C cl fp σ2 H' _ d2 m3 fun y r mu4 H4 q4 c4 d4 m4 => r1 r y mu4 H4 c4 m4 d4 q4⟩⟩
theorem lc_tur1 {scope : Scope} {own : List (Str × Nat)} {tg iter elt t : Expr} (T : Tg) {P : PW1} {σ : St} {H : Hp} {Q : VK} (ha : T.all (fun i => decide (i ∈ own.map (·.2))) = true) (d : DenG X.K H G σ) (m : HM X.K H mu) (k : Kont X.K mu H P Q)
    (h : SI X tg iter G mu (lcPost1 (InBlk X scope) T elt t (own.map (·.2)) G P)) :
    tLc (tI X tg iter) (gT X.K T) (fun σ2 H2 Q2 => ∀ (s : Shared) (H : Hp) (C : Addr) (cl : List (Str × Addr)) (fp : List Addr), tT (X.blk s H scope (compEnvC scope cl C X.env) fp) t σ2 H2 Q2)
      (fun σ2 H2 Q2 => ∀ (s : Shared) (H : Hp) (C : Addr) (cl : List (Str × Addr)) (fp : List Addr), tE (X.blk s H scope (compEnvC scope cl C X.env) fp) elt σ2 H2 Q2) (own.map (·.2)) σ H Q := by
  refine lc_rd d m k (fun σ0 H0 R d0 m0 kk => h σ0 H0 R d0 m0 fun J ws Gm mu1 H1 hI c1 m1 iw => kk J ws Gm mu1 H1 (fun D hD => ?_) c1 m1 iw)
  obtain ⟨I, i0, ig, it, ie⟩ := hI D hD
  refine ⟨I, i0, ig, fun i w acc mu' hw q => ?_, ie⟩
  obtain ⟨hl, G2, hb, he⟩ := it i w acc mu' hw q
  refine ⟨hl, fun σ' H' v R dw m3 dv r1 r2 => gT_run T hb ha dw dv fun σ2 d2 e2 => ⟨e2.trans wipe_wipe, fun s Hs C cl fp => he s Hs C cl fp σ2 H' _ d2 m3 fun b mu3 H3 hb3 c3 m3' => ?_⟩⟩
  cases b with
  | true => exact iteT (B := R none H3) fun s Hs C cl fp => (show InBlk X scope _ from hb3) s Hs C cl fp σ2 H3 _ (c3.denG m3 d2) m3' fun y r mu4 H4 q4 c4 d4 m4 => r1 r y mu4 H4 (c3.trans c4) m4 d4 q4
  | false => exact iteF (A := ∀ (s : Shared) (H : Hp) (C : Addr) (cl : List (Str × Addr)) (fp : List Addr), tE (X.blk s H scope (compEnvC scope cl C X.env) fp) elt σ2 H3 fun y H4 => R (some y) H4) (r2 mu3 H3 c3 m3' hb3)
theorem se_lc {scope : Scope} {own : List (Str × Nat)} {tg iter elt : Expr} (T : Tg) (hc : X.calm = true) (hN : X.N.Nodup) (ok : BlkOk X.N X.env.scope scope own) (ha : T.all (fun i => decide (i ∈ own.map (·.2))) = true)
    (hg : ∀ (s : Shared) (H : Hp) (C : Addr) (cl : List (Str × Addr)) (fp : List Addr), PG (X.blk s H scope (compEnvC scope cl C X.env) fp) tg (gT X.K T)) (hs : ∀ x, foldedSetIterable iter X.env x = pure x)
    (h : SI X tg iter G mu (lcPost (InBlk X scope) T elt (own.map (·.2)) G P)) : SE X (.ListComp elt [⟨tg, iter, [], 0⟩] scope pos) G mu P :=
  SE.mk (pe_lc hc hN piI ok hg (fun _ _ _ _ _ => pts_nil) (fun s H C cl fp => ⟨fun pins s' σ H' Q I h => h s H C cl fp pins s' I⟩) hs) fun σ H Q d m k => lc_tur0 T ha d m k h
theorem se_lc1 {scope : Scope} {own : List (Str × Nat)} {tg iter elt t : Expr} (T : Tg) (hc : X.calm = true) (hN : X.N.Nodup) (ok : BlkOk X.N X.env.scope scope own) (ha : T.all (fun i => decide (i ∈ own.map (·.2))) = true)
    (hg : ∀ (s : Shared) (H : Hp) (C : Addr) (cl : List (Str × Addr)) (fp : List Addr), PG (X.blk s H scope (compEnvC scope cl C X.env) fp) tg (gT X.K T)) (hs : ∀ x, foldedSetIterable iter X.env x = pure x)
    (h : SI X tg iter G mu (lcPost1 (InBlk X scope) T elt t (own.map (·.2)) G P)) : SE X (.ListComp elt [⟨tg, iter, [t], 0⟩] scope pos) G mu P :=
  SE.mk (pe_lc hc hN piI ok hg (fun s H C cl fp => pts_one ⟨fun pins s' σ H' Q I h => h s H C cl fp pins s' I⟩) (fun s H C cl fp => ⟨fun pins s' σ H' Q I h => h s H C cl fp pins s' I⟩) hs) fun σ H Q d m k => lc_tur1 T ha d m k h
theorem ss_setlc {E : WE} {i : Nat} {y : Str} {py spos : Pos} {scope : Scope} {own : List (Str × Nat)} {tg iter elt : Expr} (T : Tg) (hc : X.calm = true) (hN : X.N.Nodup) (hy : X.N[i]? = some y) (hyl : X.env.scope.names.lookup y = some .local)
    (hsw : swapsWith (.ListComp elt [⟨tg, iter, [], 0⟩] scope pos) (some (.Name y py)) spos.line X.env = pure true) (ok : BlkOk X.N X.env.scope scope own) (ha : T.all (fun i => decide (i ∈ own.map (·.2))) = true)
    (hg : ∀ (s : Shared) (H : Hp) (C : Addr) (cl : List (Str × Addr)) (fp : List Addr), PG (X.blk s H scope (compEnvC scope cl C X.env) fp) tg (gT X.K T)) (hs : ∀ x, foldedSetIterable iter X.env x = pure x)
    (h : SI X tg iter G mu (lcPost (InBlk X scope) T elt (own.map (·.2)) G fun w mu1 => E.nx (G.set i (some w)) mu1)) : SS X (.Assign [.Name y py] (.ListComp elt [⟨tg, iter, [], 0⟩] scope pos) spos) G mu E :=
  SS.mk (ps_setLc hc hN hy hyl hsw piI ok hg (fun _ _ _ _ _ => pts_nil) (fun s H C cl fp => ⟨fun pins s' σ H' Q I h => h s H C cl fp pins s' I⟩) hs) fun σ H D d m k =>
    lc_tur0 (P := fun w mu1 => E.nx (G.set i (some w)) mu1) T ha d m (fun v w mu1 H1 h1 c1 d1 m1 => k.nx _ _ _ _ h1 c1 (DenG.set (c1.denG m d) d1) m1) h
theorem ss_setlc1 {E : WE} {i : Nat} {y : Str} {py spos : Pos} {scope : Scope} {own : List (Str × Nat)} {tg iter elt t : Expr} (T : Tg) (hc : X.calm = true) (hN : X.N.Nodup) (hy : X.N[i]? = some y) (hyl : X.env.scope.names.lookup y = some .local)
    (hsw : swapsWith (.ListComp elt [⟨tg, iter, [t], 0⟩] scope pos) (some (.Name y py)) spos.line X.env = pure true) (ok : BlkOk X.N X.env.scope scope own) (ha : T.all (fun i => decide (i ∈ own.map (·.2))) = true)
    (hg : ∀ (s : Shared) (H : Hp) (C : Addr) (cl : List (Str × Addr)) (fp : List Addr), PG (X.blk s H scope (compEnvC scope cl C X.env) fp) tg (gT X.K T)) (hs : ∀ x, foldedSetIterable iter X.env x = pure x)
    (h : SI X tg iter G mu (lcPost1 (InBlk X scope) T elt t (own.map (·.2)) G fun w mu1 => E.nx (G.set i (some w)) mu1)) : SS X (.Assign [.Name y py] (.ListComp elt [⟨tg, iter, [t], 0⟩] scope pos) spos) G mu E :=
  SS.mk (ps_setLc hc hN hy hyl hsw piI ok hg (fun s H C cl fp => pts_one ⟨fun pins s' σ H' Q I h => h s H C cl fp pins s' I⟩) (fun s H C cl fp => ⟨fun pins s' σ H' Q I h => h s H C cl fp pins s' I⟩) hs) fun σ H D d m k =>
    lc_tur1 (P := fun w mu1 => E.nx (G.set i (some w)) mu1) T ha d m (fun v w mu1 H1 h1 c1 d1 m1 => k.nx _ _ _ _ h1 c1 (DenG.set (c1.denG m d) d1) m1) h
end
end Dv
set_option Elab.async false
set_option linter.all false
set_option maxRecDepth 100000
/-! Calls of defs and of built-ins by values; data. -/
namespace Dv
open PySem L2

/-! ### defs -/
/-- a def's promise by values -/
abbrev SpW := List W → Mu → PW1 → Prop
def spW (K : PySem.W.Frag) (S : SpW) : Sp := fun vs H Q _ => ∃ ws mu P, S ws mu P ∧ DenAll K H ws vs ∧ HM K H mu ∧ Kont K mu H P Q
def startW (N : List Str) (ws : List W) : Gs := ws.map some ++ List.replicate (N.length - ws.length) none
theorem start_den {K : PySem.W.Frag} {H : Hp} {N : List Str} {ws : List W} {vs : List V} (d : DenAll K H ws vs) : DenG K H (startW N ws) (L2.start N vs) := by
  have hl := d.length
  refine ⟨by unfold startW L2.start; simp [hl], fun i w h => ?_⟩
  unfold startW at h
  unfold L2.start
  by_cases z : i < ws.length
  · rw [List.getElem?_append_left (by simpa using z), List.getElem?_map] at h
    cases e : ws[i]? with
    | none => rw [e] at h; cases h
    | some w' =>
      rw [e] at h
      cases h
      obtain ⟨v, h1, h2⟩ := d.get' e
      exact ⟨v, by rw [List.getElem?_append_left (by simpa [← hl] using z), List.getElem?_map, h1]; rfl, h2⟩
  · rw [List.getElem?_append_right (by simpa using z)] at h
    rw [List.getElem?_replicate] at h
    split at h <;> simp at h
section
variable {P : Program} {w : World} {K : PySem.W.Frag} {mg : Str → Option Value} {base : Heap}
theorem okW {x qual : Str} {st : Stmt} {f : Addr} {fd : FuncData} {N ps : List Str} {k : Nat} {S : SpW} (F : Fun K x qual st f fd) (Sc : FnScope N ps (defScope st)) (len : ∀ ws mu P, S ws mu P → ws.length = ps.length)
    (body : ∀ (cdv : Value) (A : Around) (outer : List Env) (s : Shared) (H : Hp) (E : XK), Room k (A.deeper (PyProof.Rows.envOfC qual (defScope st) s.heap.objs.size f cdv)) → ∀ ws mu Pt, S ws mu Pt →
      SSs (cxOf CX0 P w K mg base N qual (defScope st) f cdv A outer s H E).nox (defBody st) (startW N ws) mu { nx := fun _ mu' => Pt .non mu', rt := Pt }) : FnOk P w K mg base CX0 (k + 1) f fd ps (spW K S) :=
  F.ok Sc (fun vs H Q E ⟨ws, mu, Pt, h, d, _, _⟩ => d.length ▸ len ws mu Pt h) fun cdv A outer s H vs Q E hr ⟨ws, mu, Pt, h, d, m, k⟩ =>
    ⟨_, pssS, body cdv A outer s H E hr ws mu Pt h _ _ _ (start_den d) m ⟨fun σ G mu' H' h' c d' m' => k .non .non mu' H' h' c rfl m', k, fun _ _ _ _ h => h.elim, fun _ _ _ _ h => h.elim⟩⟩
end
section
variable {X : Cx} {e a b c : Expr} {es : List Expr} {st : Stmt} {sts : List Stmt} {G : Gs} {mu mu' : Mu} {pos p : Pos} {P : PW1}
theorem se_call {k : Nat} {f : Addr} {fd : FuncData} {ps : List Str} {S : SpW} {x : Str} (F : FnOk X.prog X.w X.K X.mg X.base CX0 k f fd ps (spW X.K S)) (hr : Room k X.A) (hm : X.mg x = some (.ref f)) (hk : PySem.W.keepIn X.K (.ref f) = true) (hb : Binds X.K fd ps [])
    (h : SA X (e :: es) G mu fun ws mu1 => S ws mu1 P) (hg : Gl X x := by rfl) (hdb : (x == ("__debug__" : Str)) = false := by decide) (he : starEach (e :: es) X.env = (false, eval e X.env) :: starEach es X.env := by rfl) (hpl : (backTo pos (starEach es X.env)).any (·.1) = false := by rfl) :
    SE X (.Call (.Name x p) (e :: es) [] pos) G mu P :=
  SE.mk (pe_call F hr hg hm hk hb .nil pass0 paA hdb he hpl) fun σ H Q d m k => h σ H _ d m fun vs ws mu1 H1 h1 c1 d1 m1 => ⟨ws, mu1, P, h1, by rw [List.append_nil]; exact d1, m1, k.step c1⟩

/-! ### built-ins called by their name -/
/-- a built-in's rule by values -/
def CallW (X : Cx) (r : List V → Hp → VK → Prop) (f : List W → Mu → PW1 → Prop) : Prop := ∀ ws vs mu H P Q, DenAll X.K H ws vs → HM X.K H mu → f ws mu P → Kont X.K mu H P Q → r vs H Q
theorem se_blt {x : Str} {id : String} {r : List V → Hp → VK → Prop} {f : List W → Mu → PW1 → Prop} (hc : CallR X (.builtin id) r) (hw : CallW X r f) (hm : X.mg x = none) (h : SA X (e :: es) G mu fun ws mu1 => f ws mu1 P)
    (hv : bootBuiltins x = some (.builtin id) := by decide +kernel) (hg : Gl X x := by rfl) (hn : x ≠ "__name__" := by decide) (hdb : (x == ("__debug__" : Str)) = false := by decide)
    (he : starEach (e :: es) X.env = (false, eval e X.env) :: starEach es X.env := by rfl) (hpl : (backTo pos (starEach es X.env)).any (·.1) = false := by rfl) : SE X (.Call (.Name x p) (e :: es) [] pos) G mu P :=
  SE.mk (pe_callB hc hg hm hv paA hn hdb he hpl) fun σ H Q d m k => h σ H _ d m fun vs ws mu1 H1 h1 c1 d1 m1 => hw _ _ _ _ _ _ d1 m1 h1 (k.step c1)
theorem se_bty {x : Str} {T : String} {r : List V → Hp → VK → Prop} {f : List W → Mu → PW1 → Prop} (hc : CallR X (.type T) r) (hw : CallW X r f) (hm : X.mg x = none) (h : SA X (e :: es) G mu fun ws mu1 => f ws mu1 P)
    (hv : bootBuiltins x = some (.type T) := by decide +kernel) (hg : Gl X x := by rfl) (hn : x ≠ "__name__" := by decide) (hdb : (x == ("__debug__" : Str)) = false := by decide)
    (he : starEach (e :: es) X.env = (false, eval e X.env) :: starEach es X.env := by rfl) (hpl : (backTo pos (starEach es X.env)).any (·.1) = false := by rfl) : SE X (.Call (.Name x p) (e :: es) [] pos) G mu P :=
  SE.mk (pe_callTy hc hg hm hv paA hn hdb he hpl) fun σ H Q d m k => h σ H _ d m fun vs ws mu1 H1 h1 c1 d1 m1 => hw _ _ _ _ _ _ d1 m1 h1 (k.step c1)
/-- a built-in's name as a value (a class for isinstance) -/
abbrev lenW (ws : List W) (mu : Mu) (P : PW1) : Prop := match ws with
  | [.str s] => s.length ≤ sizeLine ∧ P (.int s.length) mu
  | [.tup ws] => P (.int ws.length) mu
  | [.m a] => ∃ ws, mu a = some (.lst ws) ∧ P (.int ws.length) mu
  | _ => False
theorem DenAll.one {K : PySem.W.Frag} {H : Hp} {w : W} {vs : List V} (d : DenAll K H [w] vs) : ∃ v, vs = [v] ∧ Den K H w v := by
  obtain ⟨v, r, e, d1, d2⟩ := d
  have d2 : r = [] := d2
  subst d2
  exact ⟨v, e, d1⟩
theorem DenAll.two {K : PySem.W.Frag} {H : Hp} {w w' : W} {vs : List V} (d : DenAll K H [w, w'] vs) : ∃ v v', vs = [v, v'] ∧ Den K H w v ∧ Den K H w' v' := by
  obtain ⟨v, r, e, d1, d2⟩ := d
  obtain ⟨v', e2, d3⟩ := DenAll.one d2
  subst e2
  exact ⟨v, v', e, d1, d3⟩
theorem len_w : CallW X (fun xs H Q => ∃ x n, xs = [x] ∧ LenV X.K x H n ∧ Q (.int n) H) lenW := fun ws vs mu H P Q d m h k => by
  unfold lenW at h
  split at h
  · rename_i s
    obtain ⟨v, rfl, dv⟩ := d.one
    have dv : v = .str s := dv
    subst dv
    exact ⟨_, s.length, rfl, ⟨h.1, rfl⟩, k.now h.2 rfl m⟩
  · rename_i ws
    obtain ⟨v, rfl, a, xs, rfl, s, dx⟩ := d.one
    exact ⟨_, ws.length, rfl, .inr ⟨xs, s, dx.length⟩, k.now h rfl m⟩
  · rename_i a
    obtain ⟨ws, h1, h2⟩ := h
    obtain ⟨v, rfl, dv⟩ := d.one
    have dv : v = .ref a := dv
    subst dv
    obtain ⟨xs, hx, dx⟩ := m a _ h1
    exact ⟨_, ws.length, rfl, .inl ⟨xs, SqL.of hx, dx.length⟩, k.now h2 rfl m⟩
  · exact h.elim
theorem se_len (h : SE X e G mu fun w mu1 => lenW [w] mu1 P) (hm : X.mg "len" = none) (hg : Gl X "len" := by rfl) (hs : starEach [e] X.env = [(false, eval e X.env)] := by rfl) (hpl : (backTo pos (starEach [] X.env)).any (·.1) = false := by rfl) : SE X (.Call (.Name "len" p) [e] [] pos) G mu P :=
  se_blt call_len len_w hm (sa_cons (fun σ H Q d m k => h σ H Q d m fun v w mu1 H1 h1 c1 d1 m1 => k v w mu1 H1 (fun σ2 H2 Q2 d2 m2 k2 => sa_nil h1 σ2 H2 Q2 d2 m2 k2) c1 d1 m1) hs) PySem.boot_len hg (by decide) (by decide) hs hpl
/-- one argument, as a call's arguments -/
theorem sa_one {P : List W → Mu → Prop} (h : SE X e G mu fun w mu1 => P [w] mu1) (hs : starEach [e] X.env = [(false, eval e X.env)] := by rfl) : SA X [e] G mu P :=
  sa_cons (fun σ H Q d m k => h σ H Q d m fun v w mu1 H1 h1 c1 d1 m1 => k v w mu1 H1 (sa_nil h1) c1 d1 m1) hs
theorem sa_two {P : List W → Mu → Prop} (h : SE X a G mu fun w mu1 => SE X b G mu1 fun w2 mu2 => P [w, w2] mu2) (hs : starEach [a, b] X.env = (false, eval a X.env) :: starEach [b] X.env := by rfl) (hs2 : starEach [b] X.env = [(false, eval b X.env)] := by rfl) : SA X [a, b] G mu P :=
  sa_cons (fun σ H Q d m k => h σ H Q d m fun v w mu1 H1 h1 c1 d1 m1 => k v w mu1 H1 (sa_one h1 hs2) c1 d1 m1) hs
/-! all, any of a list of bools -/
theorem denAll_bl {K : PySem.W.Frag} {H : Hp} : ∀ {bs : List Bool} {vs : List V}, DenAll K H (bs.map W.bl) vs → vs = bs.map V.bl
  | [], _, d => d
  | b :: bs, _, ⟨v, r, e, d1, d2⟩ => by
    have d1 : v = .bl b := d1
    subst e d1
    rw [denAll_bl d2]
    rfl
theorem denAll_str {K : PySem.W.Frag} {H : Hp} : ∀ {bs : List Str} {vs : List V}, DenAll K H (bs.map W.str) vs → vs = bs.map V.str
  | [], _, d => d
  | b :: bs, _, ⟨v, r, e, d1, d2⟩ => by
    have d1 : v = .str b := d1
    subst e d1
    rw [denAll_str d2]
    rfl
abbrev allW (ws : List W) (mu : Mu) (P : PW1) : Prop := match ws with | [.m a] => ∃ bs : List Bool, mu a = some (.lst (bs.map W.bl)) ∧ P (.bl (bs.all id)) mu | _ => False
abbrev anyW (ws : List W) (mu : Mu) (P : PW1) : Prop := match ws with | [.m a] => ∃ bs : List Bool, mu a = some (.lst (bs.map W.bl)) ∧ P (.bl (bs.any id)) mu | _ => False
theorem all_w : CallW X (rAll X.K) allW := fun ws vs mu H P Q d m h k => by
  unfold allW at h
  split at h
  · rename_i a
    obtain ⟨bs, h1, h2⟩ := h
    obtain ⟨v, rfl, dv⟩ := d.one
    have dv : v = .ref a := dv
    subst dv
    obtain ⟨xs, hx, dx⟩ := m a _ h1
    rw [denAll_bl dx] at hx
    exact ⟨a, bs, rfl, SqL.of hx, k.now h2 rfl m⟩
  · exact h.elim
theorem any_w : CallW X (rAny X.K) anyW := fun ws vs mu H P Q d m h k => by
  unfold anyW at h
  split at h
  · rename_i a
    obtain ⟨bs, h1, h2⟩ := h
    obtain ⟨v, rfl, dv⟩ := d.one
    have dv : v = .ref a := dv
    subst dv
    obtain ⟨xs, hx, dx⟩ := m a _ h1
    rw [denAll_bl dx] at hx
    exact ⟨a, bs, rfl, SqL.of hx, k.now h2 rfl m⟩
  · exact h.elim
/-! tuple(list) -/
abbrev tupleW (ws : List W) (mu : Mu) (P : PW1) : Prop := match ws with | [.m a] => ∃ ws, mu a = some (.lst ws) ∧ P (.tup ws) mu | [.tup ws] => P (.tup ws) mu | _ => False
theorem tuple_w : CallW X (fun xs H Q => ∃ p ys, xs = [.ref p] ∧ ((SqL X.K H p ys ∧ ∀ l, H l = none → Q (.ref l) (upd H l (.tup ys))) ∨ (SqT X.K H p ys ∧ Q (.ref p) H))) tupleW := fun ws vs mu H P Q d m h k => by
  unfold tupleW at h
  split at h
  · rename_i a
    obtain ⟨ws, h1, h2⟩ := h
    obtain ⟨v, rfl, dv⟩ := d.one
    have dv : v = .ref a := dv
    subst dv
    obtain ⟨xs, hx, dx⟩ := m a _ h1
    refine ⟨a, xs, rfl, .inl ⟨SqL.of hx, fun l hl => ?_⟩⟩
    obtain ⟨c2, m2⟩ := laid (o := .tup xs) m hl
    exact k _ _ mu _ h2 c2 ⟨l, xs, rfl, SqT.of upd_same, c2.denAll m dx⟩ m2
  · rename_i ws
    obtain ⟨v, rfl, a, xs, rfl, s, dx⟩ := d.one
    exact ⟨a, xs, rfl, .inr ⟨s, k.now h ⟨a, xs, rfl, s, dx⟩ m⟩⟩
  · exact h.elim
/-! list(list or tuple) -/
abbrev listW (ws : List W) (mu : Mu) (P : PW1) : Prop := match ws with
  | [.m a] => ∃ ws, mu a = some (.lst ws) ∧ ∀ p, mu p = none → P (.m p) (setM mu p (.lst ws))
  | [.tup ws] => ∀ p, mu p = none → P (.m p) (setM mu p (.lst ws))
  | _ => False
theorem list_w : CallW X (fun xs H Q => ∃ p ys, xs = [.ref p] ∧ (SqL X.K H p ys ∨ SqT X.K H p ys) ∧ ∀ l, H l = none → Q (.ref l) (upd H l (.lst ys))) listW := fun ws vs mu H P Q d m h k => by
  unfold listW at h
  split at h
  · rename_i a
    obtain ⟨ws, h1, h2⟩ := h
    obtain ⟨v, rfl, dv⟩ := d.one
    have dv : v = .ref a := dv
    subst dv
    obtain ⟨xs, hx, dx⟩ := m a _ h1
    refine ⟨a, xs, rfl, .inl (SqL.of hx), fun l hl => ?_⟩
    obtain ⟨c2, m2⟩ := laidC (o := .lst xs) (c := .lst ws) m hl (newLst dx)
    exact k _ _ _ _ (h2 l (m.dom hl)) c2 rfl m2
  · rename_i ws
    obtain ⟨v, rfl, a, xs, rfl, s, dx⟩ := d.one
    refine ⟨a, xs, rfl, .inr s, fun l hl => ?_⟩
    obtain ⟨c2, m2⟩ := laidC (o := .lst xs) (c := .lst ws) m hl (newLst dx)
    exact k _ _ _ _ (h l (m.dom hl)) c2 rfl m2
  · exact h.elim
/-! isinstance -/
def tyN (mu : Mu) : W → Option String
  | .non => some "NoneType"
  | .bl _ => some "bool"
  | .int _ => some "int"
  | .str _ => some "str"
  | .tup _ => some "tuple"
  | .m a => match mu a with
    | some (.lst _) => some "list"
    | some (.dic _) => some "dict"
    | _ => none
theorem tyN_ok {K : PySem.W.Frag} {H : Hp} {w : W} {v : V} {n : String} (d : Den K H w v) (m : HM K H mu) (h : tyN mu w = some n) : TyX K H v (.type n) := by
  cases w with
  | non => cases h; have d : v = .non := d; subst d; exact .base .non
  | bl b => cases h; have d : v = .bl b := d; subst d; exact .base (.bl b)
  | int b => cases h; have d : v = .int b := d; subst d; exact .base (.int b)
  | str b => cases h; have d : v = .str b := d; subst d; exact .base (.str b)
  | tup ws =>
    cases h
    obtain ⟨a, xs, rfl, s, dx⟩ := d
    rcases s with (s | ⟨o, s⟩) | ⟨o, its, n, s, hc, _⟩
    · exact .base (.tup s)
    · exact .fTuple s
    · exact .kTuple s hc
  | m a =>
    have d : v = .ref a := d
    subst d
    have h : (match mu a with | some (.lst _) => some "list" | some (.dic _) => some "dict" | _ => none) = some n := h
    cases e : mu a with
    | none => rw [e] at h; cases h
    | some c =>
      rw [e] at h
      cases c with
      | lst ws => cases h; obtain ⟨xs, hx, _⟩ := m a _ e; exact .base (.lst hx)
      | dic ws => cases h; obtain ⟨xs, hx, _⟩ := m a _ e; exact .base (.dK hx)
      | ins Cl fs => cases h
theorem se_isi {q : Pos} {x : Str} {T : String} (h : SE X e G mu fun w mu1 => ∃ n r, tyN mu1 w = some n ∧ kitB n T = some r ∧ P (.bl r) mu1) (hm : X.mg "isinstance" = none) (hmx : X.mg x = none) (hv : bootBuiltins x = some (.type T) := by decide +kernel)
    (hg : Gl X "isinstance" := by rfl) (hgx : Gl X x := by rfl) (hnx : x ≠ "__name__" := by decide) (hdx : (x == ("__debug__" : Str)) = false := by decide) (hs : starEach [e, .Name x q] X.env = (false, eval e X.env) :: starEach [.Name x q] X.env := by rfl)
    (hs2 : starEach [.Name x q] X.env = [(false, eval (.Name x q) X.env)] := by rfl) (hpl : (backTo pos (starEach [.Name x q] X.env)).any (·.1) = false := by rfl) : SE X (.Call (.Name "isinstance" p) [e, .Name x q] [] pos) G mu P :=
  SE.mk (pe_callB call_isi hg hm (by decide +kernel) (pa_cons peE (pa_cons (pe_bltn (v := .ty T) hgx hmx hv rfl hnx hdx) pa_nil hs2) hs) (by decide) (by decide) hs hpl) fun σ H Q d m k =>
    h σ H _ d m fun v w mu1 H1 ⟨n, r, h1, h2, h3⟩ c1 d1 m1 => ⟨v, .ty T, .type n, .type T, r, rfl, .ty T, tyN_ok d1 m1 h1, kit_ty h2, k _ _ _ _ h3 c1 rfl m1⟩
end
end Dv
set_option Elab.async false
set_option linter.all false
set_option maxRecDepth 100000
/-! Data: comparisons, membership, order; subscripts and slices; zip. -/
namespace Dv
open PySem L2
mutual
def dat : W → PyData
  | .non => .none
  | .bl b => .bool b
  | .int i => .int i
  | .str x => .str x
  | .tup ws => .tuple (dats ws)
  | .m _ => .none
def dats : List W → List PyData
  | [] => []
  | w :: ws => dat w :: dats ws
end
mutual
def plW : W → Bool
  | .m _ => false
  | .tup ws => plsW ws
  | _ => true
def plsW : List W → Bool
  | [] => true
  | w :: ws => plW w && plsW ws
end
section
variable {K : PySem.W.Frag} {H : Hp}
mutual
theorem Den.dp : ∀ (w : W) {v : V}, plW w = true → Den K H w v → Dp K H v (dat w)
  | .non, _, _, d => by have d : _ = _ := d; subst d; exact .non
  | .bl b, _, _, d => by have d : _ = _ := d; subst d; exact .bl b
  | .int b, _, _, d => by have d : _ = _ := d; subst d; exact .int b
  | .str b, _, _, d => by have d : _ = _ := d; subst d; exact .str b
  | .tup ws, _, p, ⟨a, xs, e, s, dx⟩ => by subst e; unfold dat; exact .tup s (DenAll.dp ws (by unfold plW at p; exact p) dx)
  | .m _, _, p, _ => by unfold plW at p; cases p
theorem DenAll.dp : ∀ (ws : List W) {vs : List V}, plsW ws = true → DenAll K H ws vs → DpAll K H vs (dats ws)
  | [], _, _, d => by have d : _ = _ := d; subst d; exact .nil
  | w :: ws, _, p, ⟨v, r, e, d1, d2⟩ => by
    subst e
    unfold plsW at p
    rw [Bool.and_eq_true] at p
    unfold dats
    exact .cons (Den.dp w p.1 d1) (DenAll.dp ws p.2 d2)
end
end
/-- data that may be compared: no references, not too deep -/
def okD (w : W) : Bool := plW w && SeqAt.shaped (dat w)
section
variable {X : Cx} {e a b c : Expr} {es : List Expr} {st : Stmt} {sts : List Stmt} {G : Gs} {mu mu' : Mu} {pos p : Pos} {P : PW1}
/-- a list cell of plW data, or plW data -/
def asD (mu : Mu) : W → Option PyData
  | .m a => match mu a with
    | some (.lst ws) => if plsW ws then some (.list (dats ws)) else none
    | _ => none
  | w => if plW w then some (dat w) else none
theorem asD_ok {K : PySem.W.Frag} {H : Hp} {w : W} {v : V} {d : PyData} (m : HM K H mu) (dv : Den K H w v) (h : asD mu w = some d) : Dp K H v d := by
  have pl : ∀ w, (if plW w = true then some (dat w) else none) = some d → Den K H w v → Dp K H v d := fun w h dv => by
    by_cases q : plW w = true
    · rw [if_pos q] at h
      cases h
      exact Den.dp w q dv
    · rw [if_neg q] at h
      cases h
  cases w with
  | m a =>
    have dv : v = .ref a := dv
    subst dv
    have h : (match mu a with | some (.lst ws) => if plsW ws = true then some (PyData.list (dats ws)) else none | _ => none) = some d := h
    cases e : mu a with
    | none => rw [e] at h; cases h
    | some c =>
      rw [e] at h
      cases c with
      | lst ws =>
        have h : (if plsW ws = true then some (PyData.list (dats ws)) else none) = some d := h
        by_cases q : plsW ws = true
        · rw [if_pos q] at h
          cases h
          obtain ⟨xs, hx, dx⟩ := m a _ e
          exact .lst (SqL.of hx) (DenAll.dp ws q dx)
        · rw [if_neg q] at h; cases h
      | dic _ => cases h
      | ins _ _ => cases h
  | non => exact pl .non h dv
  | bl b => exact pl (.bl b) h dv
  | int b => exact pl (.int b) h dv
  | str b => exact pl (.str b) h dv
  | tup b => exact pl (.tup b) h dv
abbrev eqW (w1 w2 : W) (mu : Mu) (P : PW1) : Prop := ∃ d1 d2, asD mu w1 = some d1 ∧ asD mu w2 = some d2 ∧ SeqAt.shaped d1 = true ∧ SeqAt.shaped d2 = true ∧ P (.bl (PyData.eqv d1 d2)) mu
abbrev neW (w1 w2 : W) (mu : Mu) (P : PW1) : Prop := ∃ d1 d2, asD mu w1 = some d1 ∧ asD mu w2 = some d2 ∧ SeqAt.shaped d1 = true ∧ SeqAt.shaped d2 = true ∧ P (.bl (!PyData.eqv d1 d2)) mu
theorem eq_w : OpW X (rEqD X.K) eqW := fun w1 w2 x y mu H P Q dx dy m ⟨d1, d2, h1, h2, s1, s2, h⟩ k => ⟨d1, d2, asD_ok m dx h1, asD_ok m dy h2, s1, s2, k.now h rfl m⟩
theorem ne_w : OpW X (rNeD X.K) neW := fun w1 w2 x y mu H P Q dx dy m ⟨d1, d2, h1, h2, s1, s2, h⟩ k => ⟨d1, d2, asD_ok m dx h1, asD_ok m dy h2, s1, s2, k.now h rfl m⟩
/-! in -/
def rInT (K : PySem.W.Frag) (ng : Bool) : R2 := fun x y H Q => ∃ d ds, Dp K H x d ∧ (Dp K H y (.tuple ds) ∨ Dp K H y (.list ds)) ∧ SeqAt.shaped d = true ∧ PyData.canLayAll0 ds = true ∧ Q (.bl (ng != ds.any fun z => PyData.eqv z d)) H
theorem roomy {d : PyData} {n k : Nat} (h : SeqAt.shaped d = true) (hu : n + 65 < cLine) : n + 1 + min k d.depth < cLine := by
  unfold SeqAt.shaped at h
  rw [Bool.and_eq_true, decide_eq_true_eq] at h
  have := h.2
  omega
theorem op_inT (hu : X.A.units + 65 < cLine) : OpR X (compareOp .In) (rInT X.K false) := by
  intro pins s σ H x y v u Q I rx ry ⟨d, ds, hd, he, sd, se, q⟩
  obtain ⟨as, r1⟩ := Dp.reads I d x v hd rx
  have hl : d.canLay0 = true := by unfold SeqAt.shaped at sd; rw [Bool.and_eq_true] at sd; exact sd.1
  rcases he with he | he
  · obtain ⟨bs, r2⟩ := Dp.reads I _ y u he ry
    exact SeqAt.in_tuple_reads r2 r1 se hl (roomy sd hu) ⟨.bl _, H, I, by show Value.bool _ = Value.bool _; simp, q⟩
  · obtain ⟨bs, r2⟩ := Dp.reads I _ y u he ry
    exact SeqAt.in_list_reads r2 r1 se hl (roomy sd hu) ⟨.bl _, H, I, by show Value.bool _ = Value.bool _; simp, q⟩
theorem op_notInT (hu : X.A.units + 65 < cLine) : OpR X (compareOp .NotIn) (rInT X.K true) := by
  intro pins s σ H x y v u Q I rx ry ⟨d, ds, hd, he, sd, se, q⟩
  obtain ⟨as, r1⟩ := Dp.reads I d x v hd rx
  have hl : d.canLay0 = true := by unfold SeqAt.shaped at sd; rw [Bool.and_eq_true] at sd; exact sd.1
  rcases he with he | he
  · obtain ⟨bs, r2⟩ := Dp.reads I _ y u he ry
    exact SeqAt.notIn_tuple_reads r2 r1 se hl (roomy sd hu) ⟨.bl _, H, I, by show Value.bool _ = Value.bool _; simp, q⟩
  · obtain ⟨bs, r2⟩ := Dp.reads I _ y u he ry
    exact SeqAt.notIn_list_reads r2 r1 se hl (roomy sd hu) ⟨.bl _, H, I, by show Value.bool _ = Value.bool _; simp, q⟩
/-- the items of plW data that is walked or looked through -/
def itD (mu : Mu) : W → Option (List PyData)
  | .tup ws => if plsW ws then some (dats ws) else none
  | .m a => match mu a with
    | some (.lst ws) => if plsW ws then some (dats ws) else none
    | _ => none
  | _ => none
theorem itD_ok {K : PySem.W.Frag} {H : Hp} {w : W} {v : V} {ds : List PyData} (m : HM K H mu) (dv : Den K H w v) (h : itD mu w = some ds) : Dp K H v (.tuple ds) ∨ Dp K H v (.list ds) := by
  cases w with
  | tup ws =>
    have h : (if plsW ws = true then some (dats ws) else none) = some ds := h
    by_cases q : plsW ws = true
    · rw [if_pos q] at h
      cases h
      have := Den.dp (.tup ws) (by unfold plW; exact q) dv
      unfold dat at this
      exact .inl this
    · rw [if_neg q] at h; cases h
  | m a =>
    have dv : v = .ref a := dv
    subst dv
    have h : (match mu a with | some (.lst ws) => if plsW ws = true then some (dats ws) else none | _ => none) = some ds := h
    cases e : mu a with
    | none => rw [e] at h; cases h
    | some c =>
      rw [e] at h
      cases c with
      | lst ws =>
        have h : (if plsW ws = true then some (dats ws) else none) = some ds := h
        by_cases q : plsW ws = true
        · rw [if_pos q] at h
          cases h
          obtain ⟨xs, hx, dx⟩ := m a _ e
          exact .inr (.lst (SqL.of hx) (DenAll.dp ws q dx))
        · rw [if_neg q] at h; cases h
      | dic _ => cases h
      | ins _ _ => cases h
  | _ => cases h
abbrev inW (ng : Bool) (w1 w2 : W) (mu : Mu) (P : PW1) : Prop := plW w1 = true ∧ SeqAt.shaped (dat w1) = true ∧ ∃ ds, itD mu w2 = some ds ∧ PyData.canLayAll0 ds = true ∧ P (.bl (ng != ds.any fun z => PyData.eqv z (dat w1))) mu
theorem in_w (ng : Bool) : OpW X (rInT X.K ng) (inW ng) := fun w1 w2 x y mu H P Q dx dy m ⟨h1, s1, ds, h2, s2, h⟩ k => ⟨_, ds, Den.dp w1 h1 dx, itD_ok m dy h2, s1, s2, k.now h rfl m⟩
/-! in, of texts: one sign -/
abbrev inSW (w1 w2 : W) (mu : Mu) (P : PW1) : Prop := match w1, w2 with | .str i, .str j => P (.bl (!(Builtin.Str.occurrences j i 0 j.length 1).isEmpty)) mu | _, _ => False
theorem inS_w : OpW X (fun x y H Q => ∃ i j, x = .str i ∧ y = .str j ∧ Q (.bl (!(Builtin.Str.occurrences j i 0 j.length 1).isEmpty)) H) inSW := fun w1 w2 x y mu H P Q dx dy m h k => by
  unfold inSW at h
  split at h
  · rename_i i j
    exact ⟨i, j, dx, dy, k.now h rfl m⟩
  · exact h.elim
/-! <, of alike data -/
def rLtD (K : PySem.W.Frag) : R2 := fun x y H Q => ∃ d e, Dp K H x d ∧ Dp K H y e ∧ PySem.W.alike d e = true ∧ d ≠ .none ∧ d.depth ≤ 64 ∧ Q (.bl (PySem.W.dataLt d e)) H
theorem op_ltD (hu : X.A.units + 65 < cLine) : OpR X (compareOp .Lt) (rLtD X.K) := by
  intro pins s σ H x y v u Q I rx ry ⟨d, e, hd, he, al, nn, dp, q⟩
  obtain ⟨as, r1⟩ := Dp.reads I d x v hd rx
  obtain ⟨bs, r2⟩ := Dp.reads I e y u he ry
  exact PySem.W.rcLt_alike d e X.A s v u as bs r1 r2 al nn (by omega) X.prog X.w X.xe _ ⟨.bl _, H, I, rfl, q⟩
abbrev ltW (w1 w2 : W) (mu : Mu) (P : PW1) : Prop := plW w1 = true ∧ plW w2 = true ∧ PySem.W.alike (dat w1) (dat w2) = true ∧ dat w1 ≠ .none ∧ (dat w1).depth ≤ 64 ∧ P (.bl (PySem.W.dataLt (dat w1) (dat w2))) mu
theorem lt_w : OpW X (rLtD X.K) ltW := fun w1 w2 x y mu H P Q dx dy m ⟨h1, h2, al, nn, dp, h⟩ k => ⟨_, _, Den.dp w1 h1 dx, Den.dp w2 h2 dy, al, nn, dp, k.now h rfl m⟩
/-! ints -/
abbrev cmpI (g : Int → Int → Bool) (w1 w2 : W) (mu : Mu) (P : PW1) : Prop := match w1, w2 with | .int i, .int j => P (.bl (g i j)) mu | _, _ => False
theorem cmpI_w {g : Int → Int → Bool} : OpW X (rI0 fun i j => V.bl (g i j)) (cmpI g) := fun w1 w2 x y mu H P Q dx dy m h k => by
  unfold cmpI at h
  split at h
  · rename_i i j
    exact ⟨i, j, dx, dy, k.now h rfl m⟩
  · exact h.elim
end
end Dv
set_option Elab.async false
set_option linter.all false
set_option maxRecDepth 100000
/-! Subscripts, slices, zip, enumerate, fields, methods of lists, while, stores. -/
namespace Dv
open PySem L2
section
variable {X : Cx} {e a b c : Expr} {es : List Expr} {st : Stmt} {sts : List Stmt} {G : Gs} {mu mu' : Mu} {pos p : Pos} {P : PW1}
/-! x[i] -/
abbrev ixW (w1 w2 : W) (mu : Mu) (P : PW1) : Prop := match w1, w2 with
  | .tup ws, .int i => ∃ w, atI ws i = some w ∧ P w mu
  | .m a, .int i => ∃ ws w, mu a = some (.lst ws) ∧ atI ws i = some w ∧ P w mu
  | .str z, .int i => ∃ c, z.length ≤ sizeLine ∧ atI z.cps.toList i = some c ∧ P (.str ⟨#[c]⟩) mu
  | _, _ => False
theorem atI_den {K : PySem.W.Frag} {H : Hp} {ws : List W} {xs : List V} {i : Int} {w : W} (d : DenAll K H ws xs) (h : atI ws i = some w) : ∃ v, atI xs i = some v ∧ Den K H w v := by
  unfold atI at h ⊢
  rw [d.length] at h
  cases e : ixN xs.length i with
  | none => rw [e] at h; cases h
  | some j =>
    rw [e] at h
    have h : ws[j]? = some w := h
    obtain ⟨v, h1, h2⟩ := d.get' h
    exact ⟨v, h1, h2⟩
theorem se_ix (h : SE X a G mu fun w1 mu1 => SE X b G mu1 fun w2 mu2 => ixW w1 w2 mu2 P) (hs : PlainIx b := by exact fun _ _ => rfl) : SE X (.Subscript a b pos) G mu P :=
  SE.mk (pe_ix ix_seq peE peE hs) fun σ H Q d m k => h σ H _ d m fun x w1 mu1 H1 h1 c1 d1 m1 => h1 σ H1 _ (c1.denG m d) m1 fun y w2 mu2 H2 h2 c2 d2 m2 => by
    have d1 := c2.den m1 d1
    have k := k.step (c1.trans c2)
    cases w1 with
    | tup ws =>
      cases w2 with
      | int i =>
        obtain ⟨w, e, q⟩ := h2
        obtain ⟨aa, xs, rfl, s, dx⟩ := d1
        obtain ⟨v, e2, dv⟩ := atI_den dx e
        exact .inr (.inl ⟨aa, xs, i, v, rfl, d2, s, e2, k.now q dv m2⟩)
      | _ => exact False.elim h2
    | m aa =>
      cases w2 with
      | int i =>
        obtain ⟨ws, w, e0, e, q⟩ := h2
        have d1 : x = .ref aa := d1
        subst d1
        obtain ⟨xs, hx, dx⟩ := m2 aa _ e0
        obtain ⟨v, e2, dv⟩ := atI_den dx e
        exact .inl ⟨aa, xs, i, v, rfl, d2, SqL.of hx, e2, k.now q dv m2⟩
      | _ => exact False.elim h2
    | str z =>
      cases w2 with
      | int i =>
        obtain ⟨cc, hz, e, q⟩ := h2
        exact .inr (.inr ⟨z, i, cc, d1, d2, hz, e, k.now q rfl m2⟩)
      | _ => exact False.elim h2
    | _ => cases w2 <;> exact False.elim h2
/-! x[lo:hi] -/
def cutW (xs : List W) (lo hi : Option Int) : List W := (xs.drop (HT.sIx xs.length 0 lo)).take (HT.sIx xs.length xs.length hi - HT.sIx xs.length 0 lo)
theorem cut_den {K : PySem.W.Frag} {H : Hp} {ws : List W} {xs : List V} (lo hi : Option Int) (d : DenAll K H ws xs) : DenAll K H (cutW ws lo hi) (cutV xs lo hi) := by
  unfold cutW cutV
  rw [d.length]
  exact (d.drop _).take _
abbrev slW (w : W) (lo hi : Option Int) (mu : Mu) (P : PW1) : Prop := match w with
  | .tup ws => P (.tup (cutW ws lo hi)) mu
  | .m a => ∃ ws, mu a = some (.lst ws) ∧ ∀ p, mu p = none → P (.m p) (setM mu p (.lst (cutW ws lo hi)))
  | .str z => z.length ≤ sizeLine ∧ P (.str (cutS z lo hi)) mu
  | _ => False
theorem cut_whole {xs : List V} {lo hi : Option Int} (h : HT.sIx xs.length 0 lo = 0 ∧ HT.sIx xs.length xs.length hi = xs.length) : cutV xs lo hi = xs := by
  unfold cutV
  rw [h.1, h.2]
  simp
theorem sl_rd {w : W} {x : V} {lo hi : Option Int} {mu : Mu} {H : Hp} {Q : VK} (d : Den X.K H w x) (m : HM X.K H mu) (h : slW w lo hi mu P) (k : Kont X.K mu H P Q) : rSlL X.K x lo hi H Q ∨ rSlA X.K x lo hi H Q ∨ rSlS x lo hi H Q := by
  unfold slW at h
  split at h
  · rename_i ws
    obtain ⟨aa, xs, rfl, s, dx⟩ := d
    have dc := cut_den lo hi dx
    refine .inr (.inl ⟨aa, xs, rfl, s, fun q => ?_, fun q p hp => ?_⟩)
    · rw [cut_whole q] at dc
      exact k.now h ⟨aa, xs, rfl, s, dc⟩ m
    · obtain ⟨c2, m2⟩ := laid (o := .tup (cutV xs lo hi)) m hp
      exact k _ _ mu _ h c2 ⟨p, _, rfl, SqT.of upd_same, c2.denAll m dc⟩ m2
  · rename_i aa
    obtain ⟨ws, e, h⟩ := h
    have d : x = .ref aa := d
    subst d
    obtain ⟨xs, hx, dx⟩ := m aa _ e
    refine .inl ⟨aa, xs, rfl, SqL.of hx, fun p hp => ?_⟩
    obtain ⟨c2, m2⟩ := laidC (o := .lst (cutV xs lo hi)) (c := .lst (cutW ws lo hi)) m hp (newLst (cut_den lo hi dx))
    exact k _ _ _ _ (h p (m.dom hp)) c2 rfl m2
  · rename_i z
    exact .inr (.inr ⟨z, d, h.1, k.now h.2 rfl m⟩)
  · exact h.elim
theorem sl_all : SlR X fun x l u H Q => rSlL X.K x l u H Q ∨ rSlA X.K x l u H Q ∨ rSlS x l u H Q := SlR.or sl_list (SlR.or sl_tupA sl_str)
abbrev isI (w : W) (P : Int → Prop) : Prop := match w with | .int i => P i | _ => False
theorem isI_den {K : PySem.W.Frag} {H : Hp} {w : W} {v : V} {P : Int → Prop} (h : isI w P) (d : Den K H w v) : ∃ i, v = .int i ∧ P i := by
  cases w with
  | int i => exact ⟨i, d, h⟩
  | _ => exact h.elim
theorem se_slFrom {p2 : Pos} (h : SE X a G mu fun w1 mu1 => SE X b G mu1 fun w2 mu2 => isI w2 fun i => slW w1 (some i) none mu2 P) : SE X (.Subscript a (.Slice (some b) none none p2) pos) G mu P :=
  SE.mk (pe_slice sl_all peE (po_some peE) po_none) fun σ H Q d m k => h σ H _ d m fun x w1 mu1 H1 h1 c1 d1 m1 => h1 σ H1 _ (c1.denG m d) m1 fun y w2 mu2 H2 h2 c2 d2 m2 => by
    obtain ⟨i, e, q⟩ := isI_den h2 d2
    exact ⟨i, e, sl_rd (c2.den m1 d1) m2 q (k.step (c1.trans c2))⟩
theorem se_slTo {p2 : Pos} (h : SE X a G mu fun w1 mu1 => SE X b G mu1 fun w2 mu2 => isI w2 fun i => slW w1 none (some i) mu2 P) : SE X (.Subscript a (.Slice none (some b) none p2) pos) G mu P :=
  SE.mk (pe_slice sl_all peE po_none (po_some peE)) fun σ H Q d m k => h σ H _ d m fun x w1 mu1 H1 h1 c1 d1 m1 => h1 σ H1 _ (c1.denG m d) m1 fun y w2 mu2 H2 h2 c2 d2 m2 => by
    obtain ⟨i, e, q⟩ := isI_den h2 d2
    exact ⟨i, e, sl_rd (c2.den m1 d1) m2 q (k.step (c1.trans c2))⟩
theorem se_slMid {p2 : Pos} (h : SE X a G mu fun w1 mu1 => SE X b G mu1 fun w2 mu2 => isI w2 fun i => SE X c G mu2 fun w3 mu3 => isI w3 fun j => slW w1 (some i) (some j) mu3 P) : SE X (.Subscript a (.Slice (some b) (some c) none p2) pos) G mu P :=
  SE.mk (pe_slice sl_all peE (po_some peE) (po_some peE)) fun σ H Q d m k => h σ H _ d m fun x w1 mu1 H1 h1 c1 d1 m1 => h1 σ H1 _ (c1.denG m d) m1 fun y w2 mu2 H2 h2 c2 d2 m2 => by
    obtain ⟨i, e, q⟩ := isI_den h2 d2
    refine ⟨i, e, (show SE X c G mu2 _ from q) σ H2 _ ((c1.trans c2).denG m d) m2 fun z w3 mu3 H3 h3 c3 d3 m3 => ?_⟩
    obtain ⟨j, e3, q3⟩ := isI_den h3 d3
    exact ⟨j, e3, sl_rd (c3.den m2 (c2.den m1 d1)) m3 q3 (k.step ((c1.trans c2).trans c3))⟩
/-! zip -/
theorem zip_itw {K : PySem.W.Frag} {J : It} {ws us : List W} {xs ys : List V} {mu : Mu} {H : Hp} {Gh : Hp → Prop} {Gm : Mu → Prop} (m : HM K H mu) (dx : DenAll K H ws xs) (dy : DenAll K H us ys)
    (wk : Walk J (min xs.length ys.length) Gh (YPair (fun i => xs[i]?) fun i => ys[i]?)) (hg : ∀ mu' H', Chg mu H mu' H' → HM K H' mu' → Gm mu' → Gh H') : ItW K J ((ws.zip us).map fun q => W.tup [q.1, q.2]) Gm mu H := by
  refine ⟨Gh, _, by rw [List.length_map, List.length_zip, dx.length, dy.length]; exact wk, hg, fun i H1 x H2 mu' hi c m' _ y => ?_⟩
  obtain ⟨T, x1, y1, rfl, hT, rfl, e1, e2⟩ := y
  obtain ⟨w1, f1, g1⟩ := dx.get e1
  obtain ⟨w2, f2, g2⟩ := dy.get e2
  obtain ⟨c2, m2⟩ := laid (o := .tup [x1, y1]) m' hT
  refine ⟨.tup [w1, w2], ?_, c2, m2, T, _, rfl, SqT.of upd_same, x1, [y1], rfl, c2.den m' (c.den m g1), y1, [], rfl, c2.den m' (c.den m g2), rfl⟩
  rw [List.getElem?_map]
  have : (ws.zip us)[i]? = some (w1, w2) := by rw [List.getElem?_zip_eq_some]; exact ⟨f1, f2⟩
  rw [this]
  rfl
theorem walk_zipT {K : PySem.W.Frag} {a b : Addr} {xs ys : List V} {n : Nat} (hn : n = min xs.length ys.length) : Walk (RZ.ItzT K a b) n (fun H => SqT K H a xs ∧ SqT K H b ys) (YPair (fun i => xs[i]?) fun i => ys[i]?) := by
  subst hn
  refine ⟨fun i H hi q => ?_, fun H q => ⟨xs, ys, q.1, q.2, by omega⟩, fun i H v H' hi q y => ?_⟩
  · have h1 : i < xs.length := by omega
    have h2 : i < ys.length := by omega
    exact ⟨xs, ys, xs[i], ys[i], q.1, q.2, by simp [h1], by simp [h2]⟩
  · obtain ⟨T, x, y, h1, h2, h3, h4, h5⟩ := y
    exact ⟨T, x, y, h1, h2, h3, h4 _ q.1, h5 _ q.2⟩
theorem zipL_itw {K : PySem.W.Frag} {a b : Addr} {ws us : List W} {mu : Mu} {H : Hp} (m : HM K H mu) : ItW K (Itz K a b) ((ws.zip us).map fun q => W.tup [q.1, q.2]) (fun mu' => mu' a = some (.lst ws) ∧ mu' b = some (.lst us)) mu H := by
  refine ⟨fun H' => ∃ xs ys, SqL K H' a xs ∧ SqL K H' b ys ∧ DenAll K H' ws xs ∧ DenAll K H' us ys,
    fun i H1 v H2 => ∃ T x y w1 w2, v = .ref T ∧ H1 T = none ∧ H2 = upd H1 T (.tup [x, y]) ∧ ws[i]? = some w1 ∧ us[i]? = some w2 ∧ Den K H1 w1 x ∧ Den K H1 w2 y, ⟨fun i H' hi q => ?_, fun H' q => ?_, fun i H' x H'' hi q y => ?_⟩, fun mu' H' c m' g => ?_, fun i H1 v H2 mu' hi c m' g y => ?_⟩
  · obtain ⟨xs, ys, s1, s2, d1, d2⟩ := q
    rw [List.length_map, List.length_zip, d1.length, d2.length] at hi
    have h1 : i < xs.length := by omega
    have h2 : i < ys.length := by omega
    exact ⟨xs, ys, xs[i], ys[i], s1, s2, by simp [h1], by simp [h2]⟩
  · obtain ⟨xs, ys, s1, s2, d1, d2⟩ := q
    refine ⟨xs, ys, s1, s2, ?_⟩
    rw [List.length_map, List.length_zip, d1.length, d2.length]
    omega
  · obtain ⟨xs, ys, s1, s2, d1, d2⟩ := q
    obtain ⟨T, x1, y1, h1, h2, h3, h4, h5⟩ := y
    obtain ⟨w1, f1, g1⟩ := d1.get (h4 xs s1)
    obtain ⟨w2, f2, g2⟩ := d2.get (h5 ys s2)
    exact ⟨T, x1, y1, w1, w2, h1, h2, h3, f1, f2, g1, g2⟩
  · obtain ⟨xs, h1, d1⟩ := m' a _ g.1
    obtain ⟨ys, h2, d2⟩ := m' b _ g.2
    exact ⟨xs, ys, SqL.of h1, SqL.of h2, d1, d2⟩
  · obtain ⟨T, x1, y1, w1, w2, rfl, hT, rfl, f1, f2, g1, g2⟩ := y
    obtain ⟨c2, m2⟩ := laid (o := .tup [x1, y1]) m' hT
    refine ⟨.tup [w1, w2], ?_, c2, m2, T, _, rfl, SqT.of upd_same, x1, [y1], rfl, c2.den m' g1, y1, [], rfl, c2.den m' g2, rfl⟩
    rw [List.getElem?_map]
    have : (ws.zip us)[i]? = some (w1, w2) := by rw [List.getElem?_zip_eq_some]; exact ⟨f1, f2⟩
    rw [this]
    rfl
abbrev zipW (w1 w2 : W) (mu : Mu) (Post : List W → (Mu → Prop) → Mu → Prop) : Prop := match w1, w2 with
  | .tup ws, .tup us => Post ((ws.zip us).map fun q => W.tup [q.1, q.2]) (fun _ => True) mu
  | .m a, .m b => ∃ ws us, mu a = some (.lst ws) ∧ mu b = some (.lst us) ∧ Post ((ws.zip us).map fun q => W.tup [q.1, q.2]) (fun mu' => mu' a = some (.lst ws) ∧ mu' b = some (.lst us)) mu
  | _, _ => False
theorem si_zip {elts : List Expr} {kk : Nat} {tpos : Pos} {Post : List W → (Mu → Prop) → Mu → Prop} (h : SE X a G mu fun w1 mu1 => SE X b G mu1 fun w2 mu2 => zipW w1 w2 mu2 Post) (hm : X.mg "zip" = none) (hg : Gl X "zip" := by rfl)
    (hs : starEach [a, b] X.env = (false, eval a X.env) :: starEach [b] X.env := by rfl) (hs2 : starEach [b] X.env = [(false, eval b X.env)] := by rfl) (hpl : (backTo pos (starEach [b] X.env)).any (·.1) = false := by rfl) :
    SI X (.Tuple elts kk tpos) (.Call (.Name "zip" p) [a, b] [] pos) G mu Post :=
  SI.mk (RZ.pi_zipA hg hm (pa_cons peE (pa_cons peE pa_nil hs2) hs) hs hpl) fun σ H R d m k => h σ H _ d m fun x w1 mu1 H1 h1 c1 d1 m1 => h1 σ H1 _ (c1.denG m d) m1 fun y w2 mu2 H2 h2 c2 d2 m2 => by
    have d1 := c2.den m1 d1
    have c12 := c1.trans c2
    cases w1 with
    | tup ws =>
      cases w2 with
      | tup us =>
        obtain ⟨a1, xs, rfl, s1, dx⟩ := d1
        obtain ⟨a2, ys, rfl, s2, dy⟩ := d2
        exact ⟨a1, a2, xs, ys, rfl, .inr ⟨s1, s2, k _ _ _ _ _ h2 c12 m2 (zip_itw m2 dx dy (walk_zipT rfl) fun mu' H' c m' _ => ⟨c.sqt m2 _ _ s1, c.sqt m2 _ _ s2⟩)⟩⟩
      | _ => exact False.elim h2
    | m a1 =>
      cases w2 with
      | m a2 =>
        obtain ⟨ws, us, e1, e2, h3⟩ := h2
        have d1 : x = .ref a1 := d1
        have d2 : y = .ref a2 := d2
        subst d1 d2
        obtain ⟨xs, hx, dx⟩ := m2 a1 _ e1
        obtain ⟨ys, hy, dy⟩ := m2 a2 _ e2
        exact ⟨a1, a2, xs, ys, rfl, .inl ⟨SqL.of hx, SqL.of hy, k _ _ _ _ _ h3 c12 m2 (zipL_itw m2)⟩⟩
      | _ => exact False.elim h2
    | _ => cases w2 <;> exact False.elim h2
end
end Dv
set_option Elab.async false
set_option linter.all false
set_option maxRecDepth 100000
/-! Methods of lists, stores, dicts, fields, while, parallel stores. -/
namespace Dv
open PySem L2
section
variable {X : Cx} {e a b c : Expr} {es : List Expr} {st : Stmt} {sts : List Stmt} {G : Gs} {mu mu' : Mu} {pos p apos cpos : Pos} {P : PW1}
/-! a list's methods with one argument -/
abbrev MtW (X : Cx) (r : V → List V → Hp → VK → Prop) (f : W → List W → Mu → PW1 → Prop) : Prop := ∀ w ws v vs mu H P Q, Den X.K H w v → DenAll X.K H ws vs → HM X.K H mu → f w ws mu P → Kont X.K mu H P Q → r v vs H Q
theorem se_lm {name : Str} {id : String} {r : V → List V → Hp → VK → Prop} {f : W → List W → Mu → PW1 → Prop} (hs : Slot "list" name id) (ht : typeOf (Value.builtin id) = pure (Value.type "method_descriptor")) (hr : MtR X id r) (hw : MtW X r f)
    (h : SE X a G mu fun w mu1 => match w with | .m aa => (∃ ws, mu1 aa = some (.lst ws)) ∧ SA X (e :: es) G mu1 fun ws mu2 => f (.m aa) ws mu2 P | _ => False)
    (hb : attributeBase a name X.env (eval a X.env) = eval a X.env := by rfl) (hq : (((backTo cpos (starEach (e :: es) X.env)).all fun x => !x.1) && (backToKw cpos (keywordEach [] X.env)).all (fun x => x.1.isSome) && decide (((e :: es).length + ([] : List Keyword).length + if ([] : List Keyword).isEmpty = true then 0 else 1) < 30)) = true := by rfl)
    (hl : (apos.endLine == cpos.line) = true := by rfl) (he : starEach (e :: es) X.env = (false, eval e X.env) :: starEach es X.env := by rfl) (hpl : (backTo cpos (starEach es X.env)).any (·.1) = false := by rfl) : SE X (.Call (.Attribute a name apos) (e :: es) [] cpos) G mu P :=
  SE.mk (pe_bm PySem.F.plainAttrs_list hs ht hr peE paA hb hq hl he hpl) fun σ H Q d m k => h σ H _ d m fun v w mu1 H1 h1 c1 d1 m1 => by
    cases w with
    | m aa =>
      obtain ⟨⟨ws, e0⟩, h2⟩ := h1
      have d1 : v = .ref aa := d1
      subst d1
      obtain ⟨xs, hx, dx⟩ := m1 aa _ e0
      exact ⟨.inl ⟨rfl, xs, SqL.of hx⟩, h2 σ H1 _ (c1.denG m d) m1 fun vs ws' mu2 H2 h3 c2 d2 m2 => hw (.m aa) _ _ _ _ _ _ _ rfl d2 m2 h3 (k.step (c1.trans c2))⟩
    | _ => exact False.elim h1
abbrev appW (w : W) (ws : List W) (mu : Mu) (P : PW1) : Prop := match w, ws with | .m a, [y] => ∃ us, mu a = some (.lst us) ∧ us.length < sizeLine ∧ P .non (setM mu a (.lst (us ++ [y]))) | _, _ => False
theorem app_w : MtW X rAppend appW := fun w ws v vs mu H P Q dv dvs m h k => by
  unfold appW at h
  split at h
  · rename_i aa y
    obtain ⟨us, e, hl, q⟩ := h
    obtain ⟨y', rfl, dy⟩ := dvs.one
    have dv : v = .ref aa := dv
    subst dv
    obtain ⟨xs, hx, dx⟩ := m aa _ e
    obtain ⟨c2, m2⟩ := wrote (o := .lst (xs ++ [y'])) (c := .lst (us ++ [y])) m e (newLst (DenAll.append dx ⟨y', [], rfl, dy, rfl⟩))
    exact ⟨aa, xs, y', rfl, rfl, hx, by rw [← dx.length]; exact hl, k _ _ _ _ q c2 rfl m2⟩
  · exact h.elim
theorem se_append (h : SE X a G mu fun w mu1 => match w with | .m aa => (∃ ws, mu1 aa = some (.lst ws)) ∧ SA X [e] G mu1 fun ws mu2 => appW (.m aa) ws mu2 P | _ => False)
    (hb : attributeBase a "append" X.env (eval a X.env) = eval a X.env := by rfl) (hq : (((backTo cpos (starEach [e] X.env)).all fun x => !x.1) && (backToKw cpos (keywordEach [] X.env)).all (fun x => x.1.isSome) && decide (([e].length + ([] : List Keyword).length + if ([] : List Keyword).isEmpty = true then 0 else 1) < 30)) = true := by rfl)
    (hl : (apos.endLine == cpos.line) = true := by rfl) (he : starEach [e] X.env = (false, eval e X.env) :: starEach [] X.env := by rfl) (hpl : (backTo cpos (starEach [] X.env)).any (·.1) = false := by rfl) : SE X (.Call (.Attribute a "append" apos) [e] [] cpos) G mu P :=
  se_lm PySem.F.slot_list_append PySem.F.type_list_append mt_append app_w h hb hq hl he hpl
abbrev extW (w : W) (ws : List W) (mu : Mu) (P : PW1) : Prop := match w, ws with | .m a, [.m b] => ∃ us zs, mu a = some (.lst us) ∧ mu b = some (.lst zs) ∧ us.length + zs.length ≤ sizeLine ∧ P .non (setM mu a (.lst (us ++ zs))) | _, _ => False
theorem ext_w : MtW X rExtend extW := fun w ws v vs mu H P Q dv dvs m h k => by
  unfold extW at h
  split at h
  · rename_i aa bb
    obtain ⟨us, zs, e, e2, hl, q⟩ := h
    obtain ⟨y', rfl, dy⟩ := dvs.one
    have dv : v = .ref aa := dv
    have dy : y' = .ref bb := dy
    subst dv dy
    obtain ⟨xs, hx, dx⟩ := m aa _ e
    obtain ⟨ys, hy, dy⟩ := m bb _ e2
    obtain ⟨c2, m2⟩ := wrote (o := .lst (xs ++ ys)) (c := .lst (us ++ zs)) m e (newLst (DenAll.append dx dy))
    exact ⟨aa, bb, xs, ys, rfl, rfl, hx, hy, by rw [← dx.length, ← dy.length]; exact hl, k _ _ _ _ q c2 rfl m2⟩
  · exact h.elim
theorem se_extend (h : SE X a G mu fun w mu1 => match w with | .m aa => (∃ ws, mu1 aa = some (.lst ws)) ∧ SA X [e] G mu1 fun ws mu2 => extW (.m aa) ws mu2 P | _ => False)
    (hb : attributeBase a "extend" X.env (eval a X.env) = eval a X.env := by rfl) (hq : (((backTo cpos (starEach [e] X.env)).all fun x => !x.1) && (backToKw cpos (keywordEach [] X.env)).all (fun x => x.1.isSome) && decide (([e].length + ([] : List Keyword).length + if ([] : List Keyword).isEmpty = true then 0 else 1) < 30)) = true := by rfl)
    (hl : (apos.endLine == cpos.line) = true := by rfl) (he : starEach [e] X.env = (false, eval e X.env) :: starEach [] X.env := by rfl) (hpl : (backTo cpos (starEach [] X.env)).any (·.1) = false := by rfl) : SE X (.Call (.Attribute a "extend" apos) [e] [] cpos) G mu P :=
  se_lm PySem.F.slot_list_extend PySem.F.type_list_extend mt_extend ext_w h hb hq hl he hpl
abbrev popW (w : W) (ws : List W) (mu : Mu) (P : PW1) : Prop := match w, ws with | .m a, [.int i] => ∃ us k y, mu a = some (.lst us) ∧ -(2 ^ 63) ≤ i ∧ i < 2 ^ 63 ∧ seqIndex? i us.length = some k ∧ us[k]? = some y ∧ P y (setM mu a (.lst (us.eraseIdx k))) | _, _ => False
theorem DenAll.erase {K : PySem.W.Frag} {H : Hp} : ∀ {ws : List W} {vs : List V} (i : Nat), DenAll K H ws vs → DenAll K H (ws.eraseIdx i) (vs.eraseIdx i)
  | [], _, i, d => by have d : _ = _ := d; subst d; simp [DenAll]
  | w :: ws, _, 0, ⟨v, r, e, d1, d2⟩ => by subst e; exact d2
  | w :: ws, _, i + 1, ⟨v, r, e, d1, d2⟩ => by subst e; exact ⟨v, _, rfl, d1, DenAll.erase i d2⟩
theorem pop_w : MtW X rPopAt popW := fun w ws v vs mu H P Q dv dvs m h k => by
  unfold popW at h
  split at h
  · rename_i aa i
    obtain ⟨us, kk, y, e, l1, l2, hk, hy, q⟩ := h
    obtain ⟨y', rfl, dy⟩ := dvs.one
    have dv : v = .ref aa := dv
    have dy : y' = .int i := dy
    subst dv dy
    obtain ⟨xs, hx, dx⟩ := m aa _ e
    obtain ⟨v, hv, dv⟩ := dx.get' hy
    obtain ⟨c2, m2⟩ := wrote (o := .lst (xs.eraseIdx kk)) (c := .lst (us.eraseIdx kk)) m e (newLst (dx.erase kk))
    exact ⟨aa, xs, i, kk, v, rfl, rfl, hx, l1, l2, by rw [← dx.length]; exact hk, hv, k _ _ _ _ q c2 (c2.den m dv) m2⟩
  · exact h.elim
theorem se_pop (h : SE X a G mu fun w mu1 => match w with | .m aa => (∃ ws, mu1 aa = some (.lst ws)) ∧ SA X [e] G mu1 fun ws mu2 => popW (.m aa) ws mu2 P | _ => False)
    (hb : attributeBase a "pop" X.env (eval a X.env) = eval a X.env := by rfl) (hq : (((backTo cpos (starEach [e] X.env)).all fun x => !x.1) && (backToKw cpos (keywordEach [] X.env)).all (fun x => x.1.isSome) && decide (([e].length + ([] : List Keyword).length + if ([] : List Keyword).isEmpty = true then 0 else 1) < 30)) = true := by rfl)
    (hl : (apos.endLine == cpos.line) = true := by rfl) (he : starEach [e] X.env = (false, eval e X.env) :: starEach [] X.env := by rfl) (hpl : (backTo cpos (starEach [] X.env)).any (·.1) = false := by rfl) : SE X (.Call (.Attribute a "pop" apos) [e] [] cpos) G mu P :=
  se_lm PySem.F.slot_list_pop PySem.F.type_list_pop mt_popAt pop_w h hb hq hl he hpl
/-! xs[i] = e -/
abbrev stW (o i w : W) (G : Gs) (mu : Mu) (N : Gs → Mu → Prop) : Prop := match o, i with | .m a, .int k => ∃ us j, mu a = some (.lst us) ∧ ixN us.length k = some j ∧ N G (setM mu a (.lst (us.set j w))) | _, _ => False
theorem ss_stL {E : WE} {tpos : Pos} (h : SE X e G mu fun w mu1 => SE X a G mu1 fun o mu2 => SE X b G mu2 fun i mu3 => stW o i w G mu3 E.nx)
    (ha0 : ∀ v, assign (.Subscript a b tpos) X.env v = (do
      let ov ← holding [v] (eval a X.env)
      let iv ← holding [v, ov] (eval b X.env)
      standAt tpos
      holding [v, ov, iv] (setItem ov iv v)
      release [v, ov, iv] []) := by intro _; rfl)
    (hs : swapsWithSole [.Subscript a b tpos] e pos.line X.env = pure false := by rfl) (hw : swappedStores [.Subscript a b tpos] e X.env = pure none := by rfl)
    (ha : (assignEach [.Subscript a b tpos] X.env).map (·.2) = [assign (.Subscript a b tpos) X.env] := by rfl) : SS X (.Assign [.Subscript a b tpos] e pos) G mu E :=
  SS.mk (ps_asg peE (pg_sub peE peE set_list ha0) hs hw ha) fun σ H D d m k => h σ H _ d m fun v w mu1 H1 h1 c1 d1 m1 => h1 σ H1 _ (c1.denG m d) m1 fun ov o mu2 H2 h2 c2 d2 m2 => h2 σ H2 _ ((c1.trans c2).denG m d) m2 fun iv i mu3 H3 h3 c3 d3 m3 => by
    have d2 := c3.den m2 d2
    have d1 := c3.den m2 (c2.den m1 d1)
    have cc := (c1.trans c2).trans c3
    cases o with
    | m aa =>
      cases i with
      | int kk =>
        obtain ⟨us, j, e0, hj, q⟩ := h3
        have d2 : ov = .ref aa := d2
        subst d2
        obtain ⟨xs, hx, dx⟩ := m3 aa _ e0
        obtain ⟨c4, m4⟩ := wrote (o := .lst (xs.set j v)) (c := .lst (us.set j w)) m3 e0 (newLst (dx.set j d1))
        exact ⟨aa, xs, kk, j, rfl, d3, hx, by rw [← dx.length]; exact hj, k.nx _ _ _ _ q (cc.trans c4) (c4.denG m3 (cc.denG m d)) m4⟩
      | _ => exact False.elim h3
    | _ => cases i <;> exact False.elim h3
/-! while -/
theorem ss_while {body : List Stmt} {E : WE} (hp : PassesOwn (model X.prog X.w) X.A X.env X.xe) (I : Nat → Gs → Mu → Prop) (h0 : ∃ n, I n G mu)
    (ht : ∀ n G' mu', I n G' mu' → ST X c G' mu' fun kk mu2 => if2 kk (SSs X body G' mu2 { E with nx := fun G3 mu3 => ∃ n', n' < n ∧ I n' G3 mu3, ct := fun G3 mu3 => ∃ n', n' < n ∧ I n' G3 mu3, bk := E.nx }) (E.nx G' mu2)) : SS X (.While c body [] pos) G mu E :=
  SS.mk (ps_while hp ptT pssS) fun σ H D d m k => by
    refine ⟨fun n σ' H' => ∃ G' mu', I n G' mu' ∧ Chg mu H mu' H' ∧ DenG X.K H' G' σ' ∧ HM X.K H' mu', ?_, fun n σ' H' ⟨G', mu', q, c1, d1, m1⟩ => ?_⟩
    · obtain ⟨n, q⟩ := h0
      exact ⟨n, G, mu, q, Chg.refl, d, m⟩
    · refine ht n G' mu' q σ' H' _ d1 m1 fun kk mu2 H2 h2 c2 m2 => ?_
      have c12 := c1.trans c2
      cases kk with
      | true => exact iteT ⟨fun σ3 H3 => ∃ n', n' < n ∧ ∃ G' mu', I n' G' mu' ∧ Chg mu H mu' H3 ∧ DenG X.K H3 G' σ3 ∧ HM X.K H3 mu', fun σ3 H3 ⟨n', l, q⟩ => ⟨n', l, q⟩,
          h2 σ' H2 _ (c2.denG m1 d1) m2 ⟨fun σ4 G4 mu4 H4 ⟨n', l, q⟩ c4 d4 m4 => ⟨n', l, G4, mu4, q, c12.trans c4, d4, m4⟩, k.rt.step c12, k.nx.step c12, fun σ4 G4 mu4 H4 ⟨n', l, q⟩ c4 d4 m4 => ⟨n', l, G4, mu4, q, c12.trans c4, d4, m4⟩⟩⟩
      | false => exact iteF (k.nx _ _ _ _ h2 c12 (c2.denG m1 d1) m2)
/-! a, b = x, y -/
theorem ss_par {i j : Nat} {x y : Str} {px py pt : Pos} {kt k2 : Nat} {pt2 : Pos} {E : WE} (h : SE X a G mu fun w mu1 => SE X b G mu1 fun w2 mu2 => E.nx ((G.set i (some w)).set j (some w2)) mu2) (hc : X.calm = true) (hN : X.N.Nodup) (hij : i ≠ j)
    (hsw : swappedStores [.Tuple [.Name x px, .Name y py] kt pt] (.Tuple [a, b] k2 pt2) X.env = pure (some [x, y])) (hi : X.N[i]? = some x := by rfl) (hj : X.N[j]? = some y := by rfl) (hx : X.env.scope.names.lookup x = some .local := by rfl) (hy : X.env.scope.names.lookup y = some .local := by rfl)
    (hs : starEach [a, b] X.env = (false, eval a X.env) :: starEach [b] X.env := by rfl) (hs2 : starEach [b] X.env = [(false, eval b X.env)] := by rfl) (hso : swapsWithSole [.Tuple [.Name x px, .Name y py] kt pt] (.Tuple [a, b] k2 pt2) pos.line X.env = pure false := by rfl) :
    SS X (.Assign [.Tuple [.Name x px, .Name y py] kt pt] (.Tuple [a, b] k2 pt2) pos) G mu E :=
  SS.mk (ps_par hc hN hi hj hij hx hy (pa_cons peE (pa_cons peE pa_nil hs2) hs) hsw hso) fun σ H D d m k => h σ H _ d m fun v w mu1 H1 h1 c1 d1 m1 => h1 σ H1 _ (c1.denG m d) m1 fun v2 w2 mu2 H2 h2 c2 d2 m2 =>
    ⟨v, v2, rfl, k.nx _ _ _ _ h2 (c1.trans c2) (DenG.set (DenG.set ((c1.trans c2).denG m d) (c2.den m1 d1)) d2) m2⟩
end
end Dv
set_option Elab.async false
set_option linter.all false
set_option maxRecDepth 100000
/-! Dicts by values; fields of instances. -/
namespace Dv
open PySem L2
def kW : Key → W
  | .inl i => .int i
  | .inr x => .str x
section
variable {K : PySem.W.Frag} {H : Hp} {κ : Type} [DecidableEq κ]
theorem kW_den {k : Key} {v : V} (d : Den K H (kW k) v) : v = kV k := by
  cases k with
  | inl i => exact d
  | inr x => exact d
theorem kV_den {k : Key} : Den K H (kW k) (kV k) := by
  cases k with
  | inl i => rfl
  | inr x => rfl
/-- what pairs hold at a key -/
def valW (kvs : List (κ × W)) (k : κ) : Option W := match kvs with
  | [] => none
  | (j, w) :: r => if j = k then some w else valW r k
def putW (kvs : List (κ × W)) (k : κ) (w : W) : List (κ × W) := match kvs with
  | [] => [(k, w)]
  | (j, u) :: r => if j = k then (j, w) :: r else (j, u) :: putW r k w
abbrev DKV (K : PySem.W.Frag) (H : Hp) (kvs : List (κ × W)) (vs : List (κ × V)) : Prop := kvs.map (·.1) = vs.map (·.1) ∧ DenAll K H (kvs.map (·.2)) (vs.map (·.2))
theorem DKV.cons {j : κ} {w : W} {r : List (κ × W)} {vs : List (κ × V)} (d : DKV K H ((j, w) :: r) vs) : ∃ v vs', vs = (j, v) :: vs' ∧ Den K H w v ∧ DKV K H r vs' := by
  obtain ⟨h1, v, xs, e, d1, d2⟩ := d
  cases vs with
  | nil => cases h1
  | cons q vs' =>
    obtain ⟨j', v'⟩ := q
    simp only [List.map_cons, List.cons.injEq] at h1 e
    obtain ⟨rfl, h1⟩ := h1
    obtain ⟨rfl, rfl⟩ := e
    exact ⟨v', vs', rfl, d1, h1, d2⟩
theorem DKV.nil {vs : List (κ × V)} (d : DKV K H [] vs) : vs = [] := by
  cases vs with
  | nil => rfl
  | cons q r => cases d.1
theorem DKV.mk {j : κ} {w : W} {v : V} {r : List (κ × W)} {vs : List (κ × V)} (d : Den K H w v) (t : DKV K H r vs) : DKV K H ((j, w) :: r) ((j, v) :: vs) := ⟨by simp [t.1], v, _, rfl, d, t.2⟩
theorem DKV.get : ∀ {kvs : List (κ × W)} {vs : List (κ × V)} {k : κ} {w : W}, DKV K H kvs vs → valW kvs k = some w → ∃ v, valV vs k = some v ∧ Den K H w v
  | [], _, k, w, d, h => by cases h
  | (j, u) :: r, _, k, w, d, h => by
    obtain ⟨v, vs', rfl, d1, d2⟩ := d.cons
    unfold valW at h
    by_cases e : j = k
    · rw [if_pos e] at h
      cases h
      refine ⟨v, ?_, d1⟩
      unfold valV
      simp [e]
    · rw [if_neg e] at h
      obtain ⟨v', h1, h2⟩ := DKV.get d2 h
      refine ⟨v', ?_, h2⟩
      unfold valV at h1 ⊢
      simp only [List.find?, e, decide_false]
      exact h1
theorem DKV.getN : ∀ {kvs : List (κ × W)} {vs : List (κ × V)} {k : κ}, DKV K H kvs vs → valW kvs k = none → valV vs k = none
  | [], _, k, d, h => by rw [d.nil]; rfl
  | (j, u) :: r, _, k, d, h => by
    obtain ⟨v, vs', rfl, d1, d2⟩ := d.cons
    unfold valW at h
    by_cases e : j = k
    · rw [if_pos e] at h; cases h
    · rw [if_neg e] at h
      have h1 := DKV.getN d2 h
      unfold valV at h1 ⊢
      simp only [List.find?, e, decide_false]
      exact h1
theorem putK_cons (j : κ) (u : V) (r : List (κ × V)) (k : κ) (v : V) (hn : j = k → ∀ q ∈ r, q.1 ≠ k) : putK ((j, u) :: r) k v = if j = k then (j, v) :: r else (j, u) :: putK r k v := by
  unfold putK
  by_cases e : j = k
  · rw [if_pos e, if_pos (by simp [e])]
    simp only [List.map_cons, e, if_true]
    congr 1
    have : ∀ q ∈ r, (if q.1 = k then (q.1, v) else q) = q := fun q hq => if_neg (hn e q hq)
    conv => rhs; rw [← List.map_id r]
    exact List.map_congr_left this
  · rw [if_neg e]
    by_cases z : (r.any fun kv => decide (kv.1 = k)) = true
    · rw [if_pos (by simp only [List.any_cons, e, decide_false, Bool.false_or]; exact z), if_pos z]
      simp [e]
    · rw [if_neg (by simp only [List.any_cons, e, decide_false, Bool.false_or]; exact z), if_neg z]
      rfl
theorem DKV.put : ∀ {kvs : List (κ × W)} {vs : List (κ × V)} {k : κ} {w : W} {v : V}, (kvs.map (·.1)).Nodup → DKV K H kvs vs → Den K H w v → DKV K H (putW kvs k w) (putK vs k v)
  | [], _, k, w, v, _, d, dv => by
    rw [d.nil]
    exact DKV.mk dv ⟨rfl, rfl⟩
  | (j, u) :: r, _, k, w, v, hn, d, dv => by
    obtain ⟨v', vs', rfl, d1, d2⟩ := d.cons
    rw [List.map_cons, List.nodup_cons] at hn
    rw [putK_cons j v' vs' k v fun e q hq z => hn.1 (by rw [d2.1]; exact List.mem_map.mpr ⟨q, hq, z.trans e.symm⟩)]
    unfold putW
    by_cases e : j = k
    · rw [if_pos e, if_pos e]
      exact DKV.mk dv d2
    · rw [if_neg e, if_neg e]
      exact DKV.mk d1 (DKV.put hn.2 d2 dv)
theorem putW_keys : ∀ {kvs : List (κ × W)} {k : κ} {w : W}, (putW kvs k w).map (·.1) = if k ∈ kvs.map (·.1) then kvs.map (·.1) else kvs.map (·.1) ++ [k]
  | [], k, w => by simp [putW]
  | (j, u) :: r, k, w => by
    unfold putW
    by_cases e : j = k
    · simp [e]
    · rw [if_neg e]
      simp only [List.map_cons, putW_keys (kvs := r), List.mem_cons]
      have : ¬ k = j := fun z => e z.symm
      simp only [this, false_or]
      split <;> rfl
theorem putW_nodup {kvs : List (κ × W)} {k : κ} {w : W} (h : (kvs.map (·.1)).Nodup) : ((putW kvs k w).map (·.1)).Nodup := by
  rw [putW_keys]
  split
  · exact h
  · rename_i hk
    rw [List.nodup_append]
    exact ⟨h, by simp, fun a ha b hb => by simp at hb; subst hb; exact fun z => hk (z ▸ ha)⟩
theorem valW_put : ∀ {kvs : List (κ × W)} {k j : κ} {w : W}, valW (putW kvs k w) j = if k = j then some w else valW kvs j
  | [], k, j, w => by simp [putW, valW]
  | (i, u) :: r, k, j, w => by
    unfold putW
    by_cases e : i = k
    · subst e
      rw [if_pos rfl]
      simp only [valW]
      split <;> rfl
    · rw [if_neg e]
      simp only [valW, valW_put (kvs := r)]
      by_cases z : i = j
      · subst z
        have : ¬ k = i := fun q => e q.symm
        simp [this]
      · simp [z]
end
section
variable {X : Cx} {e a b c : Expr} {es : List Expr} {st : Stmt} {sts : List Stmt} {G : Gs} {mu mu' : Mu} {pos p apos cpos : Pos} {P : PW1}
/-- a dict cell whose keys differ -/
abbrev isDic (mu : Mu) (a : Addr) (kvs : List (Key × W)) : Prop := mu a = some (.dic kvs) ∧ (kvs.map (·.1)).Nodup
theorem newDic {K : PySem.W.Frag} {H : Hp} {p : Addr} {vs : List (Key × V)} {kvs : List (Key × W)} (d : DKV K H kvs vs) : ∀ H', (∀ a xs, SqT K H a xs → SqT K H' a xs) → H' p = some (.dK vs) → CellOk K H' p (.dic kvs) := fun H' st h => ⟨vs, h, d.1, DenAll.mono st _ d.2⟩
theorem se_dnew (h : ∀ p, mu p = none → P (.m p) (setM mu p (.dic []))) : SE X (.Dict [] [] pos) G mu P :=
  SE.mk pe_dnewK fun σ H Q d m k => fun p hp => by
    obtain ⟨c2, m2⟩ := laidC (o := .dK []) (c := .dic []) m hp (newDic (kvs := []) ⟨rfl, rfl⟩)
    exact k _ _ _ _ (h p (m.dom hp)) c2 rfl m2
/-- a key as a value -/
def keyOf : W → Option Key
  | .int i => some (.inl i)
  | .str x => some (.inr x)
  | _ => none
theorem keyOf_den {K : PySem.W.Frag} {H : Hp} {w : W} {v : V} {k : Key} (h : keyOf w = some k) (d : Den K H w v) : v = kV k := by
  cases w with
  | int i => cases h; exact d
  | str i => cases h; exact d
  | _ => cases h
abbrev dgW (w1 w2 : W) (mu : Mu) (P : PW1) : Prop := ∃ a kvs k w, w1 = .m a ∧ mu a = some (.dic kvs) ∧ keyOf w2 = some k ∧ valW kvs k = some w ∧ P w mu
theorem se_dget (hu : X.A.units + 1 < cLine) (h : SE X a G mu fun w1 mu1 => SE X b G mu1 fun w2 mu2 => dgW w1 w2 mu2 P) (hs : NoSl b := by exact fun _ _ => rfl) : SE X (.Subscript a b pos) G mu P :=
  SE.mk (pe_dget hu peE peE hs) fun σ H Q d m k => h σ H _ d m fun x w1 mu1 H1 h1 c1 d1 m1 => h1 σ H1 _ (c1.denG m d) m1 fun y w2 mu2 H2 h2 c2 d2 m2 => by
    obtain ⟨aa, kvs, kk, w, rfl, e, hk, hv, q⟩ := h2
    have d1 : x = .ref aa := d1
    subst d1
    obtain ⟨vs, hx, dk⟩ := m2 aa _ e
    obtain ⟨v, h1, h2⟩ := DKV.get (K := X.K) (H := H2) dk hv
    have e2 := keyOf_den hk d2
    subst e2
    exact ⟨aa, v, rfl, h1 ▸ DGet.k hx, k _ _ _ _ q (c1.trans c2) h2 m2⟩
abbrev dpW (w1 w2 w : W) (G : Gs) (mu : Mu) (N : Gs → Mu → Prop) : Prop := ∃ a kvs k, w1 = .m a ∧ isDic mu a kvs ∧ keyOf w2 = some k ∧ kvs.length < sizeLine ∧ N G (setM mu a (.dic (putW kvs k w)))
theorem ss_dput {E : WE} {pos' : Pos} (hu : X.A.units + 1 < cLine) (h : SE X e G mu fun w mu1 => SE X a G mu1 fun w1 mu2 => SE X b G mu2 fun w2 mu3 => dpW w1 w2 w G mu3 E.nx)
    (hs : swapsWith e (some (.Subscript a b pos')) pos.line X.env = pure false := by rfl) : SS X (.Assign [.Subscript a b pos'] e pos) G mu E :=
  SS.mk (ps_dput hu peE peE peE hs) fun σ H D d m k => h σ H _ d m fun v w mu1 H1 h1 c1 d1 m1 => h1 σ H1 _ (c1.denG m d) m1 fun x w1 mu2 H2 h2 c2 d2 m2 => h2 σ H2 _ ((c1.trans c2).denG m d) m2 fun y w2 mu3 H3 h3 c3 d3 m3 => by
    obtain ⟨aa, kvs, kk, rfl, ⟨e, hn⟩, hk, hl, q⟩ := h3
    have d2 : x = .ref aa := d2
    subst d2
    have d1 := c3.den m2 (c2.den m1 d1)
    obtain ⟨vs, hx, dk⟩ := m3 aa _ e
    have e2 := keyOf_den hk d3
    subst e2
    have dk : DKV X.K H3 kvs vs := dk
    obtain ⟨c4, m4⟩ := wrote (o := .dK (putK vs kk v)) (c := .dic (putW kvs kk w)) m3 e (newDic (dk.put hn d1))
    have cc := (c1.trans c2).trans c3
    refine ⟨aa, _, rfl, DPut.k hx ?_, k.nx _ _ _ _ q (cc.trans c4) (c4.denG m3 (cc.denG m d)) m4⟩
    have := congrArg List.length dk.1
    simp only [List.length_map] at this
    omega
/-! a display of a dict with texts as keys -/
def trsX (X : Cx) : List (Option Expr) → List Expr → List (TE × TE)
  | some k :: ks, v :: vs => (tE X k, tE X v) :: trsX X ks vs
  | _, _ => []
def SPs (X : Cx) : List (Option Expr) → List Expr → Gs → Mu → (List (W × W) → Mu → Prop) → Prop
  | some k :: ks, v :: vs, G, mu, Post => SE X k G mu fun w mu1 => SE X v G mu1 fun u mu2 => SPs X ks vs G mu2 fun ps mu3 => Post ((w, u) :: ps) mu3
  | [], [], G, mu, Post => Post [] mu
  | _, _, _, _, _ => False
theorem pps_all : ∀ (ks : List (Option Expr)) (vs : List Expr), (ks.all fun x => x.isSome) = true → ks.length = vs.length → PPs X pos ks vs (trsX X ks vs)
  | [], [], _, _ => pps_nil
  | some k :: ks, v :: vs, h, hl => pps_cons peE peE (pps_all ks vs (by simpa using h) (by simpa using hl))
  | none :: ks, v :: vs, h, hl => by simp at h
  | [], v :: vs, h, hl => by simp at hl
  | k :: ks, [], h, hl => by simp at hl
abbrev DPs (K : PySem.W.Frag) (H : Hp) (ws : List (W × W)) (ps : List (V × V)) : Prop := DenAll K H (ws.map (·.1)) (ps.map (·.1)) ∧ DenAll K H (ws.map (·.2)) (ps.map (·.2)) ∧ ws.length = ps.length
theorem sps_rd : ∀ (ks : List (Option Expr)) (vs : List Expr) {G : Gs} {mu : Mu} {Post : List (W × W) → Mu → Prop} {σ : St} {H : Hp} {Q : List (V × V) → Hp → Prop}, SPs X ks vs G mu Post → DenG X.K H G σ → HM X.K H mu →
    (∀ ws ps mu' H', Post ws mu' → Chg mu H mu' H' → DPs X.K H' ws ps → HM X.K H' mu' → Q ps H') → tPairs (trsX X ks vs) σ H Q
  | [], [], G, mu, Post, σ, H, Q, h, d, m, k => k [] [] mu H h Chg.refl ⟨rfl, rfl, rfl⟩ m
  | some kk :: ks, v :: vs, G, mu, Post, σ, H, Q, h, d, m, k => by
    unfold SPs at h
    show tE X kk σ H _
    refine h σ H _ d m fun x w mu1 H1 h1 c1 d1 m1 => h1 σ H1 _ (c1.denG m d) m1 fun y u mu2 H2 h2 c2 d2 m2 => ?_
    refine sps_rd ks vs h2 ((c1.trans c2).denG m d) m2 fun ws ps mu3 H3 h3 c3 d3 m3 => k _ _ _ _ h3 ((c1.trans c2).trans c3) ⟨⟨x, _, rfl, c3.den m2 (c2.den m1 d1), d3.1⟩, ⟨y, _, rfl, c3.den m2 d2, d3.2.1⟩, by simp [d3.2.2]⟩ m3
  | none :: ks, v :: vs, G, mu, Post, σ, H, Q, h, d, m, k => by unfold SPs at h; exact h.elim
  | [], v :: vs, G, mu, Post, σ, H, Q, h, d, m, k => by unfold SPs at h; exact h.elim
  | some kk :: ks, [], G, mu, Post, σ, H, Q, h, d, m, k => by unfold SPs at h; exact h.elim
  | none :: ks, [], G, mu, Post, σ, H, Q, h, d, m, k => by unfold SPs at h; exact h.elim
theorem dps_keys {K : PySem.W.Frag} {H : Hp} : ∀ {kvs : List (Key × W)} {ps : List (V × V)}, DPs K H (kvs.map fun q => (kW q.1, q.2)) ps → ∃ vs : List (Key × V), ps = vs.map (fun kv => (kV kv.1, kv.2)) ∧ DKV K H kvs vs
  | [], ps, d => by
    cases ps with
    | nil => exact ⟨[], rfl, rfl, rfl⟩
    | cons q r => cases d.2.2
  | (kk, w) :: r, ps, d => by
    cases ps with
    | nil => cases d.2.2
    | cons q ps =>
      obtain ⟨x, y⟩ := q
      obtain ⟨⟨v1, r1, e1, a1, t1⟩, ⟨v2, r2, e2, a2, t2⟩, hl⟩ := d
      simp only [List.map_cons, List.cons.injEq] at e1 e2
      obtain ⟨rfl, rfl⟩ := e1
      obtain ⟨rfl, rfl⟩ := e2
      obtain ⟨vs, rfl, dk⟩ := dps_keys (kvs := r) (ps := ps) ⟨t1, t2, by simpa using hl⟩
      have e3 := kW_den a1
      exact ⟨(kk, y) :: vs, by simp [e3], DKV.mk a2 dk⟩
theorem mergeK_new : ∀ (vs acc : List (Key × V)), ((acc ++ vs).map (·.1)).Nodup → mergeK acc vs = acc ++ vs
  | [], acc, _ => by simp [mergeK]
  | (kk, v) :: vs, acc, h => by
    have hn : valV acc kk = none := by
      unfold valV
      rw [Option.map_eq_none_iff, List.find?_eq_none]
      intro q hq z
      have z := of_decide_eq_true z
      rw [List.map_append, List.nodup_append] at h
      exact h.2.2 q.1 (List.mem_map.mpr ⟨q, hq, rfl⟩) kk (by simp) z
    show mergeK (putK acc kk v) vs = _
    rw [putK_new _ hn, mergeK_new vs _ (by simpa using h)]
    simp
theorem se_disp {keys : List (Option Expr)} {values : List Expr} (h : SPs X keys values G mu fun ws mu1 => ∃ kvs : List (Key × W), ws = kvs.map (fun q => (kW q.1, q.2)) ∧ (kvs.map (·.1)).Nodup ∧ kvs.length ≤ 15 ∧ ∀ p, mu1 p = none → P (.m p) (setM mu1 p (.dic kvs)))
    (h1 : (keys.all fun x => x.isSome) = true := by rfl) (h2 : keys.length = values.length := by rfl) (h3 : keys ≠ [] := by exact fun z => by cases z) (h4 : keys.length ≤ 15 := by decide) : SE X (.Dict keys values pos) G mu P :=
  SE.mk (pe_disp (pps_all keys values h1 h2) h1 h2 h3 h4) fun σ H Q d m k => fun p hp => by
    obtain ⟨c0, m0⟩ := laid (o := .dK []) m hp
    refine sps_rd keys values h (c0.denG m d) m0 fun ws ps mu1 H1 ⟨kvs, e, hn, hl, q⟩ c1 d1 m1 => ?_
    have hp1 : H1 p = some (.dK []) := c1.keep _ _ upd_same (m.dom hp)
    have np : mu1 p = none := c1.new _ _ upd_same (m.dom hp)
    subst e
    obtain ⟨vs, rfl, dk⟩ := dps_keys d1
    refine ⟨hp1, vs, rfl, ?_, ?_⟩
    · have := congrArg List.length dk.1
      simp only [List.length_map] at this
      omega
    · have em : mergeK [] vs = vs := by rw [mergeK_new vs [] (by rw [List.nil_append, ← dk.1]; exact hn)]; rfl
      rw [em]
      have sq : ∀ a xs, SqT X.K H1 a xs → SqT X.K (upd H1 p (.dK vs)) a xs := fun a xs s => by
        rcases s with (s | ⟨o, s⟩) | s
        · exact .inl (.inl (by rw [upd_ne (ne_of s hp1 (by intro z; cases z))]; exact s))
        · exact .inl (.inr ⟨o, by rw [upd_ne (ne_of s hp1 (by intro z; cases z))]; exact s⟩)
        · exact .inr s
      refine k (.ref p) (.m p) (setM mu1 p (.dic kvs)) _ (q p np) ⟨fun b o hb n => ?_, fun b cc hb => ?_, fun b o hb n => ?_⟩ rfl fun a cc ha => ?_
      · rw [upd_ne (ne_of_none hb hp)]
        exact (c0.trans c1).keep b o hb n
      · by_cases z : b = p
        · subst z; exact ⟨_, setM_same⟩
        · rw [setM_ne z]; exact (c0.trans c1).old b cc hb
      · rw [setM_ne (ne_of_none hb hp)]
        exact (c0.trans c1).new b o hb n
      · by_cases z : a = p
        · subst z
          rw [setM_same] at ha
          cases ha
          exact ⟨vs, upd_same, dk.1, DenAll.mono sq _ dk.2⟩
        · rw [setM_ne z] at ha
          exact CellOk.mono sq (m1 a cc ha) (upd_ne z)
/-! fields -/
abbrev fldW (K : PySem.W.Frag) (f : Str) (w : W) (mu : Mu) (P : PW1) : Prop := ∃ a Cl fs u, w = .m a ∧ mu a = some (.ins Cl fs) ∧ Cls K Cl ∧ NoAttr K Cl f ∧ valW fs f = some u ∧ P u mu
theorem lookup_valV : ∀ (vs : List (Str × V)) (f : Str), List.lookup f vs = valV vs f
  | [], f => rfl
  | (j, v) :: r, f => by
    by_cases e : j = f
    · subst e
      simp [List.lookup, valV]
    · have h1 : (f == j) = false := by simpa using fun z => e z.symm
      rw [List.lookup, h1, lookup_valV r f]
      unfold valV
      simp only [List.find?, e, decide_false]
theorem se_fld {f : Str} (h : SE X a G mu fun w mu1 => fldW X.K f w mu1 P) (hb : attributeBase a f X.env (eval a X.env) = eval a X.env := by rfl) : SE X (.Attribute a f pos) G mu P :=
  SE.mk (pe_fld peE hb) fun σ H Q d m k => h σ H _ d m fun x w mu1 H1 ⟨aa, Cl, fs, u, e, hm, hc, hn, hv, q⟩ c1 d1 m1 => by
    subst e
    have d1 : x = .ref aa := d1
    subst d1
    obtain ⟨dx, vs, hx, dk⟩ := m1 aa _ hm
    obtain ⟨v, h1, h2⟩ := DKV.get (K := X.K) (H := H1) dk hv
    exact ⟨aa, Cl, dx, vs, v, rfl, hx, hc, hn, (lookup_valV vs f).trans h1, k _ _ _ _ q c1 h2 m1⟩
end
end Dv
set_option Elab.async false
set_option linter.all false
set_option maxRecDepth 100000
/-! Pure defs: their result is a function of the arguments, old cells stay. -/
namespace Dv
open PySem L2
def Ext (mu mu' : Mu) : Prop := ∀ a c, mu a = some c → mu' a = some c
theorem Ext.refl {mu : Mu} : Ext mu mu := fun _ _ h => h
theorem Ext.trans {mu mu' mu'' : Mu} (a : Ext mu mu') (b : Ext mu' mu'') : Ext mu mu'' := fun c d h => b c d (a c d h)
theorem Ext.set {mu mu' : Mu} {p : Addr} {c : C} (e : Ext mu mu') (h : mu p = none) : Ext mu (setM mu' p c) := fun a d ha => by
  rw [setM_ne fun z => by rw [z, h] at ha; cases ha]
  exact e a d ha
theorem Ext.none {mu mu' : Mu} {p : Addr} (e : Ext mu mu') (h : mu' p = none) : mu p = none := by
  cases q : mu p with
  | none => rfl
  | some c => rw [e p c q] at h; cases h
theorem bW_split {k : Bool} {A B : Prop} (ht : k = true → A) (hf : k = false → B) : bW (.bl k) A B := by
  cases k with
  | true => exact ht rfl
  | false => exact hf rfl
theorem if2_split {k : Bool} {A B : Prop} (ht : k = true → A) (hf : k = false → B) : if2 k A B := by
  cases k with
  | true => exact ht rfl
  | false => exact hf rfl
theorem bW_t {k : Bool} {A B : Prop} (h : k = true) (a : A) : bW (.bl k) A B := by subst h; exact a
theorem bW_f {k : Bool} {A B : Prop} (h : k = false) (a : B) : bW (.bl k) A B := by subst h; exact a
theorem if2_t {k : Bool} {A B : Prop} (h : k = true) (a : A) : if2 k A B := by subst h; exact a
theorem if2_f {k : Bool} {A B : Prop} (h : k = false) (a : B) : if2 k A B := by subst h; exact a
/-- a pure def's promise -/
def spF (f : List W → Option W) : SpW := fun ws mu P => ∃ r, f ws = some r ∧ ∀ mu', Ext mu mu' → P r mu'
section
variable {X : Cx} {e a b c elt t : Expr} {G : Gs} {mu mu1 : Mu} {P : PW1}
theorem lc_pure {B : (Cx → Prop) → Prop} {T : Tg} {vs : List Nat} {ws : List W} {Gm : Mu → Prop} (g : W → W) (hG : ∀ mu', Ext mu1 mu' → Gm mu') (hl : ws.length ≤ sizeLine)
    (hs : ∀ w mu', w ∈ ws → Ext mu1 mu' → ∃ G2, T.bind w (wipeG G vs) = some G2 ∧ B fun Y => SE Y elt G2 mu' fun r mu4 => r = g w ∧ Ext mu' mu4)
    (hB : ∀ {p q : Cx → Prop}, (∀ Y, p Y → q Y) → B p → B q)
    (hd : ∀ D mu', mu1 D = none → Ext mu1 mu' → Ext mu1 (setM mu' D (.lst (ws.map g))) → P (.m D) (setM mu' D (.lst (ws.map g)))) : lcPost B T elt vs G P ws Gm mu1 := by
  intro D hD
  refine ⟨fun i acc mu' => acc = (ws.take i).map g ∧ Ext mu1 mu', ⟨rfl, Ext.refl⟩, fun i acc mu' _ q => hG mu' q.2, fun i w acc mu' hw q => ?_, fun acc mu' q => ?_⟩
  · obtain ⟨rfl, q⟩ := q
    have hi : i < ws.length := (List.getElem?_eq_some_iff.mp hw).1
    refine ⟨by rw [List.length_map, List.length_take]; omega, ?_⟩
    obtain ⟨G2, hb, he⟩ := hs w mu' (List.mem_of_getElem? hw) q
    refine ⟨G2, hb, hB (fun Y h σ H Q d m k => h σ H Q d m fun v r mu4 H4 h4 => k v r mu4 H4 ⟨?_, q.trans h4.2⟩) he⟩
    rw [List.take_add_one, hw, List.map_append, h4.1]
    rfl
  · obtain ⟨rfl, q⟩ := q
    rw [List.take_length]
    exact hd D mu' hD q (q.set hD)
/-- all of a comprehension whose items all give True -/
theorem lc_all_t {B : (Cx → Prop) → Prop} {T : Tg} {vs : List Nat} {ws : List W} {Gm : Mu → Prop} (hG : ∀ mu', Ext mu1 mu' → Gm mu') (hl : ws.length ≤ sizeLine) (hB : ∀ {p q : Cx → Prop}, (∀ Y, p Y → q Y) → B p → B q)
    (hs : ∀ w mu', w ∈ ws → Ext mu1 mu' → ∃ G2, T.bind w (wipeG G vs) = some G2 ∧ B fun Y => SE Y elt G2 mu' fun r mu4 => r = .bl true ∧ Ext mu' mu4)
    (hd : ∀ mu', Ext mu1 mu' → P (.bl true) mu') : lcPost B T elt vs G (fun w mu2 => allW [w] mu2 P) ws Gm mu1 :=
  lc_pure (fun _ => .bl true) hG hl hs hB fun D mu' hD he he2 => ⟨ws.map fun _ => true, by rw [setM_same, List.map_map]; rfl, by
    have : (ws.map fun _ => true).all id = true := by simp
    rw [this]
    exact hd _ he2⟩
/-- any, all of a comprehension by a function of the items -/
theorem lc_any_g {B : (Cx → Prop) → Prop} {T : Tg} {vs : List Nat} {ws : List W} {Gm : Mu → Prop} (g : W → Bool) (hG : ∀ mu', Ext mu1 mu' → Gm mu') (hl : ws.length ≤ sizeLine) (hB : ∀ {p q : Cx → Prop}, (∀ Y, p Y → q Y) → B p → B q)
    (hs : ∀ w mu', w ∈ ws → Ext mu1 mu' → ∃ G2, T.bind w (wipeG G vs) = some G2 ∧ B fun Y => SE Y elt G2 mu' fun r mu4 => r = .bl (g w) ∧ Ext mu' mu4)
    (hd : ∀ mu', Ext mu1 mu' → P (.bl (ws.any g)) mu') : lcPost B T elt vs G (fun w mu2 => anyW [w] mu2 P) ws Gm mu1 :=
  lc_pure (fun w => .bl (g w)) hG hl hs hB fun D mu' hD he he2 => ⟨ws.map g, by rw [setM_same, List.map_map]; rfl, by
    have : (ws.map g).any id = ws.any g := by rw [List.any_map]; rfl
    rw [this]
    exact hd _ he2⟩
theorem lc_all_g {B : (Cx → Prop) → Prop} {T : Tg} {vs : List Nat} {ws : List W} {Gm : Mu → Prop} (g : W → Bool) (hG : ∀ mu', Ext mu1 mu' → Gm mu') (hl : ws.length ≤ sizeLine) (hB : ∀ {p q : Cx → Prop}, (∀ Y, p Y → q Y) → B p → B q)
    (hs : ∀ w mu', w ∈ ws → Ext mu1 mu' → ∃ G2, T.bind w (wipeG G vs) = some G2 ∧ B fun Y => SE Y elt G2 mu' fun r mu4 => r = .bl (g w) ∧ Ext mu' mu4)
    (hd : ∀ mu', Ext mu1 mu' → P (.bl (ws.all g)) mu') : lcPost B T elt vs G (fun w mu2 => allW [w] mu2 P) ws Gm mu1 :=
  lc_pure (fun w => .bl (g w)) hG hl hs hB fun D mu' hD he he2 => ⟨ws.map g, by rw [setM_same, List.map_map]; rfl, by
    have : (ws.map g).all id = ws.all g := by rw [List.all_map]; rfl
    rw [this]
    exact hd _ he2⟩
theorem InBlk.mono {scope : Scope} {p q : Cx → Prop} (h : ∀ Y, p Y → q Y) (hp : InBlk X scope p) : InBlk X scope q := fun s H C cl fp => h _ (hp s H C cl fp)
/-- weaken what is wanted -/
theorem SE.imp {P Q : PW1} (h : SE X e G mu P) (f : ∀ w mu', P w mu' → Q w mu') : SE X e G mu Q := fun σ H R d m k => h σ H R d m fun v w mu' H' q => k v w mu' H' (f w mu' q)
/-- a comprehension with a test -/
theorem lc_filter {B : (Cx → Prop) → Prop} {T : Tg} {vs : List Nat} {ws : List W} {Gm : Mu → Prop} (p : W → Bool) (g : W → W) (hG : ∀ mu', Ext mu1 mu' → Gm mu') (hl : ws.length ≤ sizeLine)
    (hs : ∀ w mu', w ∈ ws → Ext mu1 mu' → ∃ G2, T.bind w (wipeG G vs) = some G2 ∧ B fun Y => ST Y t G2 mu' fun b mu3 => b = p w ∧ Ext mu' mu3 ∧ (p w = true → B fun Z => SE Z elt G2 mu3 fun r mu4 => r = g w ∧ Ext mu' mu4))
    (hB : ∀ {p q : Cx → Prop}, (∀ Y, p Y → q Y) → B p → B q)
    (hd : ∀ D mu', mu1 D = none → Ext mu1 mu' → Ext mu1 (setM mu' D (.lst ((ws.filter p).map g))) → P (.m D) (setM mu' D (.lst ((ws.filter p).map g)))) : lcPost1 B T elt t vs G P ws Gm mu1 := by
  intro D hD
  refine ⟨fun i acc mu' => acc = ((ws.take i).filter p).map g ∧ Ext mu1 mu', ⟨rfl, Ext.refl⟩, fun i acc mu' _ q => hG mu' q.2, fun i w acc mu' hw q => ?_, fun acc mu' q => ?_⟩
  · obtain ⟨rfl, q⟩ := q
    have hi : i < ws.length := (List.getElem?_eq_some_iff.mp hw).1
    refine ⟨?_, ?_⟩
    · rw [List.length_map]
      have h1 := List.length_filter_le p (ws.take i)
      rw [List.length_take] at h1
      omega
    obtain ⟨G2, hb, he⟩ := hs w mu' (List.mem_of_getElem? hw) q
    refine ⟨G2, hb, hB (fun Y h σ H Q d m k => h σ H Q d m fun b mu3 H3 h3 => k b mu3 H3 ?_) he⟩
    obtain ⟨e1, e2, e3⟩ := h3
    have tk : ws.take (i + 1) = ws.take i ++ [w] := by rw [List.take_add_one, hw]; rfl
    cases b with
    | true =>
      refine hB (fun Z h4 => SE.imp h4 fun r mu4 h5 => ⟨?_, q.trans h5.2⟩) (e3 e1.symm)
      rw [tk, List.filter_append, List.map_append, h5.1]
      simp [← e1]
    | false =>
      show _ ∧ _
      refine ⟨?_, q.trans e2⟩
      rw [tk, List.filter_append, List.map_append]
      simp [← e1]
  · obtain ⟨rfl, q⟩ := q
    rw [List.take_length]
    exact hd D mu' hD q (q.set hD)
end
/-! ### defs as they stand behind the top -/
structure Dfn (K : PySem.W.Frag) (mg : Str → Option Value) (x : Str) (st : Stmt) (ps : List Str) : Prop where
  ex : ∃ f fd, Fun K x x st f fd ∧ mg x = some (.ref f) ∧ Binds K fd ps []
structure DefOk (P : Program) (w : World) (K : PySem.W.Frag) (mg : Str → Option Value) (base : Heap) (x : Str) (ps : List Str) (k : Nat) (S : SpW) : Prop where
  ex : ∃ f fd, FnOk P w K mg base CX0 k f fd ps (spW K S) ∧ mg x = some (.ref f) ∧ PySem.W.keepIn K (.ref f) = true ∧ Binds K fd ps []
section
variable {P : Program} {w : World} {K : PySem.W.Frag} {mg : Str → Option Value} {base : Heap}
theorem dfnOk {x : Str} {st : Stmt} {N ps : List Str} {k : Nat} {S : SpW} (D : Dfn K mg x st ps) (Sc : FnScope N ps (defScope st)) (len : ∀ ws mu P, S ws mu P → ws.length = ps.length)
    (body : ∀ (f : Addr) (cdv : Value) (A : Around) (outer : List Env) (s : Shared) (H : Hp) (E : XK), Room k (A.deeper (PyProof.Rows.envOfC x (defScope st) s.heap.objs.size f cdv)) → ∀ ws mu Pt, S ws mu Pt →
      SSs (cxOf CX0 P w K mg base N x (defScope st) f cdv A outer s H E).nox (defBody st) (startW N ws) mu { nx := fun _ mu' => Pt .non mu', rt := Pt }) : DefOk P w K mg base x ps (k + 1) S := by
  obtain ⟨f, fd, F, hm, hb⟩ := D.ex
  exact ⟨f, fd, okW F Sc len (body f), hm, F.kp, hb⟩
end
section
variable {X : Cx} {e : Expr} {es : List Expr} {G : Gs} {mu : Mu} {pos p : Pos} {P : PW1}
theorem se_callD {x : Str} {ps : List Str} {k : Nat} {S : SpW} (D : DefOk X.prog X.w X.K X.mg X.base x ps k S) (hr : Room k X.A) (h : SA X (e :: es) G mu fun ws mu1 => S ws mu1 P)
    (hg : Gl X x := by rfl) (hdb : (x == ("__debug__" : Str)) = false := by decide) (he : starEach (e :: es) X.env = (false, eval e X.env) :: starEach es X.env := by rfl) (hpl : (backTo pos (starEach es X.env)).any (·.1) = false := by rfl) : SE X (.Call (.Name x p) (e :: es) [] pos) G mu P := by
  obtain ⟨f, fd, F, hm, hk, hb⟩ := D.ex
  exact se_call F hr hm hk hb h hg hdb he hpl
theorem se_all (h : SE X e G mu fun w mu1 => allW [w] mu1 P) (hm : X.mg "all" = none) (hc : X.calm = true := by rfl) (hg : Gl X "all" := by rfl) (he : starEach [e] X.env = [(false, eval e X.env)] := by rfl) (hpl : (backTo pos (starEach [] X.env)).any (·.1) = false := by rfl) :
    SE X (.Call (.Name "all" p) [e] [] pos) G mu P := se_blt (cr_all hc) all_w hm (sa_one h he) (by decide +kernel) hg (by decide) (by decide) he hpl
theorem se_any (h : SE X e G mu fun w mu1 => anyW [w] mu1 P) (hm : X.mg "any" = none) (hc : X.calm = true := by rfl) (hg : Gl X "any" := by rfl) (he : starEach [e] X.env = [(false, eval e X.env)] := by rfl) (hpl : (backTo pos (starEach [] X.env)).any (·.1) = false := by rfl) :
    SE X (.Call (.Name "any" p) [e] [] pos) G mu P := se_blt (cr_any hc) any_w hm (sa_one h he) (by decide +kernel) hg (by decide) (by decide) he hpl
theorem se_tupleC (h : SE X e G mu fun w mu1 => tupleW [w] mu1 P) (hm : X.mg "tuple" = none) (hg : Gl X "tuple" := by rfl) (he : starEach [e] X.env = [(false, eval e X.env)] := by rfl) (hpl : (backTo pos (starEach [] X.env)).any (·.1) = false := by rfl) :
    SE X (.Call (.Name "tuple" p) [e] [] pos) G mu P := se_bty call_tuple_of tuple_w hm (sa_one h he) (by decide +kernel) hg (by decide) (by decide) he hpl
/-! a text's signs -/
theorem itw_str {K : PySem.W.Frag} {H : Hp} {mu : Mu} {z : Str} : ItW K (Its z) (z.cps.toList.map fun c => W.str ⟨#[c]⟩) (fun _ => True) mu H := by
  refine ⟨fun _ => True, fun i H v H' => H' = H ∧ ∃ c, z.cps[i]? = some c ∧ v = .str ⟨#[c]⟩, by rw [List.length_map]; exact walk_str (z := z), fun _ _ _ _ _ => trivial, fun i H1 x H2 mu' hi c m' _ ⟨e, cc, h1, h2⟩ => ?_⟩
  subst e h2
  refine ⟨.str ⟨#[cc]⟩, ?_, Chg.refl, m', rfl⟩
  rw [List.getElem?_map, Array.getElem?_toList, h1]
  rfl
theorem si_str {tg iter : Expr} {Post : List W → (Mu → Prop) → Mu → Prop} (h : SE X iter G mu fun w mu1 => match w with | .str z => Post (z.cps.toList.map fun c => W.str ⟨#[c]⟩) (fun _ => True) mu1 | _ => False) : SI X tg iter G mu Post :=
  SI.mk (pi_str peE) fun σ H R d m k => h σ H _ d m fun v w mu1 H1 h1 c1 d1 m1 => by
    cases w with
    | str z => exact ⟨z, d1, k _ _ _ _ _ h1 c1 m1 itw_str⟩
    | _ => exact False.elim h1
theorem si_items {tg : Expr} {i : Nat} {x : Str} {w : W} {pos : Pos} {Post : List W → (Mu → Prop) → Mu → Prop} (hG : G[i]? = some (some w)) (h : itemsW w mu Post) (hN : X.N[i]? = some x := by rfl) (hv : Vis X.env.scope x := by first | exact Or.inl rfl | exact Or.inr (Or.inl rfl) | exact Or.inr (Or.inr rfl))
    (hd : (x == ("__debug__" : Str)) = false := by decide) (hcd : (x == ("__classdict__" : Str)) = false := by decide) : SI X tg (.Name x pos) G mu Post := by
  cases w with
  | tup ws => exact si_tup (se_var hG h hN hv hd hcd)
  | m a => exact si_lst (se_var hG h hN hv hd hcd)
  | _ => exact False.elim h
/-! x *= e -/
theorem ip_mulS : PIp X .Mult (fun x y H Q => ∃ i j, x = .int i ∧ y = .int j ∧ CMulW i j ∧ Q (.int (i * j)) H) := by
  intro pins s σ H x y v u Q I r1 r2 ⟨i, j, e1, e2, hc, q⟩
  subst e1 e2
  obtain ⟨t, rfl⟩ := r1
  obtain ⟨t', rfl⟩ := r2
  exact PyProof.Rows.imul_int ⟨.int _, H, I.tok _, ⟨_, rfl⟩, q⟩ hc.ok
theorem ss_augMul {i : Nat} {x : Str} {E : WE} {pos' : Pos} {w : W} (hG : G[i]? = some (some w)) (h : SE X e G mu fun w2 mu1 => match w, w2 with | .int a, .int b => CMulW a b ∧ E.nx (G.set i (some (.int (a * b)))) mu1 | _, _ => False) (hN : X.N.Nodup) (hi : X.N[i]? = some x := by rfl) (hx : Loc X.env.scope x := by first | exact .inl rfl | exact .inr rfl)
    (hf : X.fn x = true ∨ X.env.scope.names.lookup x = some .local := by first | exact .inl rfl | exact .inr rfl) : SS X (.AugAssign (.Name x pos') .Mult e pos) G mu E :=
  SS.mk (ps_aug hN hi hx peE ip_mulS hf) fun σ H D d m k => by
    obtain ⟨v, hv, dv⟩ := d.2 i w hG
    refine ⟨v, hv, h σ H _ d m fun y w2 mu1 H1 h1 c1 d1 m1 => ?_⟩
    have dv := c1.den m dv
    cases w with
    | int a =>
      cases w2 with
      | int b => exact ⟨a, b, dv, d1, h1.1, k.nx _ _ _ _ h1.2 c1 (DenG.set (c1.denG m d) rfl) m1⟩
      | _ => exact False.elim h1
    | _ => cases w2 <;> exact False.elim h1
abbrev inCW (w1 w2 : W) (mu : Mu) (P : PW1) : Prop := ∃ c z, w1 = .str ⟨#[c]⟩ ∧ w2 = .str z ∧ P (.bl (decide (c ∈ z.cps.toList))) mu
theorem inC_w : OpW X (fun x y H Q => ∃ (c : Nat) (z : Str), x = .str ⟨#[c]⟩ ∧ y = .str z ∧ Q (.bl (decide (c ∈ z.cps.toList))) H) inCW := fun w1 w2 x y mu H P Q dx dy m ⟨c, z, e1, e2, h⟩ k => by
  subst e1 e2
  exact ⟨c, z, dx, dy, k.now h rfl m⟩
end
end Dv
set_option Elab.async false
set_option linter.all false
set_option maxRecDepth 100000
/-! Worlds as plW data, and what is asked of them. -/
namespace K1
open PySem L2 Dv
abbrev Slot := Str × Str × List Str
abbrev Pat := List (Str × Str)
abbrev Lap := Str × Pat × Pat
structure Wd where
  houses : List Str
  slots : List Slot
  bears : List Pat
  never : List Pat
  lapses : List Lap
/-- small letters -/
def NmOk (z : Str) : Prop := 1 ≤ z.length ∧ z.length ≤ 8 ∧ ∀ c ∈ z.cps.toList, 97 ≤ c ∧ c ≤ 122
def stW (ns : List Str) : List W := ns.map W.str
def nmW (ns : List Str) : W := .tup (stW ns)
def slW1 (s : Slot) : W := .tup [.str s.1, .str s.2.1, nmW s.2.2]
def slsW (ss : List Slot) : W := .tup (ss.map slW1)
def prW (q : Str × Str) : W := .tup [.str q.1, .str q.2]
def ptW (p : Pat) : W := .tup (p.map prW)
def ptsW (ps : List Pat) : W := .tup (ps.map ptW)
def lpW (l : Lap) : W := .tup [.str l.1, ptW l.2.1, ptW l.2.2]
def lpsW (ls : List Lap) : W := .tup (ls.map lpW)
theorem nm_len {z : Str} (h : NmOk z) : z.length ≤ sizeLine := Nat.le_trans h.2.1 (by decide)
theorem nm_ok {z : Str} (h : NmOk z) : PyData.canLay0 (.str z) = true := by
  unfold PyData.canLay0
  show (z.cps.all fun c => decide (c < 0x110000)) = true
  rw [← Array.all_toList, List.all_eq_true]
  intro c hc
  have := h.2.2 c hc
  simp
  omega
theorem dats_map {α : Type} (f : α → W) : ∀ xs : List α, dats (xs.map f) = xs.map fun x => dat (f x)
  | [] => by simp [dats]
  | x :: xs => by simp [dats, dats_map f xs]
theorem plains_map {α : Type} (f : α → W) (h : ∀ x, plW (f x) = true) : ∀ xs : List α, plsW (xs.map f) = true
  | [] => by simp [plsW]
  | x :: xs => by simp [plsW, h x, plains_map f h xs]
theorem plains_all : ∀ {ws : List W}, (∀ w ∈ ws, plW w = true) → plsW ws = true
  | [], _ => by simp [plsW]
  | w :: ws, h => by simp [plsW, h w (by simp), plains_all (ws := ws) fun v hv => h v (by simp [hv])]
theorem plain_str (z : Str) : plW (.str z) = true := by simp [plW]
theorem plain_pr (q : Str × Str) : plW (prW q) = true := by simp [prW, plW, plsW]
theorem plain_pt (p : Pat) : plW (ptW p) = true := by unfold ptW plW; exact plains_map _ plain_pr p
theorem plain_nm (ns : List Str) : plW (nmW ns) = true := by unfold nmW stW plW; exact plains_map _ plain_str ns
theorem lay_all {α : Type} (f : α → PyData) : ∀ {xs : List α}, (∀ x ∈ xs, (f x).canLay0 = true) → PyData.canLayAll0 (xs.map f) = true
  | [], _ => by simp [PyData.canLayAll0]
  | x :: xs, h => by simp [PyData.canLayAll0, h x (by simp), lay_all f (xs := xs) fun y hy => h y (by simp [hy])]
theorem depth_all {α : Type} (f : α → PyData) {n : Nat} : ∀ {xs : List α}, (∀ x ∈ xs, (f x).depth ≤ n) → PyData.depthAll (xs.map f) ≤ n
  | [], _ => by simp [PyData.depthAll]
  | x :: xs, h => by
    have h1 := h x (by simp)
    have h2 := depth_all f (n := n) (xs := xs) fun y hy => h y (by simp [hy])
    simp only [List.map_cons, PyData.depthAll]
    omega
theorem eqv_str (x y : Str) : PyData.eqv (.str x) (.str y) = decide (x = y) := by
  unfold PyData.eqv
  by_cases h : x = y
  · simp [h]
  · simp [h]
theorem any_str (ns : List Str) (h : Str) : ((dats (stW ns)).any fun z => PyData.eqv z (dat (.str h))) = decide (h ∈ ns) := by
  unfold stW
  rw [dats_map]
  induction ns with
  | nil => simp
  | cons n ns ih =>
    simp only [List.map_cons, List.any_cons, dat, eqv_str, ih] at ih ⊢
    by_cases e : n = h
    · simp [e]
    · have : ¬ h = n := fun z => e z.symm
      simp [e, this]
/-! data of one kind -/
def ltD (q : W × W) : Bool := PySem.W.dataLt (dat q.1) (dat q.2)
def rising (us : List W) : Bool := (us.zip us.tail).all ltD
def okUs (us : List W) : Prop := us.length ≤ sizeLine ∧ ∀ u ∈ us, plW u = true ∧ dat u ≠ .none ∧ (dat u).depth ≤ 64 ∧ ∀ v ∈ us, PySem.W.alike (dat u) (dat v) = true
theorem okUs_st {ns : List Str} (h : ns.length ≤ sizeLine) : okUs (stW ns) := by
  refine ⟨by rw [stW, List.length_map]; exact h, fun u hu => ?_⟩
  obtain ⟨n, hn, rfl⟩ := List.mem_map.mp hu
  refine ⟨plain_str n, by simp [dat], by simp [dat, PyData.depth], fun v hv => ?_⟩
  obtain ⟨n', hn', rfl⟩ := List.mem_map.mp hv
  simp [dat, PySem.W.alike]
theorem alike_pr (p q : Str × Str) : PySem.W.alike (dat (prW p)) (dat (prW q)) = true := by simp [prW, dat, dats, PySem.W.alike, PySem.W.alikeAll]
theorem alikeAll_prs : ∀ ps qs : List (Str × Str), PySem.W.alikeAll (dats (ps.map prW)) (dats (qs.map prW)) = true
  | [], _ => by simp [dats, PySem.W.alikeAll]
  | p :: ps, [] => by simp [dats, PySem.W.alikeAll]
  | p :: ps, q :: qs => by simp only [List.map_cons, dats, PySem.W.alikeAll, alike_pr, alikeAll_prs ps qs, Bool.and_self]
theorem alike_pt (p q : Pat) : PySem.W.alike (dat (ptW p)) (dat (ptW q)) = true := by
  unfold ptW
  simp only [dat, PySem.W.alike]
  exact alikeAll_prs p q
theorem depth_pr (q : Str × Str) : (dat (prW q)).depth ≤ 1 := by simp [prW, dat, dats, PyData.depth, PyData.depthAll]
theorem depth_pt (p : Pat) : (dat (ptW p)).depth ≤ 2 := by
  unfold ptW
  simp only [dat, PyData.depth]
  rw [dats_map]
  have := depth_all (fun q => dat (prW q)) (n := 1) (xs := p) fun q _ => depth_pr q
  omega
theorem okUs_pt {ps : List Pat} (h : ps.length ≤ sizeLine) : okUs (ps.map ptW) := by
  refine ⟨by rw [List.length_map]; exact h, fun u hu => ?_⟩
  obtain ⟨p, hp, rfl⟩ := List.mem_map.mp hu
  refine ⟨plain_pt p, by simp [ptW, dat], Nat.le_trans (depth_pt p) (by decide), fun v hv => ?_⟩
  obtain ⟨q, hq, rfl⟩ := List.mem_map.mp hv
  exact alike_pt p q
/-! what worlds ask -/
structure HsOk (hs : List Str) : Prop where
  lo : 1 ≤ hs.length
  hi : hs.length ≤ 4
  nm : ∀ h ∈ hs, NmOk h
  up : rising (stW hs) = true
structure SlOk (hs : List Str) (s : Slot) : Prop where
  nm : NmOk s.1
  home : s.2.1 ∈ hs
  lo : 2 ≤ s.2.2.length
  hi : s.2.2.length ≤ 4
  wm : ∀ w ∈ s.2.2, NmOk w
  nd : s.2.2.Nodup
def PrOk (ss : List Slot) (q : Str × Str) : Prop := ∃ s ∈ ss, s.1 = q.1 ∧ q.2 ∈ s.2.2
structure PtOk (ss : List Slot) (p : Pat) : Prop where
  pr : ∀ q ∈ p, PrOk ss q
  up : rising (stW (p.map (·.1))) = true
  len : p.length ≤ 6
/-- names of slots and words -/
structure SsNm (ss : List Slot) : Prop where
  len : ss.length ≤ 6
  nm : ∀ s ∈ ss, NmOk s.1 ∧ NmOk s.2.1 ∧ s.2.2.length ≤ 4 ∧ ∀ w ∈ s.2.2, NmOk w
theorem SsNm.filter {ss : List Slot} (h : SsNm ss) (p : Slot → Bool) : SsNm (ss.filter p) :=
  ⟨Nat.le_trans (List.length_filter_le _ _) h.len, fun s hs => h.nm s (List.mem_filter.mp hs).1⟩
/-- what is asked of lists of names to be compared -/
theorem in_names {P : PW1} {mu : Mu} {ng : Bool} {ns : List Str} {h : Str} (hh : NmOk h) (hn : ∀ n ∈ ns, NmOk n) (k : P (.bl (ng != decide (h ∈ ns))) mu) : inW ng (.str h) (nmW ns) mu P := by
  refine ⟨plain_str h, ?_, dats (stW ns), ?_, ?_, ?_⟩
  · unfold SeqAt.shaped
    simp only [dat, PyData.depth]
    have := nm_ok hh
    simp [this]
  · show (if plsW (stW ns) = true then some (dats (stW ns)) else none) = _
    rw [if_pos (show plsW (stW ns) = true from plains_map _ plain_str ns)]
  · unfold stW
    rw [dats_map]
    exact lay_all _ fun n h' => nm_ok (hn n h')
  · rw [any_str]
    exact k
theorem eq_strs {P : PW1} {mu : Mu} {x y : Str} (hx : NmOk x) (hy : NmOk y) (k : P (.bl (decide (x = y))) mu) : eqW (.str x) (.str y) mu P := by
  have sh : ∀ {z : Str}, NmOk z → SeqAt.shaped (.str z) = true := fun h => by
    unfold SeqAt.shaped
    have := nm_ok h
    simp [this, PyData.depth]
  refine ⟨.str x, .str y, ?_, ?_, sh hx, sh hy, ?_⟩
  · simp [asD, plW, dat]
  · simp [asD, plW, dat]
  · rw [eqv_str]; exact k
end K1
set_option Elab.async false
set_option linter.all false
set_option maxRecDepth 100000
namespace K1
open PySem L2 Dv
def top (i : Nat) : Stmt := PySem.Challenge.pw_unlikekeys_k10_texts_of_schemes.main.body.getD i (.Pass ⟨0, 0, 0, 0⟩)
/-- what the names of built-ins hold -/
structure Bl (mg : Str → Option Value) : Prop where
  isinstance : mg "isinstance" = none
  tuple : mg "tuple" = none
  list : mg "list" = none
  str : mg "str" = none
  len : mg "len" = none
  all : mg "all" = none
  any : mg "any" = none
  zip : mg "zip" = none
  set : mg "set" = none
  range : mg "range" = none
  sorted : mg "sorted" = none
  int : mg "int" = none
  abs : mg "abs" = none
  min : mg "min" = none
  max : mg "max" = none
  enumerate : mg "enumerate" = none
  dict : mg "dict" = none
  repr : mg "repr" = none
  letters : ∃ t, mg "LETTERS" = some (.str "abcdefghijklmnopqrstuvwxyz" t)
  stands : ∃ t, mg "MOST_STANDS" = some (.int 32 t)
section
variable {P : Program} {w : World} {K : PySem.W.Frag} {mg : Str → Option Value} {base : Heap}
abbrev s_is_tuple : Stmt := top 13
theorem sc_is_tuple : FnScope ["value", "least", "most"] ["value", "least", "most"] (defScope s_is_tuple) := ⟨rfl, rfl, rfl, by decide +kernel, rfl, by decide +kernel, by decide +kernel⟩
def S_is_tuple : SpW := fun ws mu P => ∃ us a b, ws = [.tup us, .int a, .int b] ∧ ∀ r mu', r = (decide (a ≤ (us.length : Int)) && decide ((us.length : Int) ≤ b)) → Ext mu mu' → P (.bl r) mu'
theorem d_is_tuple (D : Dfn K mg "is_tuple" s_is_tuple ["value", "least", "most"]) (B : Bl mg) : DefOk P w K mg base "is_tuple" ["value", "least", "most"] 1 S_is_tuple := by
  refine dfnOk D sc_is_tuple (fun ws mu P ⟨us, a, b, e, _⟩ => by rw [e]; rfl) (fun f cdv A outer s H E hr ws mu Pt ⟨us, a, b, e, h⟩ => ?_)
  subst e
  refine sss_cons (ss_ret ?_)
  refine se_and (se_isi (T := "tuple") ?_ B.isinstance B.tuple)
  refine se_var (i := 0) rfl ?_
  refine ⟨"tuple", true, rfl, by decide +kernel, ?_⟩
  refine se_one (se_chain op_le cmpI_w op_le cmpI_w ?_)
  refine se_var (i := 1) rfl ?_
  refine se_len ?_ B.len
  refine se_var (i := 0) rfl ?_
  refine bW_split (fun e1 => ?_) (fun e1 => ?_) <;> dsimp only at e1
  · refine se_var (i := 2) rfl ?_
    exact h _ _ (by simp [e1]) Ext.refl
  · exact h _ _ (by simp [e1]) Ext.refl
abbrev s_is_rising : Stmt := top 15
theorem sc_is_rising : FnScope ["values", "low", "high"] ["values"] (defScope s_is_rising) := ⟨rfl, rfl, rfl, by decide +kernel, rfl, by decide +kernel, by decide +kernel⟩
def S_is_rising : SpW := fun ws mu P => ∃ us v, ws = [v] ∧ (v = .tup us ∨ ∃ a, v = .m a ∧ mu a = some (.lst us)) ∧ okUs us ∧ ∀ r mu', r = rising us → Ext mu mu' → P (.bl r) mu'
theorem cut1 (us : List W) : cutW us (some 1) none = us.tail := by
  unfold cutW HT.sIx
  cases us with
  | nil => rfl
  | cons x r =>
    have : min (1 : Int).toNat (x :: r).length = 1 := by simp
    simp [this]
theorem d_is_rising (D : Dfn K mg "is_rising" s_is_rising ["values"]) (B : Bl mg) : DefOk P w K mg base "is_rising" ["values"] 1 S_is_rising := by
  refine dfnOk D sc_is_rising (fun ws mu P ⟨us, v, e, _⟩ => by rw [e]; rfl) (fun f cdv A outer s H E hr ws mu Pt ⟨us, v, e, hv, ok, h⟩ => ?_)
  subst e
  have hu : (A.deeper (PyProof.Rows.envOfC "is_rising" (defScope s_is_rising) s.heap.objs.size f cdv)).units + 65 < cLine := by have := hr.un; omega
  refine sss_cons (ss_ret ?_)
  refine se_blt (cr_all rfl) all_w B.all (sa_one ?_)
  refine se_lc (own := [("low", 1), ("high", 2)]) (.tp [(.nm 1), (.nm 2)]) rfl sc_is_rising.nd (blkOk_by (N := ["values", "low", "high"]) (sc := defScope s_is_rising) (by decide +kernel)) rfl (fun _ _ _ _ _ => (pg_tup rfl (pgs_cons (pg_name (i := 1) sc_is_rising.nd rfl (Or.inl rfl)) (pgs_cons (pg_name (i := 2) sc_is_rising.nd rfl (Or.inl rfl)) pgs_nil)))) (by intro _; rfl) ?_
  refine si_zip ?_ B.zip
  refine se_var (i := 0) rfl ?_
  refine se_slFrom ?_
  refine se_var (i := 0) rfl ?_
  refine se_int ?_
  rcases hv with rfl | ⟨a, rfl, ha⟩
  · dsimp only [isI, slW, zipW]
    rw [cut1]
    refine lc_pure (fun q => match q with | .tup [x, y] => .bl (ltD (x, y)) | _ => .non) (fun _ _ => trivial) ?_ ?_ InBlk.mono ?_
    · rw [List.length_map, List.length_zip]; have := ok.1; omega
    · intro w mu' hw he
      obtain ⟨⟨x, y⟩, hq, rfl⟩ := List.mem_map.mp hw
      refine ⟨_, rfl, fun s H C cl fp => ?_⟩
      refine se_cmp (op_ltD hu) lt_w (nomark _) ?_
      refine se_var (i := 1) rfl ?_
      refine se_var (i := 2) rfl ?_
      have hx := List.of_mem_zip hq
      obtain ⟨p1, n1, dp1, al⟩ := ok.2 x hx.1
      have hy : y ∈ us := List.mem_of_mem_tail hx.2
      exact ⟨p1, (ok.2 y hy).1, al y hy, n1, dp1, rfl, Ext.refl⟩
    · intro D mu' hD he he2
      refine ⟨(us.zip us.tail).map ltD, ?_, h _ _ ?_ he2⟩
      · rw [setM_same, List.map_map, List.map_map]
        rfl
      · unfold rising
        rw [List.all_map]
        rfl
  · dsimp only [isI, slW, zipW]
    refine ⟨us, ha, fun p np => ?_⟩
    rw [cut1]
    have e0 : Ext mu (setM mu p (.lst us.tail)) := Ext.refl.set np
    refine ⟨us, us.tail, e0 _ _ ha, setM_same, ?_⟩
    refine lc_pure (fun q => match q with | .tup [x, y] => .bl (ltD (x, y)) | _ => .non) (fun mu' e => ⟨e _ _ (e0 _ _ ha), e _ _ setM_same⟩) ?_ ?_ InBlk.mono ?_
    · rw [List.length_map, List.length_zip]; have := ok.1; omega
    · intro w mu' hw he
      obtain ⟨⟨x, y⟩, hq, rfl⟩ := List.mem_map.mp hw
      refine ⟨_, rfl, fun s H C cl fp => ?_⟩
      refine se_cmp (op_ltD hu) lt_w (nomark _) ?_
      refine se_var (i := 1) rfl ?_
      refine se_var (i := 2) rfl ?_
      have hx := List.of_mem_zip hq
      obtain ⟨p1, n1, dp1, al⟩ := ok.2 x hx.1
      have hy : y ∈ us := List.mem_of_mem_tail hx.2
      exact ⟨p1, (ok.2 y hy).1, al y hy, n1, dp1, rfl, Ext.refl⟩
    · intro D mu' hD he he2
      refine ⟨(us.zip us.tail).map ltD, ?_, h _ _ ?_ (e0.trans he2)⟩
      · rw [setM_same, List.map_map, List.map_map]
        rfl
      · unfold rising
        rw [List.all_map]
        rfl
abbrev s_is_name : Stmt := top 12
theorem sc_is_name : FnScope ["value", "letter"] ["value"] (defScope s_is_name) := ⟨rfl, rfl, rfl, by decide +kernel, rfl, by decide +kernel, by decide +kernel⟩
/-- of what is as it should be: True -/
def S_t (pre : List W → Mu → Prop) : SpW := fun ws mu P => pre ws mu ∧ ∀ mu', Ext mu mu' → P (.bl true) mu'
def S_is_name : SpW := S_t fun ws mu => ∃ z, ws = [.str z] ∧ NmOk z
theorem letters_mem {c : Nat} (h : 97 ≤ c ∧ c ≤ 122) : c ∈ ("abcdefghijklmnopqrstuvwxyz" : Str).cps.toList := by
  have hd : ∀ c, c < 123 → 97 ≤ c → c ∈ ("abcdefghijklmnopqrstuvwxyz" : Str).cps.toList := by decide +kernel
  exact hd c (by omega) h.1
theorem d_is_name (D : Dfn K mg "is_name" s_is_name ["value"]) (B : Bl mg) : DefOk P w K mg base "is_name" ["value"] 1 S_is_name := by
  refine dfnOk D sc_is_name (fun ws mu P ⟨⟨z, e, _⟩, _⟩ => by rw [e]; rfl) (fun f cdv A outer s H E hr ws mu Pt ⟨⟨z, e, hz⟩, h⟩ => ?_)
  subst e
  refine sss_cons (ss_ret ?_)
  refine se_and (se_isi (T := "str") ?_ B.isinstance B.str)
  refine se_var (i := 0) rfl ?_
  refine ⟨"str", true, rfl, by decide +kernel, ?_⟩
  refine se_and (se_chain op_le cmpI_w op_le cmpI_w ?_)
  refine se_int ?_
  refine se_len ?_ B.len
  refine se_var (i := 0) rfl ?_
  refine ⟨nm_len hz, ?_⟩
  refine bW_t (decide_eq_true (by have := hz.1; omega)) ?_
  refine se_int ?_
  refine bW_t (decide_eq_true (by have := hz.2.1; omega)) ?_
  refine se_one (se_all ?_ B.all)
  refine se_lc (own := [("letter", 1)]) (.nm 1) rfl sc_is_name.nd (blkOk_by (N := ["value", "letter"]) (sc := defScope s_is_name) (by decide +kernel)) rfl (fun _ _ _ _ _ => (pg_name (i := 1) sc_is_name.nd rfl (Or.inl rfl))) (by intro _; rfl) ?_
  refine si_str ?_
  refine se_var (i := 0) rfl ?_
  refine lc_all_t (fun _ _ => trivial) (by rw [List.length_map]; exact nm_len hz) InBlk.mono ?_ fun mu' e => h _ e
  intro w mu' hw he
  obtain ⟨c, hc, rfl⟩ := List.mem_map.mp hw
  refine ⟨_, rfl, fun s H C cl fp => ?_⟩
  refine se_cmp op_in_sign inC_w (by rfl) ?_
  refine se_var (i := 1) rfl ?_
  obtain ⟨t, ht⟩ := B.letters
  refine se_glob (w := .str "abcdefghijklmnopqrstuvwxyz") (v := .str "abcdefghijklmnopqrstuvwxyz") ht ⟨t, rfl⟩ (fun _ _ => rfl) ?_
  refine ⟨c, _, rfl, rfl, ?_, Ext.refl⟩
  rw [decide_eq_true (letters_mem (hz.2.2 c hc))]
abbrev s_are_names : Stmt := top 14
theorem sc_are_names : FnScope ["value", "least", "most", "name"] ["value", "least", "most"] (defScope s_are_names) := ⟨rfl, rfl, rfl, by decide +kernel, rfl, by decide +kernel, by decide +kernel⟩
def S_are_names : SpW := S_t fun ws mu => ∃ ns a b, ws = [nmW ns, .int a, .int b] ∧ a ≤ (ns.length : Int) ∧ (ns.length : Int) ≤ b ∧ ns.length ≤ sizeLine ∧ ∀ n ∈ ns, NmOk n
theorem d_are_names (D : Dfn K mg "are_names" s_are_names ["value", "least", "most"]) (B : Bl mg) (Dt : DefOk P w K mg base "is_tuple" ["value", "least", "most"] 1 S_is_tuple) (Dn : DefOk P w K mg base "is_name" ["value"] 1 S_is_name) : DefOk P w K mg base "are_names" ["value", "least", "most"] 2 S_are_names := by
  refine dfnOk D sc_are_names (fun ws mu P ⟨⟨ns, a, b, e, _⟩, _⟩ => by rw [e]; rfl) (fun f cdv A outer s H E hr ws mu Pt ⟨⟨ns, a, b, e, ha, hb, hl, hn⟩, h⟩ => ?_)
  subst e
  refine sss_cons (ss_ret ?_)
  refine se_and (se_callD Dt hr ?_)
  refine sa_cons (se_var (i := 0) rfl (sa_cons (se_var (i := 1) rfl (sa_cons (se_var (i := 2) rfl (sa_nil ?_))))))
  refine ⟨stW ns, a, b, rfl, fun r mu1 e e1 => ?_⟩
  refine bW_t (by subst e; rw [stW, List.length_map]; simp [ha, hb]) ?_
  refine se_one (se_all ?_ B.all)
  refine se_lc (own := [("name", 3)]) (.nm 3) rfl sc_are_names.nd (blkOk_by (N := ["value", "least", "most", "name"]) (sc := defScope s_are_names) (by decide +kernel)) rfl (fun _ _ _ _ _ => (pg_name (i := 3) sc_are_names.nd rfl (Or.inl rfl))) (by intro _; rfl) ?_
  refine si_tup ?_
  refine se_var (i := 0) rfl ?_
  refine lc_all_t (fun _ _ => trivial) (by rw [stW, List.length_map]; exact hl) InBlk.mono ?_ fun mu' e => h _ (e1.trans e)
  intro w mu' hw he
  obtain ⟨n, hn', rfl⟩ := List.mem_map.mp hw
  refine ⟨_, rfl, fun s H C cl fp => ?_⟩
  refine se_callD Dn hr (sa_cons (se_var (i := 3) rfl (sa_nil ?_)))
  exact ⟨⟨n, rfl, hn n hn'⟩, fun mu' e => ⟨rfl, e⟩⟩
end
end K1
set_option Elab.async false
set_option linter.all false
set_option maxRecDepth 100000
namespace K1
open PySem L2 Dv
section
variable {P : Program} {w : World} {K : PySem.W.Frag} {mg : Str → Option Value} {base : Heap}
def S_are_different : SpW := S_t fun ws mu => ∃ ns v, ws = [v] ∧ (v = nmW ns ∨ ∃ a, v = .m a ∧ mu a = some (.lst (stW ns))) ∧ ns.Nodup ∧ ns.length ≤ 10 ∧ ∀ n ∈ ns, NmOk n
theorem bit {a b : Nat} {r : Bool} {n : Nat} (e : r = (decide ((a : Int) ≤ (n : Int)) && decide ((n : Int) ≤ (b : Int)))) (h1 : a ≤ n) (h2 : n ≤ b) : r = true := by
  rw [e, decide_eq_true (by omega), decide_eq_true (by omega)]
  rfl

abbrev s_are_houses : Stmt := top 31
theorem sc_are_houses : FnScope ["value"] ["value"] (defScope s_are_houses) := ⟨rfl, rfl, rfl, by decide +kernel, rfl, by decide +kernel, by decide +kernel⟩
def S_are_houses : SpW := S_t fun ws mu => ∃ hs, ws = [nmW hs] ∧ HsOk hs
theorem d_are_houses (D : Dfn K mg "are_houses" s_are_houses ["value"]) (B : Bl mg) (D_are_names : DefOk P w K mg base "are_names" ["value", "least", "most"] 2 S_are_names) (D_is_rising : DefOk P w K mg base "is_rising" ["values"] 1 S_is_rising) : DefOk P w K mg base "are_houses" ["value"] 3 S_are_houses := by
  refine dfnOk D sc_are_houses (fun ws mu P ⟨⟨hs, e, _⟩, _⟩ => by rw [e]; rfl) (fun f cdv A outer s H E hr ws mu Pt ⟨⟨hs, e, ok⟩, h⟩ => ?_)
  subst e
  have hu65 : (A.deeper (PyProof.Rows.envOfC "are_houses" (defScope s_are_houses) s.heap.objs.size f cdv)).units + 65 < cLine := by have := hr.un; omega
  refine sss_cons ?_
  refine ss_ret ?_
  refine se_and ?_
  refine se_callD D_are_names (hr.mono (by decide)) ?_
  refine sa_cons ?_
  refine se_var (i := 0) rfl ?_  -- value
  refine sa_cons ?_
  refine se_int ?_  -- 1
  refine sa_cons ?_
  refine se_int ?_  -- 4
  refine sa_nil ?_
  refine ⟨⟨hs, 1, 4, rfl, by have := ok.lo; omega, by have := ok.hi; omega, Nat.le_trans ok.hi (by decide), ok.nm⟩, fun mu1 e1 => ?_⟩
  refine bW_t rfl ?_
  refine se_one ?_
  refine se_callD D_is_rising (hr.mono (by decide)) ?_
  refine sa_cons ?_
  refine se_var (i := 0) rfl ?_  -- value
  refine sa_nil ?_
  refine ⟨stW hs, nmW hs, rfl, .inl rfl, okUs_st (Nat.le_trans ok.hi (by decide)), fun r mu2 e2 e3 => ?_⟩
  rw [e2, ok.up]
  exact h _ (e1.trans e3)

abbrev s_is_slot : Stmt := top 33
theorem sc_is_slot : FnScope ["houses", "value", "name", "house", "words"] ["houses", "value"] (defScope s_is_slot) := ⟨rfl, rfl, rfl, by decide +kernel, rfl, by decide +kernel, by decide +kernel⟩
def S_is_slot : SpW := S_t fun ws mu => ∃ hs t, ws = [nmW hs, slW1 t] ∧ HsOk hs ∧ SlOk hs t
theorem d_is_slot (D : Dfn K mg "is_slot" s_is_slot ["houses", "value"]) (B : Bl mg) (D_is_tuple : DefOk P w K mg base "is_tuple" ["value", "least", "most"] 1 S_is_tuple) (D_is_name : DefOk P w K mg base "is_name" ["value"] 1 S_is_name) (D_are_names : DefOk P w K mg base "are_names" ["value", "least", "most"] 2 S_are_names) (D_are_different : DefOk P w K mg base "are_different" ["names"] 1 S_are_different) : DefOk P w K mg base "is_slot" ["houses", "value"] 3 S_is_slot := by
  refine dfnOk D sc_is_slot (fun ws mu P ⟨⟨hs, t, e, _⟩, _⟩ => by rw [e]; rfl) (fun f cdv A outer s H E hr ws mu Pt ⟨⟨hs, t, e, hs1, ok⟩, h⟩ => ?_)
  subst e
  have hu65 : (A.deeper (PyProof.Rows.envOfC "is_slot" (defScope s_is_slot) s.heap.objs.size f cdv)).units + 65 < cLine := by have := hr.un; omega
  refine sss_cons ?_
  refine ss_if ?_
  refine st_not ?_
  refine st_val ?_
  refine se_callD D_is_tuple (hr.mono (by decide)) ?_
  refine sa_cons ?_
  refine se_var (i := 1) rfl ?_  -- value
  refine sa_cons ?_
  refine se_int ?_  -- 3
  refine sa_cons ?_
  refine se_int ?_  -- 3
  refine sa_nil ?_
  refine ⟨_, 3, 3, rfl, fun r mu1 e e1 => ?_⟩
  obtain rfl : r = true := bit (a := 3) (b := 3) e (Nat.le_refl _) (Nat.le_refl _)
  refine sss_nil ?_
  refine sss_cons ?_
  refine ss_asg ?_
  refine se_var (i := 1) rfl ?_  -- value
  refine sg_tup ?_
  refine sgs_cons (sg_name (i := 2) ?_ sc_is_slot.nd)
  refine sgs_cons (sg_name (i := 3) ?_ sc_is_slot.nd)
  refine sgs_cons (sg_name (i := 4) ?_ sc_is_slot.nd)
  refine sgs_nil ?_
  refine sss_cons ?_
  refine ss_ret ?_
  refine se_and ?_
  refine se_callD D_is_name (hr.mono (by decide)) ?_
  refine sa_cons ?_
  refine se_var (i := 2) rfl ?_  -- name
  refine sa_nil ?_
  refine ⟨⟨t.1, rfl, ok.nm⟩, fun mu2 e2 => ?_⟩
  refine bW_t rfl ?_
  refine se_and ?_
  refine se_cmp (op_inT hu65) (in_w false) (by rfl) ?_  -- house in houses
  refine se_var (i := 3) rfl ?_  -- house
  refine se_var (i := 0) rfl ?_  -- houses
  refine in_names (hs1.nm _ ok.home) hs1.nm ?_
  refine bW_t (by rw [decide_eq_true ok.home]; rfl) ?_
  refine se_and ?_
  refine se_callD D_are_names (hr.mono (by decide)) ?_
  refine sa_cons ?_
  refine se_var (i := 4) rfl ?_  -- words
  refine sa_cons ?_
  refine se_int ?_  -- 2
  refine sa_cons ?_
  refine se_int ?_  -- 4
  refine sa_nil ?_
  refine ⟨⟨t.2.2, 2, 4, rfl, by have := ok.lo; omega, by have := ok.hi; omega, Nat.le_trans ok.hi (by decide), ok.wm⟩, fun mu3 e3 => ?_⟩
  refine bW_t rfl ?_
  refine se_one ?_
  refine se_callD D_are_different (hr.mono (by decide)) ?_
  refine sa_cons ?_
  refine se_var (i := 4) rfl ?_  -- words
  refine sa_nil ?_
  exact ⟨⟨t.2.2, _, rfl, .inl rfl, ok.nd, Nat.le_trans ok.hi (by decide), ok.wm⟩, fun mu4 e4 => h _ (((e1.trans e2).trans e3).trans e4)⟩

abbrev s_is_pair_over : Stmt := top 38
theorem sc_is_pair_over : FnScope ["slots", "value", "slot", "word", "name", "_", "words"] ["slots", "value"] (defScope s_is_pair_over) := ⟨rfl, rfl, rfl, by decide +kernel, rfl, by decide +kernel, by decide +kernel⟩
def S_is_pair_over : SpW := S_t fun ws mu => ∃ ss v q, ws = [v, prW q] ∧ (v = slsW ss ∨ ∃ a, v = .m a ∧ mu a = some (.lst (ss.map slW1))) ∧ SsNm ss ∧ PrOk ss q
theorem d_is_pair_over (D : Dfn K mg "is_pair_over" s_is_pair_over ["slots", "value"]) (B : Bl mg) (D_is_tuple : DefOk P w K mg base "is_tuple" ["value", "least", "most"] 1 S_is_tuple) : DefOk P w K mg base "is_pair_over" ["slots", "value"] 2 S_is_pair_over := by
  refine dfnOk D sc_is_pair_over (fun ws mu P ⟨⟨ss, v, q, e, _⟩, _⟩ => by rw [e]; rfl) (fun f cdv A outer s H E hr ws mu Pt ⟨⟨ss, v, q, e, hv, nm, ok⟩, h⟩ => ?_)
  subst e
  have hu65 : (A.deeper (PyProof.Rows.envOfC "is_pair_over" (defScope s_is_pair_over) s.heap.objs.size f cdv)).units + 65 < cLine := by have := hr.un; omega
  refine sss_cons ?_
  refine ss_if ?_
  refine st_not ?_
  refine st_val ?_
  refine se_callD D_is_tuple (hr.mono (by decide)) ?_
  refine sa_cons ?_
  refine se_var (i := 1) rfl ?_  -- value
  refine sa_cons ?_
  refine se_int ?_  -- 2
  refine sa_cons ?_
  refine se_int ?_  -- 2
  refine sa_nil ?_
  refine ⟨_, 2, 2, rfl, fun r mu1 e e1 => ?_⟩
  obtain rfl : r = true := bit (a := 2) (b := 2) e (Nat.le_refl _) (Nat.le_refl _)
  refine sss_nil ?_
  refine sss_cons ?_
  refine ss_asg ?_
  refine se_var (i := 1) rfl ?_  -- value
  refine sg_tup ?_
  refine sgs_cons (sg_name (i := 2) ?_ sc_is_pair_over.nd)
  refine sgs_cons (sg_name (i := 3) ?_ sc_is_pair_over.nd)
  refine sgs_nil ?_
  refine sss_cons ?_
  refine ss_ret ?_
  refine se_any ?_ B.any
  refine se_lc (own := [("name", 4), ("_", 5), ("words", 6)]) (.tp [(.nm 4), (.nm 5), (.nm 6)]) rfl sc_is_pair_over.nd (blkOk_by (N := ["slots", "value", "slot", "word", "name", "_", "words"]) (sc := defScope s_is_pair_over) (by decide +kernel)) rfl (fun _ _ _ _ _ => (pg_tup rfl (pgs_cons (pg_name (i := 4) sc_is_pair_over.nd rfl (Or.inl rfl)) (pgs_cons (pg_name (i := 5) sc_is_pair_over.nd rfl (Or.inl rfl)) (pgs_cons (pg_name (i := 6) sc_is_pair_over.nd rfl (Or.inl rfl)) pgs_nil))))) (by intro _; rfl) ?_  -- [slot == name and word in words for name, _, words in slots]
  refine si_items (i := 0) rfl ?_
  have hit : ∀ Post : List W → (Mu → Prop) → Mu → Prop, (∀ Gm : Mu → Prop, (∀ mu', Ext mu1 mu' → Gm mu') → Post (ss.map slW1) Gm mu1) → itemsW v mu1 Post := fun Post hp => by
    rcases hv with rfl | ⟨a, rfl, ha⟩
    · exact hp _ fun _ _ => trivial
    · exact ⟨_, e1 _ _ ha, hp _ fun mu' e' => e' _ _ (e1 _ _ ha)⟩
  refine hit _ fun Gm hG => ?_
  refine lc_any_g (fun w => match w with | .tup [.str n, _, .tup wd] => decide (q.1 = n) && decide (q.2 ∈ wd.map fun z => match z with | .str x => x | _ => "") | _ => false) hG ?_ InBlk.mono ?_ ?_
  · rw [List.length_map]; exact Nat.le_trans nm.len (by decide)
  · intro w mu' hw he
    obtain ⟨t, ht, rfl⟩ := List.mem_map.mp hw
    have tn := nm.nm t ht
    have qn : NmOk q.1 ∧ NmOk q.2 := by
      obtain ⟨u, hu, e1, e2⟩ := ok
      have := nm.nm u hu
      exact ⟨e1 ▸ this.1, this.2.2.2 _ e2⟩
    have em : (stW t.2.2).map (fun z => match z with | W.str x => x | _ => "") = t.2.2 := by
      unfold stW
      rw [List.map_map]
      exact List.map_id _
    refine ⟨_, rfl, fun s H C cl fp => ?_⟩
    refine se_and ?_
    refine se_cmp (op_eqD hr.units) eq_w (nomark _) ?_  -- slot == name
    refine se_var (i := 2) rfl ?_  -- slot
    refine se_var (i := 4) rfl ?_  -- name
    refine eq_strs qn.1 tn.1 ?_
    dsimp only [slW1, nmW]
    rw [em]
    refine bW_split (fun e5 => ?_) (fun e5 => ?_)
    rotate_left
    · exact ⟨by rw [e5]; rfl, Ext.refl⟩
    rw [e5]
    refine se_one ?_
    refine se_cmp (op_inT hu65) (in_w false) (by rfl) ?_  -- word in words
    refine se_var (i := 3) rfl ?_  -- word
    refine se_var (i := 6) rfl ?_  -- words
    exact in_names qn.2 tn.2.2.2 ⟨by simp, Ext.refl⟩
  · intro mu' he
    have : ((ss.map slW1).any fun w => match w with | .tup [.str n, _, .tup wd] => decide (q.1 = n) && decide (q.2 ∈ wd.map fun z => match z with | .str x => x | _ => "") | _ => false) = true := by
      obtain ⟨u, hu, e1, e2⟩ := ok
      rw [List.any_eq_true]
      refine ⟨slW1 u, List.mem_map.mpr ⟨u, hu, rfl⟩, ?_⟩
      have em : (stW u.2.2).map (fun z => match z with | W.str x => x | _ => "") = u.2.2 := by
        unfold stW
        rw [List.map_map]
        exact List.map_id _
      dsimp only [slW1, nmW]
      rw [em, e1]
      simp [e2]
    rw [this]
    exact h _ (e1.trans he)
end
end K1
set_option Elab.async false
set_option linter.all false
set_option maxRecDepth 100000
namespace K1
open PySem L2 Dv
section
variable {P : Program} {w : World} {K : PySem.W.Frag} {mg : Str → Option Value} {base : Heap}
/-- the slots as a tuple or as a list -/
def Sls (mu : Mu) (v : W) (ss : List Slot) : Prop := v = slsW ss ∨ ∃ a, v = .m a ∧ mu a = some (.lst (ss.map slW1))
theorem Sls.ext {mu mu' : Mu} {v : W} {ss : List Slot} (h : Sls mu v ss) (e : Ext mu mu') : Sls mu' v ss := by
  rcases h with h | ⟨a, h, ha⟩
  · exact .inl h
  · exact .inr ⟨a, h, e _ _ ha⟩
theorem pt_names {ss : List Slot} {p : Pat} (nm : SsNm ss) (ok : ∀ q ∈ p, PrOk ss q) : ∀ q ∈ p, NmOk q.1 ∧ NmOk q.2 := fun q hq => by
  obtain ⟨u, hu, e1, e2⟩ := ok q hq
  have := nm.nm u hu
  exact ⟨e1 ▸ this.1, this.2.2.2 _ e2⟩
theorem lay_pt {p : Pat} (h : ∀ q ∈ p, NmOk q.1 ∧ NmOk q.2) : (dat (ptW p)).canLay0 = true := by
  unfold ptW
  simp only [dat, PyData.canLay0]
  rw [dats_map]
  refine lay_all _ fun q hq => ?_
  have h1 := nm_ok (h q hq).1
  have h2 := nm_ok (h q hq).2
  simp [prW, dat, dats, PyData.canLay0, PyData.canLayAll0] at h1 h2 ⊢
  exact ⟨h1, h2⟩
theorem atI_nat' {α : Type} {xs : List α} {i : Nat} {x : α} (h : xs[i]? = some x) : atI xs (i : Int) = some x := by
  have hl : i < xs.length := (List.getElem?_eq_some_iff.mp h).1
  unfold atI ixN
  rw [if_pos (by omega), if_pos (by omega)]
  exact h
theorem lt10 {n : Nat} (h : n ≤ 10) : n ≤ sizeLine := Nat.le_trans h (by decide)

abbrev s_is_pattern_over : Stmt := top 37
theorem sc_is_pattern_over : FnScope ["slots", "value", "pair", "slot", "_"] ["slots", "value"] (defScope s_is_pattern_over) := ⟨rfl, rfl, rfl, by decide +kernel, rfl, by decide +kernel, by decide +kernel⟩
def S_is_pattern_over : SpW := S_t fun ws mu => ∃ ss v p, ws = [v, ptW p] ∧ Sls mu v ss ∧ SsNm ss ∧ PtOk ss p
theorem d_is_pattern_over (D : Dfn K mg "is_pattern_over" s_is_pattern_over ["slots", "value"]) (B : Bl mg) (D_is_pair_over : DefOk P w K mg base "is_pair_over" ["slots", "value"] 2 S_is_pair_over) (D_is_rising : DefOk P w K mg base "is_rising" ["values"] 1 S_is_rising) : DefOk P w K mg base "is_pattern_over" ["slots", "value"] 3 S_is_pattern_over := by
  refine dfnOk D sc_is_pattern_over (fun ws mu P ⟨⟨ss, v, p, e, _⟩, _⟩ => by rw [e]; rfl) (fun f cdv A outer s H E hr ws mu Pt ⟨⟨ss, v, p, e, hv, nm, ok⟩, h⟩ => ?_)
  subst e
  have hu65 : (A.deeper (PyProof.Rows.envOfC "is_pattern_over" (defScope s_is_pattern_over) s.heap.objs.size f cdv)).units + 65 < cLine := by have := hr.un; omega
  refine sss_cons ?_
  refine ss_if ?_
  refine st_of_w ?_
  refine sw_or ?_
  refine st_not ?_
  refine st_val ?_
  refine se_isi (T := "tuple") ?_ B.isinstance B.tuple
  refine se_var (i := 1) rfl ?_  -- value
  refine ⟨"tuple", true, rfl, by decide +kernel, ?_⟩
  refine sw_or1 ?_
  refine st_not ?_
  refine st_val ?_
  refine se_all ?_ B.all
  refine se_lc (own := [("pair", 2)]) (.nm 2) rfl sc_is_pattern_over.nd (blkOk_by (N := ["slots", "value", "pair", "slot", "_"]) (sc := defScope s_is_pattern_over) (by decide +kernel)) rfl (fun _ _ _ _ _ => (pg_name (i := 2) sc_is_pattern_over.nd rfl (Or.inl rfl))) (by intro _; rfl) ?_  -- [is_pair_over(slots, pair) for pair in value]
  refine si_tup ?_
  refine se_var (i := 1) rfl ?_  -- value
  refine lc_all_t (fun _ _ => trivial) (by rw [List.length_map]; exact lt10 (Nat.le_trans ok.len (by decide))) InBlk.mono ?_ ?_
  · intro w mu' hw he
    obtain ⟨q, hq, rfl⟩ := List.mem_map.mp hw
    refine ⟨_, rfl, fun s H C cl fp => ?_⟩
    refine se_callD D_is_pair_over (hr.mono (by decide)) ?_
    refine sa_cons ?_
    refine se_var (i := 0) rfl ?_  -- slots
    refine sa_cons ?_
    refine se_var (i := 2) rfl ?_  -- pair
    refine sa_nil ?_
    exact ⟨⟨ss, v, q, rfl, hv.ext he, nm, ok.pr q hq⟩, fun mu4 e4 => ⟨rfl, e4⟩⟩
  intro mu1 e1
  refine sss_nil ?_
  refine sss_cons ?_
  refine ss_ret ?_
  refine se_callD D_is_rising (hr.mono (by decide)) ?_
  refine sa_cons ?_
  refine se_lc (own := [("slot", 3), ("_", 4)]) (.tp [(.nm 3), (.nm 4)]) rfl sc_is_pattern_over.nd (blkOk_by (N := ["slots", "value", "pair", "slot", "_"]) (sc := defScope s_is_pattern_over) (by decide +kernel)) rfl (fun _ _ _ _ _ => (pg_tup rfl (pgs_cons (pg_name (i := 3) sc_is_pattern_over.nd rfl (Or.inl rfl)) (pgs_cons (pg_name (i := 4) sc_is_pattern_over.nd rfl (Or.inl rfl)) pgs_nil)))) (by intro _; rfl) ?_  -- [slot for slot, _ in value]
  refine si_tup ?_
  refine se_var (i := 1) rfl ?_  -- value
  refine lc_pure (fun w => match w with | .tup [x, _] => x | _ => .non) (fun _ _ => trivial) (by rw [List.length_map]; exact lt10 (Nat.le_trans ok.len (by decide))) ?_ InBlk.mono ?_
  · intro w mu' hw he
    obtain ⟨q, hq, rfl⟩ := List.mem_map.mp hw
    refine ⟨_, rfl, fun s H C cl fp => ?_⟩
    refine se_var (i := 3) rfl ?_  -- slot
    exact ⟨rfl, Ext.refl⟩
  have em : (p.map prW).map (fun w => match w with | W.tup [x, _] => x | _ => W.non) = stW (p.map (·.1)) := by
    unfold stW
    rw [List.map_map, List.map_map]
    rfl
  rw [em]
  intro D mu' hD he he2
  refine sa_nil ?_
  refine ⟨stW (p.map (·.1)), _, rfl, .inr ⟨D, rfl, setM_same⟩, okUs_st (by rw [List.length_map]; exact lt10 (Nat.le_trans ok.len (by decide))), fun r mu2 e2 e3 => ?_⟩
  rw [e2, ok.up]
  exact h _ ((e1.trans he2).trans e3)

abbrev s_are_full_patterns : Stmt := top 39
theorem sc_are_full_patterns : FnScope ["slots", "value", "pattern"] ["slots", "value"] (defScope s_are_full_patterns) := ⟨rfl, rfl, rfl, by decide +kernel, rfl, by decide +kernel, by decide +kernel⟩
def S_are_full : SpW := S_t fun ws mu => ∃ ss ps, ws = [slsW ss, ptsW ps] ∧ SsNm ss ∧ (∀ p ∈ ps, PtOk ss p ∧ p ≠ []) ∧ rising (ps.map ptW) = true ∧ ps.length ≤ 10
theorem d_are_full_patterns (D : Dfn K mg "are_full_patterns" s_are_full_patterns ["slots", "value"]) (B : Bl mg) (D_is_pattern_over : DefOk P w K mg base "is_pattern_over" ["slots", "value"] 3 S_is_pattern_over) (D_is_rising : DefOk P w K mg base "is_rising" ["values"] 1 S_is_rising) : DefOk P w K mg base "are_full_patterns" ["slots", "value"] 4 S_are_full := by
  refine dfnOk D sc_are_full_patterns (fun ws mu P ⟨⟨ss, ps, e, _⟩, _⟩ => by rw [e]; rfl) (fun f cdv A outer s H E hr ws mu Pt ⟨⟨ss, ps, e, nm, ok, up, len⟩, h⟩ => ?_)
  subst e
  have hu65 : (A.deeper (PyProof.Rows.envOfC "are_full_patterns" (defScope s_are_full_patterns) s.heap.objs.size f cdv)).units + 65 < cLine := by have := hr.un; omega
  refine sss_cons ?_
  refine ss_if ?_
  refine st_of_w ?_
  refine sw_or ?_
  refine st_not ?_
  refine st_val ?_
  refine se_isi (T := "tuple") ?_ B.isinstance B.tuple
  refine se_var (i := 1) rfl ?_  -- value
  refine ⟨"tuple", true, rfl, by decide +kernel, ?_⟩
  refine sw_or1 ?_
  refine st_not ?_
  refine st_val ?_
  refine se_all ?_ B.all
  refine se_lc (own := [("pattern", 2)]) (.nm 2) rfl sc_are_full_patterns.nd (blkOk_by (N := ["slots", "value", "pattern"]) (sc := defScope s_are_full_patterns) (by decide +kernel)) rfl (fun _ _ _ _ _ => (pg_name (i := 2) sc_are_full_patterns.nd rfl (Or.inl rfl))) (by intro _; rfl) ?_  -- [is_pattern_over(slots, pattern) for pattern in value]
  refine si_tup ?_
  refine se_var (i := 1) rfl ?_  -- value
  refine lc_all_t (fun _ _ => trivial) (by rw [List.length_map]; exact lt10 len) InBlk.mono ?_ ?_
  · intro w mu' hw he
    obtain ⟨p, hp, rfl⟩ := List.mem_map.mp hw
    refine ⟨_, rfl, fun s H C cl fp => ?_⟩
    refine se_callD D_is_pattern_over (hr.mono (by decide)) ?_
    refine sa_cons ?_
    refine se_var (i := 0) rfl ?_  -- slots
    refine sa_cons ?_
    refine se_var (i := 2) rfl ?_  -- pattern
    refine sa_nil ?_
    exact ⟨⟨ss, _, p, rfl, .inl rfl, nm, (ok p hp).1⟩, fun mu4 e4 => ⟨rfl, e4⟩⟩
  intro mu1 e1
  refine sss_nil ?_
  refine sss_cons ?_
  refine ss_ret ?_
  refine se_and ?_
  refine se_callD D_is_rising (hr.mono (by decide)) ?_
  refine sa_cons ?_
  refine se_var (i := 1) rfl ?_  -- value
  refine sa_nil ?_
  refine ⟨ps.map ptW, _, rfl, .inl rfl, okUs_pt (lt10 len), fun r mu2 e2 e3 => ?_⟩
  rw [e2, up]
  refine se_one ?_
  refine se_cmp (op_notInT hu65) (in_w true) (by rfl) ?_  -- () not in value
  refine se_tup ?_
  refine sa_nil ?_
  refine ⟨by decide, ?_⟩
  refine se_var (i := 1) rfl ?_  -- value
  refine ⟨by simp [plW, plsW], by decide, dats (ps.map ptW), ?_, ?_, ?_⟩
  · show (if plsW (ps.map ptW) = true then some (dats (ps.map ptW)) else none) = _
    rw [if_pos (plains_map _ plain_pt ps)]
  · rw [dats_map]
    exact lay_all _ fun p hp => lay_pt (pt_names nm (ok p hp).1.pr)
  · have : ((dats (ps.map ptW)).any fun z => PyData.eqv z (dat (W.tup []))) = false := by
      rw [dats_map, List.any_eq_false]
      intro z hz
      obtain ⟨p, hp, rfl⟩ := List.mem_map.mp hz
      cases p with
      | nil => exact absurd rfl (ok [] hp).2
      | cons q r => simp [ptW, dat, dats, PyData.eqv, PyData.eqvAll]
    rw [this]
    exact h _ (e1.trans e3)

abbrev s_is_pattern_at : Stmt := top 40
theorem sc_is_pattern_at : FnScope ["slots", "house", "value", "slot"] ["slots", "house", "value"] (defScope s_is_pattern_at) := ⟨rfl, rfl, rfl, by decide +kernel, rfl, by decide +kernel, by decide +kernel⟩
def atHome (h : Str) (s : Slot) : Bool := decide (s.2.1 = h)
def S_is_pattern_at : SpW := S_t fun ws mu => ∃ ss ho p, ws = [slsW ss, .str ho, ptW p] ∧ SsNm ss ∧ NmOk ho ∧ PtOk (ss.filter (atHome ho)) p
theorem d_is_pattern_at (D : Dfn K mg "is_pattern_at" s_is_pattern_at ["slots", "house", "value"]) (B : Bl mg) (D_is_pattern_over : DefOk P w K mg base "is_pattern_over" ["slots", "value"] 3 S_is_pattern_over) : DefOk P w K mg base "is_pattern_at" ["slots", "house", "value"] 4 S_is_pattern_at := by
  refine dfnOk D sc_is_pattern_at (fun ws mu P ⟨⟨ss, ho, p, e, _⟩, _⟩ => by rw [e]; rfl) (fun f cdv A outer s H E hr ws mu Pt ⟨⟨ss, ho, p, e, nm, hn, ok⟩, h⟩ => ?_)
  subst e
  have hu65 : (A.deeper (PyProof.Rows.envOfC "is_pattern_at" (defScope s_is_pattern_at) s.heap.objs.size f cdv)).units + 65 < cLine := by have := hr.un; omega
  refine sss_cons ?_
  refine ss_ret ?_
  refine se_callD D_is_pattern_over (hr.mono (by decide)) ?_
  refine sa_cons ?_
  refine se_lc1 (own := [("slot", 3)]) (.nm 3) rfl sc_is_pattern_at.nd (blkOk_by (N := ["slots", "house", "value", "slot"]) (sc := defScope s_is_pattern_at) (by decide +kernel)) rfl (fun _ _ _ _ _ => (pg_name (i := 3) sc_is_pattern_at.nd rfl (Or.inl rfl))) (by intro _; rfl) ?_  -- [slot for slot in slots if slot[1] == house]
  refine si_tup ?_
  refine se_var (i := 0) rfl ?_  -- slots
  refine lc_filter (fun w => match w with | .tup [_, .str x, _] => decide (x = ho) | _ => false) (fun w => w) (fun _ _ => trivial) (by rw [List.length_map]; exact lt10 (Nat.le_trans nm.len (by decide))) ?_ InBlk.mono ?_
  · intro w mu' hw he
    obtain ⟨t, ht, rfl⟩ := List.mem_map.mp hw
    refine ⟨_, rfl, fun s H C cl fp => ?_⟩
    refine st_cmp (op_eqD hr.units) eq_w (nomark _) ?_  -- slot[1] == house
    refine se_ix ?_  -- slot[1]
    refine se_var (i := 3) rfl ?_  -- slot
    refine se_int ?_  -- 1
    refine ⟨_, rfl, ?_⟩
    refine se_var (i := 1) rfl ?_  -- house
    refine eq_strs (nm.nm t ht).2.1 hn ?_
    refine ⟨rfl, Ext.refl, fun _ s H C cl fp => ?_⟩
    refine se_var (i := 3) rfl ?_  -- slot
    exact ⟨rfl, Ext.refl⟩
  have em : ((ss.map slW1).filter fun w => match w with | .tup [_, .str x, _] => decide (x = ho) | _ => false).map (fun w => w) = (ss.filter (atHome ho)).map slW1 := by
    rw [List.map_id', List.filter_map]
    rfl
  rw [em]
  intro D mu' hD he he2
  refine sa_cons ?_
  refine se_var (i := 2) rfl ?_  -- value
  refine sa_nil ?_
  exact ⟨⟨_, _, p, rfl, .inr ⟨D, rfl, setM_same⟩, nm.filter _, ok⟩, fun mu4 e4 => h _ (he2.trans e4)⟩

abbrev s_is_lapse : Stmt := top 41
theorem sc_is_lapse : FnScope ["slots", "value", "house", "needs", "makes"] ["slots", "value"] (defScope s_is_lapse) := ⟨rfl, rfl, rfl, by decide +kernel, rfl, by decide +kernel, by decide +kernel⟩
structure LpOk (ss : List Slot) (l : Lap) : Prop where
  ho : NmOk l.1
  needs : PtOk (ss.filter (atHome l.1)) l.2.1
  makes : PtOk (ss.filter (atHome l.1)) l.2.2
  some_ : l.2.2 ≠ []
def S_is_lapse : SpW := S_t fun ws mu => ∃ ss l, ws = [slsW ss, lpW l] ∧ SsNm ss ∧ LpOk ss l
theorem d_is_lapse (D : Dfn K mg "is_lapse" s_is_lapse ["slots", "value"]) (B : Bl mg) (D_is_tuple : DefOk P w K mg base "is_tuple" ["value", "least", "most"] 1 S_is_tuple) (D_is_pattern_at : DefOk P w K mg base "is_pattern_at" ["slots", "house", "value"] 4 S_is_pattern_at) : DefOk P w K mg base "is_lapse" ["slots", "value"] 5 S_is_lapse := by
  refine dfnOk D sc_is_lapse (fun ws mu P ⟨⟨ss, l, e, _⟩, _⟩ => by rw [e]; rfl) (fun f cdv A outer s H E hr ws mu Pt ⟨⟨ss, l, e, nm, ok⟩, h⟩ => ?_)
  subst e
  have hu65 : (A.deeper (PyProof.Rows.envOfC "is_lapse" (defScope s_is_lapse) s.heap.objs.size f cdv)).units + 65 < cLine := by have := hr.un; omega
  refine sss_cons ?_
  refine ss_if ?_
  refine st_not ?_
  refine st_val ?_
  refine se_callD D_is_tuple (hr.mono (by decide)) ?_
  refine sa_cons ?_
  refine se_var (i := 1) rfl ?_  -- value
  refine sa_cons ?_
  refine se_int ?_  -- 3
  refine sa_cons ?_
  refine se_int ?_  -- 3
  refine sa_nil ?_
  refine ⟨_, 3, 3, rfl, fun r mu1 e e1 => ?_⟩
  obtain rfl : r = true := bit (a := 3) (b := 3) e (Nat.le_refl _) (Nat.le_refl _)
  refine sss_nil ?_
  refine sss_cons ?_
  refine ss_asg ?_
  refine se_var (i := 1) rfl ?_  -- value
  refine sg_tup ?_
  refine sgs_cons (sg_name (i := 2) ?_ sc_is_lapse.nd)
  refine sgs_cons (sg_name (i := 3) ?_ sc_is_lapse.nd)
  refine sgs_cons (sg_name (i := 4) ?_ sc_is_lapse.nd)
  refine sgs_nil ?_
  refine sss_cons ?_
  refine ss_ret ?_
  refine se_and ?_
  refine se_callD D_is_pattern_at (hr.mono (by decide)) ?_
  refine sa_cons ?_
  refine se_var (i := 0) rfl ?_  -- slots
  refine sa_cons ?_
  refine se_var (i := 2) rfl ?_  -- house
  refine sa_cons ?_
  refine se_var (i := 3) rfl ?_  -- needs
  refine sa_nil ?_
  refine ⟨⟨ss, l.1, l.2.1, rfl, nm, ok.ho, ok.needs⟩, fun mu2 e2 => ?_⟩
  refine bW_t rfl ?_
  refine se_and ?_
  refine se_callD D_is_pattern_at (hr.mono (by decide)) ?_
  refine sa_cons ?_
  refine se_var (i := 0) rfl ?_  -- slots
  refine sa_cons ?_
  refine se_var (i := 2) rfl ?_  -- house
  refine sa_cons ?_
  refine se_var (i := 4) rfl ?_  -- makes
  refine sa_nil ?_
  refine ⟨⟨ss, l.1, l.2.2, rfl, nm, ok.ho, ok.makes⟩, fun mu3 e3 => ?_⟩
  refine bW_t rfl ?_
  refine se_one ?_
  refine se_cmp (op_neD hr.units) ne_w (nomark _) ?_  -- makes != ()
  refine se_var (i := 4) rfl ?_  -- makes
  refine se_tup ?_
  refine sa_nil ?_
  refine ⟨by decide, ?_⟩
  have nms := pt_names (nm.filter _) ok.makes.pr
  have sh : SeqAt.shaped (dat (ptW l.2.2)) = true := by
    unfold SeqAt.shaped
    rw [lay_pt nms, decide_eq_true (Nat.le_trans (depth_pt _) (by decide))]
    rfl
  refine ⟨dat (ptW l.2.2), dat (.tup []), ?_, ?_, sh, by decide, ?_⟩
  · show (if plW (ptW l.2.2) = true then some (dat (ptW l.2.2)) else none) = _
    rw [if_pos (plain_pt _)]
  · rfl
  · have : PyData.eqv (dat (ptW l.2.2)) (dat (W.tup [])) = false := by
      obtain ⟨a, b, mk⟩ := l
      cases mk with
      | nil => exact absurd rfl ok.some_
      | cons q r => simp [ptW, dat, dats, PyData.eqv, PyData.eqvAll]
    rw [this]
    exact h _ (((e1.trans e2).trans e3))

abbrev s_first_stand : Stmt := top 35
theorem sc_first_stand : FnScope ["slots", "_", "words"] ["slots"] (defScope s_first_stand) := ⟨rfl, rfl, rfl, by decide +kernel, rfl, by decide +kernel, by decide +kernel⟩
def firstS (ss : List Slot) : List Str := ss.map fun s => s.2.2.headD ""
def S_first : SpW := fun ws mu P => ∃ ss, ws = [slsW ss] ∧ ss.length ≤ 10 ∧ (∀ s ∈ ss, s.2.2 ≠ []) ∧ ∀ mu', Ext mu mu' → P (nmW (firstS ss)) mu'

theorem d_first_stand (D : Dfn K mg "first_stand" s_first_stand ["slots"]) (B : Bl mg) : DefOk P w K mg base "first_stand" ["slots"] 1 S_first := by
  refine dfnOk D sc_first_stand (fun ws mu P ⟨ss, e, _⟩ => by rw [e]; rfl) (fun f cdv A outer s H E hr ws mu Pt ⟨ss, e, len, ne, h⟩ => ?_)
  subst e
  have hu65 : (A.deeper (PyProof.Rows.envOfC "first_stand" (defScope s_first_stand) s.heap.objs.size f cdv)).units + 65 < cLine := by have := hr.un; omega
  refine sss_cons ?_
  refine ss_ret ?_
  refine se_tupleC ?_ B.tuple
  refine se_lc (own := [("_", 1), ("words", 2)]) (.tp [(.nm 1), (.nm 1), (.nm 2)]) rfl sc_first_stand.nd (blkOk_by (N := ["slots", "_", "words"]) (sc := defScope s_first_stand) (by decide +kernel)) rfl (fun _ _ _ _ _ => (pg_tup rfl (pgs_cons (pg_name (i := 1) sc_first_stand.nd rfl (Or.inl rfl)) (pgs_cons (pg_name (i := 1) sc_first_stand.nd rfl (Or.inl rfl)) (pgs_cons (pg_name (i := 2) sc_first_stand.nd rfl (Or.inl rfl)) pgs_nil))))) (by intro _; rfl) ?_  -- [words[0] for _, _, words in slots]
  refine si_tup ?_
  refine se_var (i := 0) rfl ?_  -- slots
  refine lc_pure (fun w => match w with | .tup [_, _, .tup (x :: _)] => x | _ => .str "") (fun _ _ => trivial) (by rw [List.length_map]; exact lt10 len) ?_ InBlk.mono ?_
  · intro w mu' hw he
    obtain ⟨t, ht, rfl⟩ := List.mem_map.mp hw
    refine ⟨_, rfl, fun s H C cl fp => ?_⟩
    refine se_ix ?_  -- words[0]
    refine se_var (i := 2) rfl ?_  -- words
    refine se_int ?_  -- 0
    obtain ⟨n, ho, wd⟩ := t
    cases wd with
    | nil => exact absurd rfl (ne _ ht)
    | cons x r => exact ⟨.str x, atI_nat' (i := 0) rfl, rfl, Ext.refl⟩
  have em : (ss.map slW1).map (fun w => match w with | .tup [_, _, .tup (x :: _)] => x | _ => W.str "") = stW (firstS ss) := by
    unfold stW firstS
    rw [List.map_map, List.map_map]
    refine List.map_congr_left fun t ht => ?_
    obtain ⟨n, ho, wd⟩ := t
    cases wd with
    | nil => rfl
    | cons x r => rfl
  rw [em]
  intro D mu' hD he he2
  exact ⟨_, setM_same, h _ he2⟩
end
end K1
set_option Elab.async false
set_option linter.all false
set_option maxRecDepth 100000
/-! Dict comprehensions; sorted of data; stars; comprehensions of two fors. -/
namespace Dv
open PySem L2
section
variable {X : Cx} {e a b c : Expr} {es : List Expr} {st : Stmt} {sts : List Stmt} {G : Gs} {mu mu' : Mu} {pos p apos cpos : Pos} {P : PW1}
abbrev dcPost (B : (Cx → Prop) → Prop) (T : Tg) (kx vx : Expr) (vs : List Nat) (G : Gs) (P : PW1) : List W → (Mu → Prop) → Mu → Prop := fun ws Gm mu1 => ∀ D, mu1 D = none → ∃ I : Nat → List (Key × W) → Mu → Prop, I 0 [] mu1 ∧ (∀ i acc mu', i ≤ ws.length → I i acc mu' → Gm mu') ∧
  (∀ i w acc mu', ws[i]? = some w → I i acc mu' → acc.length < sizeLine ∧ (acc.map (·.1)).Nodup ∧ ∃ G2, T.bind w (wipeG G vs) = some G2 ∧ B fun Y => SE Y kx G2 mu' fun kw mu3 => ∃ k, keyOf kw = some k ∧ B fun Z => SE Z vx G2 mu3 fun r mu4 => I (i + 1) (putW acc k r) mu4) ∧
  ∀ acc mu', I ws.length acc mu' → P (.m D) (setM mu' D (.dic acc))
theorem dc_rd {scope : Scope} {own : List (Str × Nat)} {tg iter kx vx : Expr} (T : Tg) {P : PW1} {σ : St} {H : Hp} {Q : VK} (ha : T.all (fun i => decide (i ∈ own.map (·.2))) = true) (d : DenG X.K H G σ) (m : HM X.K H mu) (k : Kont X.K mu H P Q)
    (h : SI X tg iter G mu (dcPost (InBlk X scope) T kx vx (own.map (·.2)) G P)) :
    tDc (tI X tg iter) (gT X.K T) tYes (fun σ2 H2 Q2 => ∀ (s : Shared) (H : Hp) (C : Addr) (cl : List (Str × Addr)) (fp : List Addr), tE (X.blk s H scope (compEnvC scope cl C X.env) fp) kx σ2 H2 Q2)
      (fun σ2 H2 Q2 => ∀ (s : Shared) (H : Hp) (C : Addr) (cl : List (Str × Addr)) (fp : List Addr), tE (X.blk s H scope (compEnvC scope cl C X.env) fp) vx σ2 H2 Q2) (own.map (·.2)) σ H Q := by
  refine h σ H _ d m fun J ws Gm mu1 H1 hI c1 m1 ⟨Gh, Y, wk, hg, hy⟩ D hD => ?_
  obtain ⟨I, i0, ig, it, ie⟩ := hI D (m1.dom hD)
  obtain ⟨c0, m0⟩ := laid (o := .dK []) m1 hD
  refine ⟨fun i n H' => n = ws.length - i ∧ i ≤ ws.length ∧ ∃ acc mu' xs, I i acc mu' ∧ H' D = some (.dK xs) ∧ DKV X.K H' acc xs ∧ mu' D = none ∧ HM X.K H' mu' ∧ Chg mu1 H1 mu' H',
    ⟨ws.length, by simp, Nat.zero_le _, [], mu1, [], i0, upd_same, ⟨rfl, rfl⟩, m1.dom hD, m0, c0⟩, ?_⟩
  rintro i n H' ⟨rfl, hi, acc, mu', xs, q, hx, dx, nD, m2, c2⟩
  have gh := hg mu' H' c2 m2 (ig i acc mu' hi q)
  by_cases hlt : i < ws.length
  · refine .inr ⟨wk.goes i H' hlt gh, fun H' => ∃ acc mu' xs, I (i + 1) acc mu' ∧ H' D = some (.dK xs) ∧ DKV X.K H' acc xs ∧ mu' D = none ∧ HM X.K H' mu' ∧ Chg mu1 H1 mu' H', fun H'' hN => ⟨ws.length - (i + 1), by omega, rfl, hlt, hN⟩, fun x H'' y => ?_⟩
    obtain ⟨w, hw, c3, m3, d3⟩ := hy i H' x H'' mu' hlt c2 m2 (ig i acc mu' hi q) (wk.yields i H' x H'' hlt gh y)
    obtain ⟨hl, hn, G2, hb, he⟩ := it i w acc mu' hw q
    have dw : DenG X.K H'' (wipeG G (own.map (·.2))) (wipe σ (own.map (·.2))) := c3.denG m2 (c2.denG m1 (c1.denG m (wipeG_den d _)))
    refine gT_run T hb ha dw d3 fun σ2 d2 e2 => ⟨e2.trans wipe_wipe, ?_⟩
    simp only [tYes, if_true]
    intro s Hs C cl fp
    refine he s Hs C cl fp σ2 H'' _ d2 m3 fun kv kw mu4 H4 h4 c4 d4 m4 s' Hs' C' cl' fp' => ?_
    obtain ⟨kk, hk, hv⟩ := h4
    refine hv s' Hs' C' cl' fp' σ2 H4 _ (c4.denG m3 d2) m4 fun v r mu5 H5 h5 c5 d5 m5 => ?_
    have hx5 := c5.keep _ _ (c4.keep _ _ (c3.keep _ _ hx nD) nD) (c4.new _ _ (c3.keep _ _ hx nD) nD)
    have nD5 := c5.new _ _ (c4.keep _ _ (c3.keep _ _ hx nD) nD) (c4.new _ _ (c3.keep _ _ hx nD) nD)
    have dx5 : DKV X.K H5 acc xs := ⟨dx.1, c5.denAll m4 (c4.denAll m3 (c3.denAll m2 dx.2))⟩
    have sq : ∀ a ys, SqT X.K H5 a ys → SqT X.K (upd H5 D (.dK (putK xs kk v))) a ys := fun a ys s => by
      rcases s with (s | ⟨o, s⟩) | s
      · exact .inl (.inl (by rw [upd_ne (ne_of s hx5 (by intro z; cases z))]; exact s))
      · exact .inl (.inr ⟨o, by rw [upd_ne (ne_of s hx5 (by intro z; cases z))]; exact s⟩)
      · exact .inr s
    have cc := ((c2.trans c3).trans c4).trans c5
    refine ⟨xs, kk, keyOf_den hk d4, hx5, ?_, putW acc kk r, mu5, putK xs kk v, h5, upd_same, ?_, nD5, fun a cc ha => CellOk.mono sq (m5 a cc ha) (upd_ne fun z => by subst z; rw [nD5] at ha; cases ha), ⟨fun b o e n => by rw [upd_ne (ne_of_none e hD)]; exact cc.keep b o e n, cc.old, cc.new⟩⟩
    · have := congrArg List.length dx.1
      simp only [List.length_map] at this
      omega
    · have := dx5.put hn d5 (k := kk)
      exact ⟨this.1, DenAll.mono sq _ this.2⟩
  · have ei : i = ws.length := by omega
    subst ei
    refine .inl ⟨wk.stops H' gh, k (.ref D) (.m D) (setM mu' D (.dic acc)) H' (ie acc mu' q) (c1.trans ⟨c2.keep, fun b cc e => ?_, fun b o e n => ?_⟩) rfl fun a cc ha => ?_⟩
    · by_cases z : b = D
      · subst z; exact ⟨_, setM_same⟩
      · rw [setM_ne z]; exact c2.old b cc e
    · rw [setM_ne (ne_of_none e hD)]
      exact c2.new b o e n
    · by_cases z : a = D
      · subst z
        rw [setM_same] at ha
        cases ha
        exact ⟨xs, hx, dx.1, dx.2⟩
      · rw [setM_ne z] at ha
        exact m2 a cc ha
theorem se_dc {scope : Scope} {own : List (Str × Nat)} {tg iter kx vx : Expr} (T : Tg) (hc : X.calm = true) (hN : X.N.Nodup) (ok : BlkOk X.N X.env.scope scope own) (ha : T.all (fun i => decide (i ∈ own.map (·.2))) = true)
    (hg : ∀ (s : Shared) (H : Hp) (C : Addr) (cl : List (Str × Addr)) (fp : List Addr), PG (X.blk s H scope (compEnvC scope cl C X.env) fp) tg (gT X.K T)) (hs : ∀ x, foldedSetIterable iter X.env x = pure x)
    (h : SI X tg iter G mu (dcPost (InBlk X scope) T kx vx (own.map (·.2)) G P)) : SE X (.DictComp kx vx [⟨tg, iter, [], 0⟩] scope pos) G mu P :=
  SE.mk (pe_dc hc hN piI ok hg (fun _ _ _ _ _ => pts_nil) (fun s H C cl fp => ⟨fun pins s' σ H' Q I h => h s H C cl fp pins s' I⟩) (fun s H C cl fp => ⟨fun pins s' σ H' Q I h => h s H C cl fp pins s' I⟩) hs) fun σ H Q d m k => dc_rd T ha d m k h
/-! two fors, the elements leave the cells as they are -/
def Ext' (mu mu' : Mu) : Prop := ∀ a c, mu a = some c → mu' a = some c
theorem lc2_rd {scope : Scope} {own : List (Str × Nat)} {vs1 : List Nat} {tg iter tg1 iter1 elt : Expr} (T T1 : Tg) {P : PW1} {σ : St} {H : Hp} {Q : VK} (ha : T.all (fun i => decide (i ∈ own.map (·.2))) = true) (ha1 : T1.all (fun i => decide (i ∈ vs1)) = true) (d : DenG X.K H G σ) (m : HM X.K H mu) (k : Kont X.K mu H P Q)
    (h : SI X tg iter G mu fun ws Gm mu1 => (∀ mu', Ext mu1 mu' → Gm mu') ∧ ∃ (us : W → List W) (g : W → W → W), (ws.flatMap fun w => (us w).map (g w)).length ≤ sizeLine ∧
      (∀ w ∈ ws, ∃ G2, T.bind w (wipeG G (own.map (·.2))) = some G2 ∧ ∀ mu', Ext mu1 mu' → InBlk X scope fun Y => SI Y tg1 iter1 G2 mu' fun us' Gm' mu2 => us' = us w ∧ mu2 = mu' ∧ (∀ mu'', Ext mu1 mu'' → Gm' mu'') ∧ ∀ u ∈ us w, ∃ G3, T1.bind u (wipeG G2 vs1) = some G3 ∧ ∀ mu'', Ext mu1 mu'' → InBlk X scope fun Z => SE Z elt G3 mu'' fun r mu4 => r = g w u ∧ mu4 = mu'') ∧
      ∀ D, mu1 D = none → P (.m D) (setM mu1 D (.lst (ws.flatMap fun w => (us w).map (g w))))) :
    tLc2 (tI X tg iter) (gT X.K T) tYes (fun σ2 H2 R2 => ∀ (s : Shared) (H : Hp) (C : Addr) (cl : List (Str × Addr)) (fp : List Addr), tI (X.blk s H scope (compEnvC scope cl C X.env) fp) tg1 iter1 σ2 H2 R2) (gT X.K T1) tYes
      (fun σ2 H2 Q2 => ∀ (s : Shared) (H : Hp) (C : Addr) (cl : List (Str × Addr)) (fp : List Addr), tE (X.blk s H scope (compEnvC scope cl C X.env) fp) elt σ2 H2 Q2) (own.map (·.2)) vs1 σ H Q := by
  refine h σ H _ d m fun J ws Gm mu1 H1 ⟨hGm, us, g, hl, it, ie⟩ c1 m1 ⟨Gh, Y, wk, hg, hy⟩ D hD => ?_
  have nD := m1.dom hD
  have ex : ∀ c, Ext mu1 (setM mu1 D c) := fun c => Ext.refl.set nD
  obtain ⟨c0, m0⟩ := laidC (o := .lst []) (c := .lst []) m1 hD (newLst (ws := []) rfl)
  refine ⟨fun i n H' => n = ws.length - i ∧ i ≤ ws.length ∧ HM X.K H' (setM mu1 D (.lst ((ws.take i).flatMap fun w => (us w).map (g w)))) ∧ Chg mu1 H1 (setM mu1 D (.lst ((ws.take i).flatMap fun w => (us w).map (g w)))) H', ⟨ws.length, by simp, Nat.zero_le _, m0, c0⟩, ?_⟩
  rintro i n H' ⟨rfl, hi, m2, c2⟩
  have gh := hg _ H' c2 m2 (hGm _ (ex _))
  by_cases hlt : i < ws.length
  · refine .inr ⟨wk.goes i H' hlt gh, fun H' => HM X.K H' (setM mu1 D (.lst ((ws.take (i + 1)).flatMap fun w => (us w).map (g w)))) ∧ Chg mu1 H1 (setM mu1 D (.lst ((ws.take (i + 1)).flatMap fun w => (us w).map (g w)))) H', fun H'' hN => ⟨ws.length - (i + 1), by omega, rfl, hlt, hN⟩, fun x H'' y => ?_⟩
    obtain ⟨w, hw, c3, m3, d3⟩ := hy i H' x H'' _ hlt c2 m2 (hGm _ (ex _)) (wk.yields i H' x H'' hlt gh y)
    obtain ⟨G2, hb, hin⟩ := it w (List.mem_of_getElem? hw)
    have dw : DenG X.K H'' (wipeG G (own.map (·.2))) (wipe σ (own.map (·.2))) := c3.denG m2 (c2.denG m1 (c1.denG m (wipeG_den d _)))
    have tk : (ws.take (i + 1)).flatMap (fun w => (us w).map (g w)) = ((ws.take i).flatMap fun w => (us w).map (g w)) ++ (us w).map (g w) := by
      rw [List.take_add_one, hw, List.flatMap_append]
      simp
    rw [tk]
    have lenle : ∀ j, j < (us w).length → (((ws.take i).flatMap fun w => (us w).map (g w)) ++ ((us w).take j).map (g w)).length < sizeLine := fun j hj => by
      have q1 : ws = ws.take i ++ w :: ws.drop (i + 1) := by
        have := List.take_append_drop i ws
        rw [List.drop_eq_getElem_cons hlt] at this
        have hw' : ws[i] = w := by
          have := List.getElem?_eq_getElem hlt
          rw [hw] at this
          exact (Option.some.inj this).symm
        rw [hw'] at this
        exact this.symm
      have q2 : (ws.flatMap fun w => (us w).map (g w)).length = (((ws.take i).flatMap fun w => (us w).map (g w)) ++ ((us w).map (g w) ++ (ws.drop (i + 1)).flatMap fun w => (us w).map (g w))).length := by
        conv => lhs; rw [q1]
        rw [List.flatMap_append, List.flatMap_cons]
      rw [List.length_append, List.length_append, List.length_map] at q2
      rw [List.length_append, List.length_map, List.length_take]
      omega
    refine gT_run T hb ha dw d3 fun σ2 d2 e2 => ⟨e2.trans wipe_wipe, ?_⟩
    simp only [tYes, if_true]
    intro s Hs C cl fp
    refine hin _ (ex _) s Hs C cl fp σ2 H'' _ d2 m3 fun J1 us' Gm' mu2 H4 ⟨e3, e4, hGm', tn⟩ c4 m4 ⟨Gh1, Y1, wk1, hg1, hy1⟩ => ?_
    subst e3 e4
    have c24 := (c2.trans c3).trans c4
    generalize hacc : ((ws.take i).flatMap fun w => (us w).map (g w)) = acc at *
    refine ⟨fun j n H' => n = (us w).length - j ∧ j ≤ (us w).length ∧ Chg (setM mu1 D (.lst acc)) H4 (setM mu1 D (.lst (acc ++ ((us w).take j).map (g w)))) H' ∧ HM X.K H' (setM mu1 D (.lst (acc ++ ((us w).take j).map (g w)))), ⟨(us w).length, by simp, Nat.zero_le _, ?_, ?_⟩, ?_⟩
    · simp only [List.take_zero, List.map_nil, List.append_nil]
      exact Chg.refl
    · simp only [List.take_zero, List.map_nil, List.append_nil]
      exact m4
    rintro j n H5 ⟨rfl, hj, c5, m5⟩
    have gh1 := hg1 _ H5 c5 m5 (hGm' _ (ex _))
    by_cases hjl : j < (us w).length
    · refine .inr ⟨wk1.goes j H5 hjl gh1, fun H' => Chg (setM mu1 D (.lst acc)) H4 (setM mu1 D (.lst (acc ++ ((us w).take (j + 1)).map (g w)))) H' ∧ HM X.K H' (setM mu1 D (.lst (acc ++ ((us w).take (j + 1)).map (g w)))), fun H'' hN => ⟨(us w).length - (j + 1), by omega, rfl, hjl, hN⟩, fun x1 H6 y1 => ?_⟩
      obtain ⟨u, hu, c6, m6, d6⟩ := hy1 j H5 x1 H6 _ hjl c5 m5 (hGm' _ (ex _)) (wk1.yields j H5 x1 H6 hjl gh1 y1)
      obtain ⟨G3, hb3, he⟩ := tn u (List.mem_of_getElem? hu)
      have dG2 : DenG X.K H6 (wipeG G2 vs1) (wipe σ2 vs1) := c6.denG m5 (c5.denG m4 (c4.denG m3 (wipeG_den d2 vs1)))
      refine gT_run T1 hb3 ha1 dG2 d6 fun σ3 d7 e7 => ⟨e7.trans wipe_wipe, ?_⟩
      simp only [tYes, if_true]
      intro s Hs C cl fp
      refine he _ (ex _) s Hs C cl fp σ3 H6 _ d7 m6 fun v r mu4 H7 ⟨e8, e9⟩ c8 d8 m8 => ?_
      subst e8 e9
      have tku : acc ++ ((us w).take (j + 1)).map (g w) = (acc ++ ((us w).take j).map (g w)) ++ [g w u] := by
        rw [List.take_add_one, hu, List.map_append, List.append_assoc]
        rfl
      obtain ⟨ys, hy7, dy7⟩ := m8 D _ setM_same
      obtain ⟨c9, m9⟩ := wrote (o := .lst (ys ++ [v])) (c := .lst ((acc ++ ((us w).take j).map (g w)) ++ [g w u])) m8 setM_same (newLst (DenAll.append dy7 ⟨v, [], rfl, d8, rfl⟩))
      rw [setM_set, ← tku] at c9 m9
      exact ⟨ys, hy7, by rw [← dy7.length]; exact lenle j hjl, ((c5.trans c6).trans c8).trans c9, m9⟩
    · have ej : j = (us w).length := by omega
      subst ej
      rw [List.take_length] at c5 m5
      exact .inl ⟨wk1.stops H5 gh1, m5, c24.trans c5⟩
  · have ei : i = ws.length := by omega
    subst ei
    rw [List.take_length] at m2 c2
    exact .inl ⟨wk.stops H' gh, k (.ref D) (.m D) _ H' (ie D nD) (c1.trans c2) rfl m2⟩
theorem ss_setlc2 {E : WE} {i : Nat} {y : Str} {py spos : Pos} {scope : Scope} {own : List (Str × Nat)} {vs1 : List Nat} {tg iter tg1 iter1 elt : Expr} (T T1 : Tg) (hc : X.calm = true) (hN : X.N.Nodup) (hy : X.N[i]? = some y) (hyl : X.env.scope.names.lookup y = some .local)
    (hsw : swapsWith (.ListComp elt [⟨tg, iter, [], 0⟩, ⟨tg1, iter1, [], 0⟩] scope pos) (some (.Name y py)) spos.line X.env = pure true) (ok : BlkOk X.N X.env.scope scope own) (hv : ∀ i ∈ vs1, i ∈ own.map (·.2)) (ha : T.all (fun i => decide (i ∈ own.map (·.2))) = true) (ha1 : T1.all (fun i => decide (i ∈ vs1)) = true)
    (hg : ∀ (s : Shared) (H : Hp) (C : Addr) (cl : List (Str × Addr)) (fp : List Addr), PG (X.blk s H scope (compEnvC scope cl C X.env) fp) tg (gT X.K T)) (hg1 : ∀ (s : Shared) (H : Hp) (C : Addr) (cl : List (Str × Addr)) (fp : List Addr), PG (X.blk s H scope (compEnvC scope cl C X.env) fp) tg1 (gT X.K T1)) (hs : ∀ x, foldedSetIterable iter X.env x = pure x) (hs1 : ∀ env x, foldedSetIterable iter1 env x = pure x)
    (h : SI X tg iter G mu fun ws Gm mu1 => (∀ mu', Ext mu1 mu' → Gm mu') ∧ ∃ (us : W → List W) (g : W → W → W), (ws.flatMap fun w => (us w).map (g w)).length ≤ sizeLine ∧
      (∀ w ∈ ws, ∃ G2, T.bind w (wipeG G (own.map (·.2))) = some G2 ∧ ∀ mu', Ext mu1 mu' → InBlk X scope fun Y => SI Y tg1 iter1 G2 mu' fun us' Gm' mu2 => us' = us w ∧ mu2 = mu' ∧ (∀ mu'', Ext mu1 mu'' → Gm' mu'') ∧ ∀ u ∈ us w, ∃ G3, T1.bind u (wipeG G2 vs1) = some G3 ∧ ∀ mu'', Ext mu1 mu'' → InBlk X scope fun Z => SE Z elt G3 mu'' fun r mu4 => r = g w u ∧ mu4 = mu'') ∧
      ∀ D, mu1 D = none → E.nx (G.set i (some (.m D))) (setM mu1 D (.lst (ws.flatMap fun w => (us w).map (g w))))) : SS X (.Assign [.Name y py] (.ListComp elt [⟨tg, iter, [], 0⟩, ⟨tg1, iter1, [], 0⟩] scope pos) spos) G mu E :=
  SS.mk (ps_setLc2 hc hN hy hyl hsw piI ok hv hg (fun _ _ _ _ _ => pts_nil) (fun s H C cl fp => ⟨fun pins s' σ H' Q I h => h s H C cl fp pins s' I⟩) hg1 (fun _ _ _ _ _ => pts_nil) (fun s H C cl fp => ⟨fun pins s' σ H' Q I h => h s H C cl fp pins s' I⟩) hs hs1) fun σ H D d m k =>
    lc2_rd (P := fun w mu1 => E.nx (G.set i (some w)) mu1) T T1 ha ha1 d m (fun v w mu1 H1 h1 c1 d1 m1 => k.nx _ _ _ _ h1 c1 (DenG.set (c1.denG m d) d1) m1) h
/-! a star of a tuple -/
theorem sa_star {P : List W → Mu → Prop} {p : Pos} (h : SE X e G mu fun w mu1 => match w with | .tup us => SA X es G mu1 fun ws mu2 => P (us ++ ws) mu2 | _ => False) (hs : starEach (.Starred e p :: es) X.env = (true, eval e X.env) :: starEach es X.env := by rfl) : SA X (.Starred e p :: es) G mu P :=
  SA.mk (StX.pa_star peE paA hs) fun σ H Q d m k => h σ H _ d m fun v w mu1 H1 h1 c1 d1 m1 => by
    cases w with
    | tup us =>
      obtain ⟨a, xs, rfl, s, dx⟩ := d1
      exact ⟨a, xs, rfl, .inl s, h1 σ H1 _ (c1.denG m d) m1 fun vs ws mu2 H2 h2 c2 d2 m2 => k _ _ _ _ h2 (c1.trans c2) (DenAll.append (c2.denAll m1 dx) d2) m2⟩
    | _ => exact False.elim h1
/-! sorted of data -/
theorem dats_mapD : ∀ us : List W, dats us = us.map dat
  | [] => by simp [dats]
  | u :: us => by simp [dats, dats_mapD us]
theorem each_zip {K : PySem.W.Frag} {H : Hp} : ∀ {us : List W} {xs : List V} {its : List Value}, DenAll K H us xs → Vals xs its → PySem.W.EachIs (fun u (b : V × W) => RelV b.1 u) its (xs.zip us)
  | [], xs, its, d, r => by
    have d : xs = [] := d
    subst d
    cases r
    exact .nil
  | u :: us, _, its, ⟨v, xs, e, d1, d2⟩, r => by
    subst e
    cases r with
    | cons r1 r2 => exact .cons r1 (each_zip d2 r2)
theorem each_reads {X : Cx} {pins : List (Addr × Obj)} {σ : St} {H : Hp} {s : Shared} (I : Inv X pins σ H s) : ∀ {us : List W} {xs : List V} {its : List Value}, plsW us = true → DenAll X.K H us xs → Vals xs its → PySem.W.EachIs (fun u (b : V × W) => ∃ as, Reads s.heap u (dat b.2) as) its (xs.zip us)
  | [], xs, its, _, d, r => by
    have d : xs = [] := d
    subst d
    cases r
    exact .nil
  | u :: us, _, its, p, ⟨v, xs, e, d1, d2⟩, r => by
    subst e
    unfold plsW at p
    rw [Bool.and_eq_true] at p
    cases r with
    | cons r1 r2 => exact .cons (Dp.reads I (dat u) v _ (Den.dp u p.1 d1) r1) (each_reads I p.2 d2 r2)
theorem each_vals : ∀ {bs : List (V × W)} {out : List Value}, PySem.W.EachIs (fun u (b : V × W) => RelV b.1 u) out bs → Vals (bs.map (·.1)) out
  | _, _, .nil => .nil
  | _, _, .cons r t => .cons r (each_vals t)
theorem zip_snd {K : PySem.W.Frag} {H : Hp} {us : List W} {xs : List V} (d : DenAll K H us xs) : (xs.zip us).map (·.2) = us := by
  have := d.length
  rw [List.map_snd_zip]
  omega
theorem zip_den {K : PySem.W.Frag} {H : Hp} : ∀ {us : List W} {xs : List V}, DenAll K H us xs → ∀ b ∈ xs.zip us, Den K H b.2 b.1
  | [], xs, d, b, hb => by simp at hb
  | u :: us, _, ⟨v, xs, e, d1, d2⟩, b, hb => by
    subst e
    rcases List.mem_cons.mp hb with rfl | hb
    · exact d1
    · exact zip_den d2 b hb
theorem denAll_of {K : PySem.W.Frag} {H : Hp} : ∀ {bs : List (V × W)}, (∀ b ∈ bs, Den K H b.2 b.1) → DenAll K H (bs.map (·.2)) (bs.map (·.1))
  | [], _ => rfl
  | b :: bs, h => ⟨b.1, _, rfl, h b (by simp), denAll_of fun c hc => h c (by simp [hc])⟩
theorem mem_dats {us : List W} {d : PyData} : d ∈ dats us ↔ ∃ u ∈ us, d = dat u := by
  induction us with
  | nil => simp [dats]
  | cons u us ih => simp [dats, ih]
def leW (a b : W) : Bool := PySem.W.dataLe false (fun w : W => dat w) a b
def rSortW (K : PySem.W.Frag) : List V → Hp → VK → Prop := fun vs H Q => ∃ (a : Addr) (xs : List V) (us : List W), vs = [.ref a] ∧ SqL K H a xs ∧ DenAll K H us xs ∧ plsW us = true ∧ PySem.W.AllAlike (dats us) ∧ PySem.W.Sortable (dats us) ∧ us.length ≤ sizeLine ∧ (∀ u ∈ us, (dat u).depth ≤ 64) ∧
  ∀ p ys, H p = none → DenAll K H (us.mergeSort leW) ys → Q (.ref p) (upd H p (.lst ys))
theorem cr_sortedW {j : Nat} (hr : Room j X.A) : CallR X (.builtin "sorted") (rSortW X.K) := by
  intro pins s σ H vs us' Q I r h
  obtain ⟨a, xs, us, rfl, hs, dx, pl, al, so, hl, dp, q⟩ := h
  obtain ⟨its, rv, pL, hz⟩ := I.list hs
  cases r with
  | cons ra rn =>
    cases rn
    cases ra
    have em : (xs.zip us).map (fun b => dat b.2) = dats us := by
      have := congrArg (List.map dat) (zip_snd dx)
      rw [List.map_map] at this
      rw [show dats us = us.map dat from by simpa using dats_mapD us]
      exact this
    have hlen : (xs.zip us).length = us.length := by rw [List.length_zip, ← dx.length]; omega
    refine PySem.W.sorted_data (β := V × W) (bs := xs.zip us) (enc := fun b => dat b.2) pL.isList (each_zip dx rv) (each_reads I pl dx rv) (by rw [em]; exact al) (by rw [em]; exact so) (by rw [hlen]; exact hl) (fun b hb => ?_) fun out ho he => ?_
    · have := dp b.2 (List.of_mem_zip hb).2
      have := hr.un
      omega
    · obtain ⟨c, hc⟩ := PyProof.Rows.sortedAll_at s.heap its out.toArray
      have hp : s.heap.objs.size ≤ s.heap.objs.size + 1 := Nat.le_succ _
      have hn : H (s.heap.objs.size + 1) = none := I.hok.fresh hp
      have rel := each_vals he
      have dn : DenAll X.K H (us.mergeSort leW) (((xs.zip us).mergeSort (PySem.W.dataLe false fun b => dat b.2)).map (·.1)) := by
        have h1 := denAll_of (K := X.K) (H := H) (bs := (xs.zip us).mergeSort (PySem.W.dataLe false fun b => dat b.2)) fun b hb => zip_den dx b ((List.mergeSort_perm _ _).mem_iff.mp hb)
        have h2 : ((xs.zip us).mergeSort (PySem.W.dataLe false fun b => dat b.2)).map (·.2) = us.mergeSort leW := by
          exact (PySem.W.sort_maps (r := PySem.W.dataLe false fun b : V × W => dat b.2) (s := leW) (l := xs.zip us) (fun b : V × W => b.2) fun a _ b _ => rfl).trans (by rw [zip_snd dx])
        rw [h2] at h1
        exact h1
      refine ⟨.ref (s.heap.objs.size + 1), upd H (s.heap.objs.size + 1) (.lst _), I.laid (t' := s.toks) (fun _ _ => PyProof.Rows.sortedAll_old) hp ⟨?_, out, c, rel, hc⟩, rfl, q _ _ hn dn⟩
      rw [List.length_map, List.length_mergeSort, hlen]
      exact hl
abbrev sortedW (ws : List W) (mu : Mu) (P : PW1) : Prop := match ws with | [.m a] => ∃ us, mu a = some (.lst us) ∧ plsW us = true ∧ PySem.W.AllAlike (dats us) ∧ PySem.W.Sortable (dats us) ∧ us.length ≤ sizeLine ∧ (∀ u ∈ us, (dat u).depth ≤ 64) ∧ ∀ p, mu p = none → P (.m p) (setM mu p (.lst (us.mergeSort leW))) | _ => False
theorem sorted_w : CallW X (rSortW X.K) sortedW := fun ws vs mu H P Q d m h k => by
  unfold sortedW at h
  split at h
  · rename_i a
    obtain ⟨us, h1, pl, al, so, hl, dp, q⟩ := h
    obtain ⟨v, rfl, dv⟩ := d.one
    have dv : v = .ref a := dv
    subst dv
    obtain ⟨xs, hx, dx⟩ := m a _ h1
    refine ⟨a, xs, us, rfl, SqL.of hx, dx, pl, al, so, hl, dp, fun p ys hp dy => ?_⟩
    obtain ⟨c2, m2⟩ := laidC (o := .lst ys) (c := .lst (us.mergeSort leW)) m hp (newLst dy)
    exact k _ _ _ _ (q p (m.dom hp)) c2 rfl m2
  · exact h.elim
theorem se_sorted {j : Nat} (hr : Room j X.A) (h : SE X e G mu fun w mu1 => sortedW [w] mu1 P) (hm : X.mg "sorted" = none) (hg : Gl X "sorted" := by rfl) (he : starEach [e] X.env = [(false, eval e X.env)] := by rfl) (hpl : (backTo pos (starEach [] X.env)).any (·.1) = false := by rfl) :
    SE X (.Call (.Name "sorted" p) [e] [] pos) G mu P := se_blt (cr_sortedW hr) sorted_w hm (sa_one h he) (by decide +kernel) hg (by decide) (by decide) he hpl
end
end Dv
set_option Elab.async false
set_option linter.all false
set_option maxRecDepth 100000
namespace K1
open PySem L2 Dv
section
variable {P : Program} {w : World} {K : PySem.W.Frag} {mg : Str → Option Value} {base : Heap}
def manyS : List Slot → Nat
  | [] => 1
  | s :: r => s.2.2.length * manyS r
theorem manyS_append (a b : List Slot) : manyS (a ++ b) = manyS a * manyS b := by
  induction a with
  | nil => simp [manyS]
  | cons s a ih => simp [manyS, ih, Nat.mul_assoc]
theorem manyS_le {ss : List Slot} (h : ∀ s ∈ ss, 1 ≤ s.2.2.length) (i : Nat) : 1 ≤ manyS (ss.take i) ∧ manyS (ss.take i) ≤ manyS ss := by
  have pos : ∀ {l : List Slot}, (∀ s ∈ l, 1 ≤ s.2.2.length) → 1 ≤ manyS l := by
    intro l
    induction l with
    | nil => intro _; exact Nat.le_refl _
    | cons s r ih => intro hl; exact Nat.mul_le_mul (hl s (by simp)) (ih fun t ht => hl t (by simp [ht]))
  have e : manyS ss = manyS (ss.take i) * manyS (ss.drop i) := by rw [← manyS_append, List.take_append_drop]
  refine ⟨pos fun s hs => h s (List.mem_of_mem_take hs), ?_⟩
  rw [e]
  exact Nat.le_mul_of_pos_right _ (pos fun s hs => h s (List.mem_of_mem_drop hs))
theorem log2_le {n m : Nat} (h : n ≤ 2 ^ m) : n.log2 ≤ m := by
  by_cases z : n = 0
  · subst z; simp
  · have := (Nat.log2_lt z (k := m + 1)).mpr (Nat.lt_of_le_of_lt h (by rw [Nat.pow_succ]; have := Nat.two_pow_pos m; omega))
    omega

abbrev s_count_stands : Stmt := top 34
theorem sc_count_stands : FnScope ["slots", "many", "_", "words"] ["slots"] (defScope s_count_stands) := ⟨rfl, rfl, rfl, by decide +kernel, rfl, by decide +kernel, by decide +kernel⟩
def S_count : SpW := fun ws mu P => ∃ ss, ws = [slsW ss] ∧ (∀ s ∈ ss, 1 ≤ s.2.2.length ∧ s.2.2.length ≤ 4) ∧ manyS ss ≤ 32 ∧ ∀ mu', Ext mu mu' → P (.int (manyS ss : Nat)) mu'
theorem d_count_stands (D : Dfn K mg "count_stands" s_count_stands ["slots"]) (B : Bl mg) : DefOk P w K mg base "count_stands" ["slots"] 1 S_count := by
  refine dfnOk D sc_count_stands (fun ws mu P ⟨ss, e, _⟩ => by rw [e]; rfl) (fun f cdv A outer s H E hr ws mu Pt ⟨ss, e, h4, h32, h⟩ => ?_)
  subst e
  refine sss_cons ?_
  refine ss_asg ?_
  refine se_int ?_
  refine sg_name (i := 1) ?_ sc_count_stands.nd
  refine sss_cons ?_
  refine ss_for PassesOwn.never rfl (by intro _; rfl) ?_
  refine si_tup ?_
  refine se_var (i := 0) rfl ?_
  refine ⟨fun i G' mu' => mu' = mu ∧ ∃ x y, G' = [some (slsW ss), some (.int (manyS (ss.take i) : Nat)), x, y], ⟨rfl, none, none, rfl⟩, fun _ _ _ _ _ => trivial, fun i w G' mu' hw ⟨e, x, y, eG⟩ => ?_, fun G' mu' ⟨e, x, y, eG⟩ => ?_⟩
  · subst e eG
    rw [List.getElem?_map] at hw
    cases ht : ss[i]? with
    | none => rw [ht] at hw; cases hw
    | some t =>
      rw [ht] at hw
      cases hw
      refine sg_tup (sgs_cons (sg_name (i := 2) (sgs_cons (sg_name (i := 2) (sgs_cons (sg_name (i := 3) (sgs_nil ?_) sc_count_stands.nd)) sc_count_stands.nd)) sc_count_stands.nd))
      refine sss_cons ?_
      refine ss_augMul (i := 1) rfl ?_ sc_count_stands.nd
      refine se_len ?_ B.len
      refine se_var (i := 3) rfl ?_
      have tm := h4 t (List.mem_of_getElem? ht)
      have ml := manyS_le (fun s hs => (h4 s hs).1) i
      have e1 : manyS (ss.take (i + 1)) = manyS (ss.take i) * t.2.2.length := by
        rw [List.take_add_one, ht, manyS_append]
        simp [manyS]
      refine ⟨?_, ?_⟩
      · unfold CMulW
        have h1 := log2_le (m := 5) (Nat.le_trans ml.2 h32)
        have h2 : (stW t.2.2).length.log2 ≤ 2 := log2_le (m := 2) (by rw [stW, List.length_map]; exact tm.2)
        show (manyS (ss.take i)).log2 + (stW t.2.2).length.log2 < 1000000
        omega
      · refine sss_nil ?_
        refine ⟨rfl, some (.str t.2.1), some (nmW t.2.2), ?_⟩
        rw [e1, Int.natCast_mul]
        have el : (stW t.2.2).length = t.2.2.length := by rw [stW, List.length_map]
        rw [el]
        rfl
  · subst e eG
    rw [List.length_map, List.take_length]
    refine sss_cons (ss_ret ?_)
    refine se_var (i := 1) rfl ?_
    exact h _ Ext.refl

structure SsOk (hs : List Str) (ss : List Slot) : Prop where
  lo : 1 ≤ ss.length
  hi : ss.length ≤ 6
  each : ∀ s ∈ ss, SlOk hs s
  nd : (ss.map (·.1)).Nodup
  many : manyS ss ≤ 32
theorem SsOk.nm {hs : List Str} {ss : List Slot} (h : SsOk hs ss) (hh : HsOk hs) : SsNm ss := ⟨h.hi, fun s hs' => ⟨(h.each s hs').nm, hh.nm _ (h.each s hs').home, (h.each s hs').hi, (h.each s hs').wm⟩⟩

abbrev s_are_slots : Stmt := top 32
theorem sc_are_slots : FnScope ["houses", "value", "slot", "name", "_"] ["houses", "value"] (defScope s_are_slots) := ⟨rfl, rfl, rfl, by decide +kernel, rfl, by decide +kernel, by decide +kernel⟩
def S_are_slots : SpW := S_t fun ws mu => ∃ hs ss, ws = [nmW hs, slsW ss] ∧ HsOk hs ∧ SsOk hs ss
theorem d_are_slots (D : Dfn K mg "are_slots" s_are_slots ["houses", "value"]) (B : Bl mg) (D_is_tuple : DefOk P w K mg base "is_tuple" ["value", "least", "most"] 1 S_is_tuple) (D_is_slot : DefOk P w K mg base "is_slot" ["houses", "value"] 3 S_is_slot) (D_are_different : DefOk P w K mg base "are_different" ["names"] 1 S_are_different) (D_count_stands : DefOk P w K mg base "count_stands" ["slots"] 1 S_count) : DefOk P w K mg base "are_slots" ["houses", "value"] 4 S_are_slots := by
  refine dfnOk D sc_are_slots (fun ws mu P ⟨⟨hs, ss, e, _⟩, _⟩ => by rw [e]; rfl) (fun f cdv A outer s H E hr ws mu Pt ⟨⟨hs, ss, e, hh, ok⟩, h⟩ => ?_)
  subst e
  have hu65 : (A.deeper (PyProof.Rows.envOfC "are_slots" (defScope s_are_slots) s.heap.objs.size f cdv)).units + 65 < cLine := by have := hr.un; omega
  refine sss_cons ?_
  refine ss_if ?_
  refine st_of_w ?_
  refine sw_or ?_
  refine st_not ?_
  refine st_val ?_
  refine se_callD D_is_tuple (hr.mono (by decide)) ?_
  refine sa_cons ?_
  refine se_var (i := 1) rfl ?_  -- value
  refine sa_cons ?_
  refine se_int ?_  -- 1
  refine sa_cons ?_
  refine se_int ?_  -- 6
  refine sa_nil ?_
  refine ⟨_, 1, 6, rfl, fun r mu1 e e1 => ?_⟩
  obtain rfl : r = true := bit (a := 1) (b := 6) e (by rw [List.length_map]; exact ok.lo) (by rw [List.length_map]; exact ok.hi)
  refine sw_or1 ?_
  refine st_not ?_
  refine st_val ?_
  refine se_all ?_ B.all
  refine se_lc (own := [("slot", 2)]) (.nm 2) rfl sc_are_slots.nd (blkOk_by (N := ["houses", "value", "slot", "name", "_"]) (sc := defScope s_are_slots) (by decide +kernel)) rfl (fun _ _ _ _ _ => (pg_name (i := 2) sc_are_slots.nd rfl (Or.inl rfl))) (by intro _; rfl) ?_  -- [is_slot(houses, slot) for slot in value]
  refine si_tup ?_
  refine se_var (i := 1) rfl ?_  -- value
  refine lc_all_t (fun _ _ => trivial) (by rw [List.length_map]; exact lt10 (Nat.le_trans ok.hi (by decide))) InBlk.mono ?_ ?_
  · intro w mu' hw he
    obtain ⟨t, ht, rfl⟩ := List.mem_map.mp hw
    refine ⟨_, rfl, fun s H C cl fp => ?_⟩
    refine se_callD D_is_slot (hr.mono (by decide)) ?_
    refine sa_cons ?_
    refine se_var (i := 0) rfl ?_  -- houses
    refine sa_cons ?_
    refine se_var (i := 2) rfl ?_  -- slot
    refine sa_nil ?_
    exact ⟨⟨hs, t, rfl, hh, ok.each t ht⟩, fun mu4 e4 => ⟨rfl, e4⟩⟩
  intro mu2 e2
  refine sss_nil ?_
  refine sss_cons ?_
  refine ss_ret ?_
  refine se_and ?_
  refine se_callD D_are_different (hr.mono (by decide)) ?_
  refine sa_cons ?_
  refine se_lc (own := [("name", 3), ("_", 4)]) (.tp [(.nm 3), (.nm 4), (.nm 4)]) rfl sc_are_slots.nd (blkOk_by (N := ["houses", "value", "slot", "name", "_"]) (sc := defScope s_are_slots) (by decide +kernel)) rfl (fun _ _ _ _ _ => (pg_tup rfl (pgs_cons (pg_name (i := 3) sc_are_slots.nd rfl (Or.inl rfl)) (pgs_cons (pg_name (i := 4) sc_are_slots.nd rfl (Or.inl rfl)) (pgs_cons (pg_name (i := 4) sc_are_slots.nd rfl (Or.inl rfl)) pgs_nil))))) (by intro _; rfl) ?_  -- [name for name, _, _ in value]
  refine si_tup ?_
  refine se_var (i := 1) rfl ?_  -- value
  refine lc_pure (fun w => match w with | .tup [x, _, _] => x | _ => .non) (fun _ _ => trivial) (by rw [List.length_map]; exact lt10 (Nat.le_trans ok.hi (by decide))) ?_ InBlk.mono ?_
  · intro w mu' hw he
    obtain ⟨t, ht, rfl⟩ := List.mem_map.mp hw
    refine ⟨_, rfl, fun s H C cl fp => ?_⟩
    refine se_var (i := 3) rfl ?_  -- name
    exact ⟨rfl, Ext.refl⟩
  have em : (ss.map slW1).map (fun w => match w with | W.tup [x, _, _] => x | _ => W.non) = stW (ss.map (·.1)) := by
    unfold stW
    rw [List.map_map, List.map_map]
    rfl
  rw [em]
  intro D mu3 hD he he2
  refine sa_nil ?_
  refine ⟨⟨_, _, rfl, .inr ⟨D, rfl, setM_same⟩, ok.nd, by rw [List.length_map]; exact Nat.le_trans ok.hi (by decide), fun n hn => ?_⟩, fun mu4 e4 => ?_⟩
  · obtain ⟨t, ht, rfl⟩ := List.mem_map.mp hn
    exact (ok.each t ht).nm
  refine bW_t rfl ?_
  refine se_one ?_
  refine se_cmp op_le cmpI_w (nomark _) ?_  -- count_stands(value) <= MOST_STANDS
  refine se_callD D_count_stands (hr.mono (by decide)) ?_
  refine sa_cons ?_
  refine se_var (i := 1) rfl ?_  -- value
  refine sa_nil ?_
  refine ⟨ss, rfl, fun t ht => ⟨by have := (ok.each t ht).lo; omega, (ok.each t ht).hi⟩, ok.many, fun mu5 e5 => ?_⟩
  obtain ⟨t, ht⟩ := B.stands
  refine se_glob (w := .int 32) (v := .int 32) ht ⟨t, rfl⟩ (fun _ _ => rfl) ?_
  show Pt (.bl (decide ((manyS ss : Int) ≤ 32))) mu5
  rw [decide_eq_true (by have := ok.many; omega)]
  exact h _ ((((e1.trans e2).trans he2).trans e4).trans e5)
end
end K1
set_option Elab.async false
set_option linter.all false
set_option maxRecDepth 100000
namespace K1
open PySem L2 Dv
section
variable {P : Program} {w : World} {K : PySem.W.Frag} {mg : Str → Option Value} {base : Heap}
/-- the word of a slot at a stand -/
def look (ss : List Slot) (st : List Str) (n : Str) : Option Str := match ss, st with
  | s :: ss, x :: st => if s.1 = n then some x else look ss st n
  | _, _ => none
def holds (ss : List Slot) (st : List Str) (p : Pat) : Bool := p.all fun q => decide (look ss st q.1 = some q.2)
def wordsOf (ss : List Slot) (st : List Str) : List (Key × W) := (ss.zip st).map fun q => (.inr q.1.1, .str q.2)
theorem wordsOf_keys : ∀ {ss : List Slot} {st : List Str}, st.length = ss.length → (wordsOf ss st).map (·.1) = ss.map fun s => (Sum.inr s.1 : Key)
  | [], [], _ => rfl
  | s :: ss, x :: st, h => by
    have := wordsOf_keys (ss := ss) (st := st) (by simpa using h)
    unfold wordsOf at this ⊢
    simp only [List.zip_cons_cons, List.map_cons, this]
  | [], x :: st, h => by simp at h
  | s :: ss, [], h => by simp at h
theorem wordsOf_get : ∀ {ss : List Slot} {st : List Str} {n : Str}, valW (wordsOf ss st) (.inr n) = (look ss st n).map W.str
  | [], _, n => by simp [wordsOf, valW, look]
  | s :: ss, [], n => by simp [wordsOf, valW, look]
  | s :: ss, x :: st, n => by
    have ih := wordsOf_get (ss := ss) (st := st) (n := n)
    unfold wordsOf at ih ⊢
    simp only [List.zip_cons_cons, List.map_cons, valW, look]
    by_cases e : s.1 = n
    · simp [e]
    · have : ¬ (Sum.inr s.1 : Key) = Sum.inr n := fun z => e (Sum.inr.inj z)
      rw [if_neg this, if_neg e]
      exact ih
theorem look_some : ∀ {ss : List Slot} {st : List Str} {n : Str}, st.length = ss.length → n ∈ ss.map (·.1) → ∃ x, look ss st n = some x ∧ x ∈ st
  | [], _, n, _, h => by simp at h
  | s :: ss, [], n, h, _ => by simp at h
  | s :: ss, x :: st, n, h, hn => by
    unfold look
    by_cases e : s.1 = n
    · exact ⟨x, by rw [if_pos e], by simp⟩
    · rw [if_neg e]
      have hn' : n ∈ ss.map (·.1) := by
        rcases List.mem_cons.mp hn with z | z
        · exact absurd z.symm e
        · exact z
      obtain ⟨y, h1, h2⟩ := look_some (st := st) (by simpa using h) hn'
      exact ⟨y, h1, by simp [h2]⟩
theorem putW_new {κ : Type} [DecidableEq κ] {k : κ} {w : W} : ∀ {kvs : List (κ × W)}, k ∉ kvs.map (·.1) → putW kvs k w = kvs ++ [(k, w)]
  | [], _ => rfl
  | (j, u) :: r, h => by
    unfold putW
    have : ¬ j = k := fun z => h (by simp [z])
    rw [if_neg this, putW_new (kvs := r) fun z => h (by simp [z])]
    rfl
structure StOk (ss : List Slot) (st : List Str) : Prop where
  len : st.length = ss.length
  nm : ∀ x ∈ st, NmOk x

abbrev s_pattern_holds : Stmt := top 42
theorem sc_pattern_holds : FnScope ["slots", "pattern", "stand", "words", "slot", "word"] ["slots", "pattern", "stand"] (defScope s_pattern_holds) := ⟨rfl, rfl, rfl, by decide +kernel, rfl, by decide +kernel, by decide +kernel⟩
def S_holds : SpW := fun ws mu P => ∃ ss p st, ws = [slsW ss, ptW p, nmW st] ∧ SsNm ss ∧ (ss.map (·.1)).Nodup ∧ StOk ss st ∧ (∀ q ∈ p, PrOk ss q) ∧ p.length ≤ 10 ∧ ∀ mu', Ext mu mu' → P (.bl (holds ss st p)) mu'
theorem d_pattern_holds (D : Dfn K mg "pattern_holds" s_pattern_holds ["slots", "pattern", "stand"]) (B : Bl mg) : DefOk P w K mg base "pattern_holds" ["slots", "pattern", "stand"] 1 S_holds := by
  refine dfnOk D sc_pattern_holds (fun ws mu P ⟨ss, p, st, e, _⟩ => by rw [e]; rfl) (fun f cdv A outer s H E hr ws mu Pt ⟨ss, p, st, e, nm, nd, so, ok, len, h⟩ => ?_)
  subst e
  refine sss_cons (ss_asg ?_)
  refine se_dc (own := [("slot", 4), ("word", 5)]) (.tp [.nm 4, .nm 5]) rfl sc_pattern_holds.nd (blkOk_by (N := ["slots", "pattern", "stand", "words", "slot", "word"]) (sc := defScope s_pattern_holds) (by decide +kernel)) rfl (fun _ _ _ _ _ => (pg_tup rfl (pgs_cons (pg_name (i := 4) sc_pattern_holds.nd rfl (Or.inl rfl)) (pgs_cons (pg_name (i := 5) sc_pattern_holds.nd rfl (Or.inl rfl)) pgs_nil)))) (by intro _; rfl) ?_
  refine si_zip ?_ B.zip
  refine se_var (i := 0) rfl ?_
  refine se_var (i := 2) rfl ?_
  intro D hD
  have hz : ((ss.map slW1).zip (stW st)).map (fun q => W.tup [q.1, q.2]) = (ss.zip st).map fun q => W.tup [slW1 q.1, .str q.2] := by
    unfold stW
    rw [List.zip_map, List.map_map]
    rfl
  have hl : (ss.zip st).length = ss.length := by rw [List.length_zip, so.len]; omega
  rw [hz]
  refine ⟨fun i acc mu' => mu' = mu ∧ acc = (wordsOf ss st).take i, ⟨rfl, rfl⟩, fun _ _ _ _ _ => trivial, fun i w acc mu' hw ⟨e1, e2⟩ => ?_, fun acc mu' ⟨e1, e2⟩ => ?_⟩
  · subst e1 e2
    rw [List.getElem?_map] at hw
    cases hq : (ss.zip st)[i]? with
    | none => rw [hq] at hw; cases hw
    | some q =>
      rw [hq] at hw
      cases hw
      have hi : i < ss.length := by rw [← hl]; exact (List.getElem?_eq_some_iff.mp hq).1
      have kn : ((wordsOf ss st).map (·.1)).Nodup := by
        rw [wordsOf_keys so.len]
        have := nd
        rw [List.Nodup, List.pairwise_map] at this ⊢
        exact this.imp fun hne z => hne (Sum.inr.inj z)
      refine ⟨?_, ?_, ?_⟩
      · rw [List.length_take]
        have := nm.len
        have : i < 10 := by omega
        exact Nat.lt_of_le_of_lt (Nat.min_le_left _ _) (Nat.lt_of_lt_of_le this (by decide))
      · exact (List.Sublist.map _ (List.take_sublist _ _)).nodup kn
      refine ⟨_, rfl, fun s H C cl fp => ?_⟩
      refine se_ix ?_
      refine se_var (i := 4) rfl ?_
      refine se_int ?_
      refine ⟨.str q.1.1, atI_nat' (i := 0) rfl, .inr q.1.1, rfl, fun s H C cl fp => ?_⟩
      refine se_var (i := 5) rfl ?_
      have tk : (wordsOf ss st).take (i + 1) = (wordsOf ss st).take i ++ [(.inr q.1.1, .str q.2)] := by
        rw [List.take_add_one]
        have : (wordsOf ss st)[i]? = some (.inr q.1.1, .str q.2) := by
          unfold wordsOf
          rw [List.getElem?_map, hq]
          rfl
        rw [this]
        rfl
      refine ⟨rfl, ?_⟩
      rw [tk]
      refine putW_new fun hm => ?_
      have h2 : (((wordsOf ss st).take (i + 1)).map (·.1)).Nodup := (List.Sublist.map _ (List.take_sublist _ _)).nodup kn
      rw [tk, List.map_append, List.nodup_append] at h2
      exact h2.2.2 _ hm _ (by simp) rfl
  · subst e1 e2
    have hw : (wordsOf ss st).take ((ss.zip st).map fun q => W.tup [slW1 q.1, .str q.2]).length = wordsOf ss st := by
      rw [List.length_map]
      have : (wordsOf ss st).length = (ss.zip st).length := by unfold wordsOf; rw [List.length_map]
      rw [← this, List.take_length]
    rw [hw]
    refine sg_name (i := 3) ?_ sc_pattern_holds.nd
    have e0 : Ext mu' (setM mu' D (.dic (wordsOf ss st))) := Ext.refl.set hD
    refine sss_cons (ss_ret ?_)
    refine se_all ?_ B.all
    refine se_lc (own := [("slot", 4), ("word", 5)]) (.tp [.nm 4, .nm 5]) rfl sc_pattern_holds.nd (blkOk_by (N := ["slots", "pattern", "stand", "words", "slot", "word"]) (sc := defScope s_pattern_holds) (by decide +kernel)) rfl (fun _ _ _ _ _ => (pg_tup rfl (pgs_cons (pg_name (i := 4) sc_pattern_holds.nd rfl (Or.inl rfl)) (pgs_cons (pg_name (i := 5) sc_pattern_holds.nd rfl (Or.inl rfl)) pgs_nil)))) (by intro _; rfl) ?_
    refine si_tup ?_
    refine se_var (i := 1) rfl ?_
    refine lc_all_g (fun w => match w with | .tup [.str n, .str x] => decide (look ss st n = some x) | _ => false) (fun _ _ => trivial) (by rw [List.length_map]; exact lt10 len) InBlk.mono ?_ fun mu2 e2 => ?_
    · intro w mu2 hw2 he
      obtain ⟨q, hq, rfl⟩ := List.mem_map.mp hw2
      have qn := pt_names nm ok q hq
      obtain ⟨x, hx, hxs⟩ := look_some (ss := ss) (st := st) (n := q.1) so.len (by obtain ⟨u, hu, e1, _⟩ := ok q hq; exact List.mem_map.mpr ⟨u, hu, e1⟩)
      refine ⟨_, rfl, fun s H C cl fp => ?_⟩
      refine se_cmp (op_eqD hr.units) eq_w (nomark _) ?_
      refine se_dget (hu_of hr) ?_
      refine se_var (i := 3) rfl ?_
      refine se_var (i := 4) rfl ?_
      refine ⟨D, wordsOf ss st, .inr q.1, .str x, rfl, he _ _ setM_same, rfl, by rw [wordsOf_get, hx]; rfl, ?_⟩
      refine se_var (i := 5) rfl ?_
      refine eq_strs (so.nm x hxs) qn.2 ⟨?_, Ext.refl⟩
      show W.bl (decide (x = q.2)) = W.bl (decide (look ss st q.1 = some q.2))
      rw [hx]
      congr 1
      simp
    · have : ((p.map prW).all fun w => match w with | .tup [.str n, .str x] => decide (look ss st n = some x) | _ => false) = holds ss st p := by
        rw [List.all_map]
        rfl
      rw [this]
      exact h _ (e0.trans e2)

abbrev s_one_holds : Stmt := top 43
theorem sc_one_holds : FnScope ["slots", "patterns", "stand", "pattern"] ["slots", "patterns", "stand"] (defScope s_one_holds) := ⟨rfl, rfl, rfl, by decide +kernel, rfl, by decide +kernel, by decide +kernel⟩
def prB (ss : List Slot) (st : List Str) : W → Bool
  | .tup [.str n, .str x] => decide (look ss st n = some x)
  | _ => false
def ptB (ss : List Slot) (st : List Str) : W → Bool
  | .tup us => us.all (prB ss st)
  | _ => false
theorem ptB_pt (ss : List Slot) (st : List Str) (p : Pat) : ptB ss st (ptW p) = holds ss st p := by
  unfold holds
  show (p.map prW).all (prB ss st) = _
  rw [List.all_map]
  rfl
def oneHolds (ss : List Slot) (st : List Str) (ps : List Pat) : Bool := ps.any (holds ss st)
def S_one : SpW := fun ws mu P => ∃ ss ps st, ws = [slsW ss, ptsW ps, nmW st] ∧ SsNm ss ∧ (ss.map (·.1)).Nodup ∧ StOk ss st ∧ (∀ p ∈ ps, (∀ q ∈ p, PrOk ss q) ∧ p.length ≤ 10) ∧ ps.length ≤ 10 ∧ ∀ mu', Ext mu mu' → P (.bl (oneHolds ss st ps)) mu'
theorem d_one_holds (D : Dfn K mg "one_holds" s_one_holds ["slots", "patterns", "stand"]) (B : Bl mg) (D_pattern_holds : DefOk P w K mg base "pattern_holds" ["slots", "pattern", "stand"] 1 S_holds) : DefOk P w K mg base "one_holds" ["slots", "patterns", "stand"] 2 S_one := by
  refine dfnOk D sc_one_holds (fun ws mu P ⟨ss, ps, st, e, _⟩ => by rw [e]; rfl) (fun f cdv A outer s H E hr ws mu Pt ⟨ss, ps, st, e, nm, nd, so, ok, len, h⟩ => ?_)
  subst e
  have hu65 : (A.deeper (PyProof.Rows.envOfC "one_holds" (defScope s_one_holds) s.heap.objs.size f cdv)).units + 65 < cLine := by have := hr.un; omega
  refine sss_cons ?_
  refine ss_ret ?_
  refine se_any ?_ B.any
  refine se_lc (own := [("pattern", 3)]) (.nm 3) rfl sc_one_holds.nd (blkOk_by (N := ["slots", "patterns", "stand", "pattern"]) (sc := defScope s_one_holds) (by decide +kernel)) rfl (fun _ _ _ _ _ => (pg_name (i := 3) sc_one_holds.nd rfl (Or.inl rfl))) (by intro _; rfl) ?_  -- [pattern_holds(slots, pattern, stand) for pattern in patterns]
  refine si_tup ?_
  refine se_var (i := 1) rfl ?_  -- patterns
  refine lc_any_g (ptB ss st) (fun _ _ => trivial) (by rw [List.length_map]; exact lt10 len) InBlk.mono ?_ fun mu2 e2 => ?_
  · intro w mu' hw he
    obtain ⟨p, hp, rfl⟩ := List.mem_map.mp hw
    refine ⟨_, rfl, fun s H C cl fp => ?_⟩
    refine se_callD D_pattern_holds (hr.mono (by decide)) ?_
    refine sa_cons ?_
    refine se_var (i := 0) rfl ?_  -- slots
    refine sa_cons ?_
    refine se_var (i := 3) rfl ?_  -- pattern
    refine sa_cons ?_
    refine se_var (i := 2) rfl ?_  -- stand
    refine sa_nil ?_
    refine ⟨ss, p, st, rfl, nm, nd, so, (ok p hp).1, (ok p hp).2, fun mu4 e4 => ⟨?_, e4⟩⟩
    rw [ptB_pt]
  · have : (ps.map ptW).any (ptB ss st) = oneHolds ss st ps := by
      unfold oneHolds
      rw [List.any_map]
      congr 1
      funext p
      exact ptB_pt ss st p
    rw [this]
    exact h _ e2
end
end K1
set_option Elab.async false
set_option linter.all false
set_option maxRecDepth 100000
namespace K1
open PySem L2 Dv
section
variable {P : Program} {w : World} {K : PySem.W.Frag} {mg : Str → Option Value} {base : Heap}
def grow (acc : List (List Str)) (wd : List Str) : List (List Str) := acc.flatMap fun st => wd.map fun x => st ++ [x]
def raw (ss : List Slot) : List (List Str) := (ss.map (·.2.2)).foldl grow [[]]
theorem raw_take {ss : List Slot} {i : Nat} {t : Slot} (h : ss[i]? = some t) : raw (ss.take (i + 1)) = grow (raw (ss.take i)) t.2.2 := by
  unfold raw
  rw [List.take_add_one, h, List.map_append, List.foldl_append]
  rfl
theorem grow_len (acc : List (List Str)) (wd : List Str) : (grow acc wd).length = acc.length * wd.length := by
  unfold grow
  induction acc with
  | nil => simp
  | cons a r ih =>
    rw [List.flatMap_cons, List.length_append, ih, List.length_map, List.length_cons, Nat.succ_mul, Nat.add_comm]
theorem raw_len : ∀ (ss : List Slot) (acc : List (List Str)), ((ss.map (·.2.2)).foldl grow acc).length = acc.length * manyS ss
  | [], acc => by simp [manyS]
  | s :: ss, acc => by
    show ((ss.map (·.2.2)).foldl grow (grow acc s.2.2)).length = _
    rw [raw_len ss, grow_len, manyS, Nat.mul_assoc]
theorem raw_each : ∀ (ss : List Slot) (acc : List (List Str)) (n : Nat), (∀ st ∈ acc, st.length = n) → ∀ st ∈ (ss.map (·.2.2)).foldl grow acc, st.length = n + ss.length
  | [], acc, n, h, st, hs => by simpa using h st hs
  | s :: ss, acc, n, h, st, hs => by
    have := raw_each ss (grow acc s.2.2) (n + 1) (fun st hst => by
      unfold grow at hst
      obtain ⟨a, ha, hst⟩ := List.mem_flatMap.mp hst
      obtain ⟨x, hx, rfl⟩ := List.mem_map.mp hst
      rw [List.length_append, h a ha]
      rfl) st hs
    rw [this, List.length_cons]
    omega
theorem alikeAll_str : ∀ a b : List Str, PySem.W.alikeAll (dats (stW a)) (dats (stW b)) = true
  | [], _ => by simp [stW, dats, PySem.W.alikeAll]
  | x :: a, [] => by simp [stW, dats, PySem.W.alikeAll]
  | x :: a, y :: b => by
    have := alikeAll_str a b
    unfold stW at this ⊢
    simp only [List.map_cons, dats, dat, PySem.W.alikeAll, PySem.W.alike, this, Bool.and_self]
theorem alike_nm (a b : List Str) : PySem.W.alike (dat (nmW a)) (dat (nmW b)) = true := by
  unfold nmW
  simp only [dat, PySem.W.alike]
  exact alikeAll_str a b
theorem depth_nm (a : List Str) : (dat (nmW a)).depth ≤ 1 := by
  unfold nmW stW
  simp only [dat, PyData.depth]
  rw [dats_map]
  have := depth_all (fun z : Str => dat (.str z)) (n := 0) (xs := a) fun z _ => by simp [dat, PyData.depth]
  omega
/-- what sorted asks of stands -/
theorem sort_stands {us : List (List Str)} (ne : ∀ st ∈ us, st ≠ []) : plsW (us.map nmW) = true ∧ PySem.W.AllAlike (dats (us.map nmW)) ∧ PySem.W.Sortable (dats (us.map nmW)) ∧ ∀ u ∈ us.map nmW, (dat u).depth ≤ 64 := by
  refine ⟨plains_map _ plain_nm us, fun d hd d' hd' => ?_, .inl fun d hd => ?_, fun u hu => ?_⟩
  · obtain ⟨u, hu, rfl⟩ := mem_dats.mp hd
    obtain ⟨u', hu', rfl⟩ := mem_dats.mp hd'
    obtain ⟨a, _, rfl⟩ := List.mem_map.mp hu
    obtain ⟨b, _, rfl⟩ := List.mem_map.mp hu'
    exact alike_nm a b
  · obtain ⟨u, hu, rfl⟩ := mem_dats.mp hd
    obtain ⟨a, ha, rfl⟩ := List.mem_map.mp hu
    cases a with
    | nil => exact absurd rfl (ne [] ha)
    | cons x r => exact ⟨.str x, dats (stW r), by simp [nmW, stW, dat, dats]⟩
  · obtain ⟨a, ha, rfl⟩ := List.mem_map.mp hu
    exact Nat.le_trans (depth_nm a) (by decide)
def growW (w u : W) : W := match w with | .tup us => .tup (us ++ [u]) | _ => .non
theorem grow_W (acc : List (List Str)) (wd : List Str) : ((acc.map nmW).flatMap fun w => (stW wd).map (growW w)) = (grow acc wd).map nmW := by
  unfold grow
  induction acc with
  | nil => rfl
  | cons a r ih =>
    simp only [List.map_cons, List.flatMap_cons, ih, List.map_append]
    congr 1
    unfold stW growW nmW
    rw [List.map_map, List.map_map]
    refine List.map_congr_left fun x hx => ?_
    show W.tup (stW a ++ [.str x]) = W.tup (stW (a ++ [x]))
    unfold stW
    rw [List.map_append]
    rfl
/-- all stands, as sorted -/
def standsW (ss : List Slot) : List W := ((raw ss).map nmW).mergeSort leW
abbrev s_all_stands : Stmt := top 36
theorem sc_all_stands : FnScope ["slots", "stands", "_", "words", "stand", "word"] ["slots"] (defScope s_all_stands) := ⟨rfl, rfl, rfl, by decide +kernel, rfl, by decide +kernel, by decide +kernel⟩
def S_all : SpW := fun ws mu P => ∃ ss, ws = [slsW ss] ∧ ss ≠ [] ∧ ss.length ≤ 10 ∧ (∀ s ∈ ss, 1 ≤ s.2.2.length) ∧ manyS ss ≤ 32 ∧ ∀ mu', Ext mu mu' → P (.tup (standsW ss)) mu'
theorem d_all_stands (D : Dfn K mg "all_stands" s_all_stands ["slots"]) (B : Bl mg) : DefOk P w K mg base "all_stands" ["slots"] 1 S_all := by
  refine dfnOk D sc_all_stands (fun ws mu P ⟨ss, e, _⟩ => by rw [e]; rfl) (fun f cdv A outer s H E hr ws mu Pt ⟨ss, e, ne, l10, w1, h32, h⟩ => ?_)
  subst e
  refine sss_cons ?_
  refine ss_asg ?_
  refine se_lst ?_
  refine sa_cons ?_
  refine se_tup ?_
  refine sa_nil ?_
  refine ⟨by decide, ?_⟩
  refine sa_nil ?_
  refine ⟨by decide, fun p0 np0 => ?_⟩
  refine sg_name (i := 1) ?_ sc_all_stands.nd
  have e0 : Ext mu (setM mu p0 (.lst [.tup []])) := Ext.refl.set np0
  refine sss_cons ?_
  refine ss_for PassesOwn.never rfl (by intro _; rfl) ?_
  refine si_tup ?_
  refine se_var (i := 0) rfl ?_
  have sz : ∀ i, (raw (ss.take i)).length ≤ 32 := fun i => by
    unfold raw
    rw [raw_len, List.length_singleton, Nat.one_mul]
    exact Nat.le_trans (manyS_le w1 i).2 h32
  refine ⟨fun i G' mu' => Ext mu mu' ∧ ∃ p x y z u, mu' p = some (.lst ((raw (ss.take i)).map nmW)) ∧ G' = [some (slsW ss), some (.m p), x, y, z, u], ⟨e0, p0, none, none, none, none, setM_same, rfl⟩, fun _ _ _ _ _ => trivial, fun i w G' mu' hw ⟨e1, q, x, y, z, u, hq, eG⟩ => ?_, fun G' mu' ⟨e1, q, x, y, z, u, hq, eG⟩ => ?_⟩
  · subst eG
    rw [List.getElem?_map] at hw
    cases ht : ss[i]? with
    | none => rw [ht] at hw; cases hw
    | some t =>
      rw [ht] at hw
      cases hw
      refine sg_tup (sgs_cons (sg_name (i := 2) (sgs_cons (sg_name (i := 2) (sgs_cons (sg_name (i := 3) (sgs_nil ?_) sc_all_stands.nd)) sc_all_stands.nd)) sc_all_stands.nd))
      refine sss_cons ?_
      refine ss_setlc2 (i := 1) (own := [("stand", 4), ("word", 5)]) (vs1 := [5]) (.nm 4) (.nm 5) rfl sc_all_stands.nd rfl rfl (by rfl) (blkOk_by (N := ["slots", "stands", "_", "words", "stand", "word"]) (sc := defScope s_all_stands) (by decide +kernel)) (by decide) rfl rfl (fun _ _ _ _ _ => (pg_name (i := 4) sc_all_stands.nd rfl (Or.inl rfl))) (fun _ _ _ _ _ => (pg_name (i := 5) sc_all_stands.nd rfl (Or.inl rfl))) (by intro _; rfl) (by intro _ _; rfl) ?_
      refine si_lst ?_
      refine se_var (i := 1) rfl ?_
      refine ⟨_, hq, fun mu2 e2 => e2 _ _ hq, fun _ => stW t.2.2, growW, ?_, fun w hw => ?_, fun Dd hD => ?_⟩
      · rw [grow_W, List.length_map, ← raw_take ht]
        exact Nat.le_trans (sz _) (by decide)
      · obtain ⟨st, hst, rfl⟩ := List.mem_map.mp hw
        refine ⟨_, rfl, fun mu2 e2 s Hs C cl fp => ?_⟩
        refine si_tup ?_
        refine se_var (i := 3) rfl ?_
        refine ⟨rfl, rfl, fun _ _ => trivial, fun u2 hu2 => ⟨_, rfl, fun mu3 e3 s Hs C cl fp => ?_⟩⟩
        refine se_tup ?_
        refine sa_star ?_
        refine se_var (i := 4) rfl ?_
        refine sa_cons ?_
        refine se_var (i := 5) rfl ?_
        refine sa_nil ?_
        refine ⟨?_, rfl, rfl⟩
        have := raw_each (ss.take i) [[]] 0 (by simp) st hst
        rw [List.length_append, stW, List.length_map, this, List.length_take]
        have hi := (List.getElem?_eq_some_iff.mp ht).1
        show 0 + min i ss.length + 1 ≤ sizeLine
        exact Nat.le_trans (by omega : _ ≤ 33) (by decide)
      · refine sss_nil ⟨e1.trans (Ext.refl.set hD), Dd, some (.str t.2.1), some (nmW t.2.2), z, u, ?_, rfl⟩
        rw [setM_same, grow_W, ← raw_take ht]
  · subst eG
    rw [List.length_map, List.take_length] at hq
    refine sss_cons (ss_ret ?_)
    refine se_tupleC ?_ B.tuple
    refine se_sorted hr ?_ B.sorted
    refine se_var (i := 1) rfl ?_
    have nE : ∀ st ∈ raw ss, st ≠ [] := fun st hst z => by
      have := raw_each ss [[]] 0 (by simp) st hst
      rw [z] at this
      cases ss with
      | nil => exact ne rfl
      | cons a r => simp at this
    obtain ⟨s1, s2, s3, s4⟩ := sort_stands nE
    refine ⟨_, hq, s1, s2, s3, ?_, s4, fun p np => ?_⟩
    · rw [List.length_map]
      have := sz ss.length
      rw [List.take_length] at this
      exact Nat.le_trans this (by decide)
    · exact ⟨_, setM_same, h _ (e1.trans (Ext.refl.set np))⟩
end
end K1
set_option Elab.async false
set_option linter.all false
set_option maxRecDepth 100000
/-! Instances of own classes by values: made, their fields stored, their methods called. -/
namespace Dv
open PySem L2
section
variable {K : PySem.W.Frag} {H : Hp}
theorem DKV.putF : ∀ {fs : List (Str × W)} {vs : List (Str × V)} {f : Str} {w : W} {v : V}, DKV K H fs vs → Den K H w v → DKV K H (putW fs f w) (putF f v vs)
  | [], _, f, w, v, d, dv => by
    rw [d.nil]
    exact DKV.mk dv ⟨rfl, rfl⟩
  | (j, u) :: r, _, f, w, v, d, dv => by
    obtain ⟨v', vs', rfl, d1, d2⟩ := d.cons
    unfold putW L2.putF
    by_cases e : j = f
    · rw [if_pos e, if_pos e]
      first
        | exact DKV.mk dv d2
        | (subst e; exact DKV.mk dv d2)
    · rw [if_neg e, if_neg e]
      exact DKV.mk d1 (DKV.putF d2 dv)
end
/-- a method as it stands behind the top -/
structure MDfn (K : PySem.W.Frag) (Cl : Addr) (m qual : Str) (st : Stmt) (ps : List Str) : Prop where
  ex : ∃ f fd, Fun K m qual st f fd ∧ Meth K Cl m f ∧ Binds K fd ps []
structure MetOk (P : Program) (w : World) (K : PySem.W.Frag) (mg : Str → Option Value) (base : Heap) (Cl : Addr) (m : Str) (ps : List Str) (k : Nat) (S : SpW) : Prop where
  ex : ∃ f fd, FnOk P w K mg base CX0 k f fd ps (spW K S) ∧ Meth K Cl m f ∧ Binds K fd ps []
structure MakOk (P : Program) (w : World) (K : PySem.W.Frag) (mg : Str → Option Value) (base : Heap) (x : Str) (Cl : Addr) (ps : List Str) (k : Nat) (S : SpW) : Prop where
  ex : ∃ f fd, FnOk P w K mg base CX0 k f fd ps (spW K S) ∧ Mk K Cl f ∧ mg x = some (.ref Cl) ∧ Binds K fd ps []
structure KDfn (K : PySem.W.Frag) (mg : Str → Option Value) (x : Str) (Cl : Addr) (qual : Str) (st : Stmt) (ps : List Str) : Prop where
  ex : ∃ f fd, Fun K "__init__" qual st f fd ∧ Mk K Cl f ∧ mg x = some (.ref Cl) ∧ Binds K fd ps []
section
variable {P : Program} {w : World} {K : PySem.W.Frag} {mg : Str → Option Value} {base : Heap}
theorem metOk {Cl : Addr} {m qual : Str} {st : Stmt} {N ps : List Str} {k : Nat} {S : SpW} (D : MDfn K Cl m qual st ps) (Sc : FnScope N ps (defScope st)) (len : ∀ ws mu P, S ws mu P → ws.length = ps.length)
    (body : ∀ (f : Addr) (cdv : Value) (A : Around) (outer : List Env) (s : Shared) (H : Hp) (E : XK), Room k (A.deeper (PyProof.Rows.envOfC qual (defScope st) s.heap.objs.size f cdv)) → ∀ ws mu Pt, S ws mu Pt →
      SSs (cxOf CX0 P w K mg base N qual (defScope st) f cdv A outer s H E).nox (defBody st) (startW N ws) mu { nx := fun _ mu' => Pt .non mu', rt := Pt }) : MetOk P w K mg base Cl m ps (k + 1) S := by
  obtain ⟨f, fd, F, hm, hb⟩ := D.ex
  exact ⟨f, fd, okW F Sc len (body f), hm, hb⟩
theorem makOk {x : Str} {Cl : Addr} {qual : Str} {st : Stmt} {N ps : List Str} {k : Nat} {S : SpW} (D : KDfn K mg x Cl qual st ps) (Sc : FnScope N ps (defScope st)) (len : ∀ ws mu P, S ws mu P → ws.length = ps.length)
    (body : ∀ (f : Addr) (cdv : Value) (A : Around) (outer : List Env) (s : Shared) (H : Hp) (E : XK), Room k (A.deeper (PyProof.Rows.envOfC qual (defScope st) s.heap.objs.size f cdv)) → ∀ ws mu Pt, S ws mu Pt →
      SSs (cxOf CX0 P w K mg base N qual (defScope st) f cdv A outer s H E).nox (defBody st) (startW N ws) mu { nx := fun _ mu' => Pt .non mu', rt := Pt }) : MakOk P w K mg base x Cl ps (k + 1) S := by
  obtain ⟨f, fd, F, hm, hg, hb⟩ := D.ex
  exact ⟨f, fd, okW F Sc len (body f), hm, hg, hb⟩
end
section
variable {X : Cx} {e a b c : Expr} {es : List Expr} {st : Stmt} {sts : List Stmt} {G : Gs} {mu mu' : Mu} {pos p apos cpos : Pos} {P : PW1}
theorem newIns {K : PySem.W.Frag} {H : Hp} {x Cl dx : Addr} {vs : List (Str × V)} {fs : List (Str × W)} (d : DKV K H fs vs) : ∀ H', (∀ a xs, SqT K H a xs → SqT K H' a xs) → H' x = some (.ins Cl dx vs) → CellOk K H' x (.ins Cl fs) := fun H' st h => ⟨dx, vs, h, d.1, DenAll.mono st _ d.2⟩
/-- self.f = e -/
theorem ss_fld {E : WE} {f : Str} {pos' : Pos} (h : SE X e G mu fun w mu1 => SE X a G mu1 fun o mu2 => ∃ aa Cl fs, o = .m aa ∧ mu2 aa = some (.ins Cl fs) ∧ Cls X.K Cl ∧ NoAttr X.K Cl f ∧ fs.length < 1000 ∧ E.nx G (setM mu2 aa (.ins Cl (putW fs f w))))
    (hs : swapsWith e (some (.Attribute a f pos')) pos.line X.env = pure false := by rfl) : SS X (.Assign [.Attribute a f pos'] e pos) G mu E :=
  SS.mk (ps_fld peE peE hs) fun σ H D d m k => h σ H _ d m fun v w mu1 H1 h1 c1 d1 m1 => h1 σ H1 _ (c1.denG m d) m1 fun x o mu2 H2 h2 c2 d2 m2 => by
    obtain ⟨aa, Cl, fs, rfl, e0, hc, hn, hl, q⟩ := h2
    have d2 : x = .ref aa := d2
    subst d2
    obtain ⟨dx, vs, hx, dk⟩ := m2 aa _ e0
    have dk : DKV X.K H2 fs vs := dk
    have d1 := c2.den m1 d1
    obtain ⟨c4, m4⟩ := wrote (o := .ins Cl dx (L2.putF f v vs)) (c := .ins Cl (putW fs f w)) m2 e0 (newIns (dx := dx) (dk.putF d1))
    have cc := c1.trans c2
    refine ⟨aa, Cl, dx, vs, rfl, hx, hc, hn, ?_, k.nx _ _ _ _ q (cc.trans c4) (c4.denG m2 (cc.denG m d)) m4⟩
    have := congrArg List.length dk.1
    simp only [List.length_map] at this
    omega
/-- C(e, ..) -/
theorem se_make {x : Str} {Cl : Addr} {ps : List Str} {k : Nat} {S : SpW} (D : MakOk X.prog X.w X.K X.mg X.base x Cl ps k S) (hr : Room (k + 1) X.A) (h : SA X (e :: es) G mu fun ws mu1 => ∀ y, mu1 y = none → S (.m y :: ws) (setM mu1 y (.ins Cl [])) fun w mu2 => w = .non ∧ P (.m y) mu2)
    (hg : Gl X x := by rfl) (hdb : (x == ("__debug__" : Str)) = false := by decide) (he : starEach (e :: es) X.env = (false, eval e X.env) :: starEach es X.env := by rfl) (hpl : (backTo pos (starEach es X.env)).any (·.1) = false := by rfl) : SE X (.Call (.Name x p) (e :: es) [] pos) G mu P := by
  obtain ⟨f, fd, F, hm, hgm, hb⟩ := D.ex
  exact SE.mk (pe_make hm F hr hg hgm hb .nil pass0 paA hdb he hpl) fun σ H Q d m k => h σ H _ d m fun vs ws mu1 H1 h1 c1 d1 m1 => fun y dx hy hdx ne => by
    obtain ⟨c2, m2⟩ := laid (o := .own y) m1 hdx
    have hy2 : upd H1 dx (.own y) y = none := by rw [upd_ne fun z => ne z.symm]; exact hy
    obtain ⟨c3, m3⟩ := laidC (o := .ins Cl dx []) (c := .ins Cl []) m2 hy2 (newIns (dx := dx) (fs := []) ⟨rfl, rfl⟩)
    refine ⟨_, _, _, h1 y (m1.dom hy), ⟨_, _, rfl, rfl, ?_⟩, m3, fun v w mu4 H4 h4 c4 d4 m4 => ?_⟩
    · rw [List.append_nil]
      exact c3.denAll m2 (c2.denAll m1 d1)
    · obtain ⟨rfl, q⟩ := h4
      exact ⟨d4, k _ _ _ _ q (((c1.trans c2).trans c3).trans c4) rfl m4⟩
/-- o.m(e, ..) -/
theorem se_meth {mn : Str} {Cl : Addr} {ps : List Str} {k : Nat} {S : SpW} {o : Expr} {pl : Sem Bool} (D : MetOk X.prog X.w X.K X.mg X.base Cl mn ps k S) (hc : Cls X.K Cl) (hr : Room k X.A)
    (h : SE X o G mu fun w mu1 => ∃ aa fs, w = .m aa ∧ mu1 aa = some (.ins Cl fs) ∧ valW fs mn = none ∧ SA X (e :: es) G mu1 fun ws mu2 => S (.m aa :: ws) mu2 P)
    (he : starEach (e :: es) X.env = (false, eval e X.env) :: starEach es X.env := by rfl) (hpl : (backTo pos (starEach es X.env)).any (·.1) = false := by rfl)
    (hev : eval (.Call (.Attribute o mn apos) (e :: es) [] pos) X.env = (do
      let ov ← eval o X.env
      standAt apos.atName
      let __x ← holding [ov] (getMethod ov mn pl)
      match __x with
        | (f, first) => callWith pos f first (backTo pos (starEach (e :: es) X.env)) (backToKw pos (keywordEach [] X.env))) := by rfl) : SE X (.Call (.Attribute o mn apos) (e :: es) [] pos) G mu P := by
  obtain ⟨f, fd, F, hm, hb⟩ := D.ex
  exact SE.mk (pe_meth peE hc hm F hr hb .nil pass0 paA he hpl hev) fun σ H Q d m k => h σ H _ d m fun v w mu1 H1 h1 c1 d1 m1 => by
    obtain ⟨aa, fs, rfl, e0, hn, h2⟩ := h1
    have d1 : v = .ref aa := d1
    subst d1
    obtain ⟨dx, vs, hx, dk⟩ := m1 aa _ e0
    refine ⟨aa, dx, vs, rfl, hx, (lookup_valV vs mn).trans (DKV.getN (K := X.K) (H := H1) dk hn), h2 σ H1 _ (c1.denG m d) m1 fun vs' ws mu2 H2 h3 c2 d2 m2 => ⟨_, _, P, h3, ⟨_, _, rfl, rfl, ?_⟩, m2, k.step (c1.trans c2)⟩⟩
    rw [List.append_nil]
    exact d2
end
end Dv
set_option Elab.async false
set_option linter.all false
set_option maxRecDepth 100000
namespace K1
open PySem L2 Dv
section
variable {P : Program} {w : World} {K : PySem.W.Frag} {mg : Str → Option Value} {base : Heap}
abbrev s_is_world : Stmt := top 30
theorem sc_is_world : FnScope ["houses", "slots", "bears", "never", "lapses", "first", "lapse"] ["houses", "slots", "bears", "never", "lapses"] (defScope s_is_world) := ⟨rfl, rfl, rfl, by decide +kernel, rfl, by decide +kernel, by decide +kernel⟩
structure PsOk (ss : List Slot) (ps : List Pat) : Prop where
  each : ∀ p ∈ ps, PtOk ss p ∧ p ≠ []
  up : rising (ps.map ptW) = true
  len : ps.length ≤ 10
  no : oneHolds ss (firstS ss) ps = false
structure WdOk (v : Wd) : Prop where
  hs : HsOk v.houses
  ss : SsOk v.houses v.slots
  bears : PsOk v.slots v.bears
  some_ : v.bears ≠ []
  never : PsOk v.slots v.never
  len : v.lapses.length ≤ 4
  each : ∀ l ∈ v.lapses, LpOk v.slots l
theorem first_ok {hs : List Str} {ss : List Slot} (h : SsOk hs ss) : StOk ss (firstS ss) := by
  refine ⟨by unfold firstS; rw [List.length_map], fun x hx => ?_⟩
  obtain ⟨t, ht, rfl⟩ := List.mem_map.mp hx
  have := (h.each t ht)
  cases e : t.2.2 with
  | nil => have := this.lo; rw [e] at this; simp at this
  | cons a r => exact this.wm a (by rw [e]; simp)
theorem shaped_pts {ss : List Slot} {ps : List Pat} (nm : SsNm ss) (h : ∀ p ∈ ps, ∀ q ∈ p, PrOk ss q) : SeqAt.shaped (dat (ptsW ps)) = true := by
  unfold SeqAt.shaped ptsW
  simp only [dat, PyData.depth, PyData.canLay0]
  rw [dats_map]
  have := depth_all (fun p : Pat => dat (ptW p)) (n := 2) (xs := ps) fun p _ => depth_pt p
  rw [lay_all _ fun p hp => lay_pt (pt_names nm (h p hp)), decide_eq_true (by omega)]
  rfl
def S_is_world : SpW := S_t fun ws mu => ∃ v : Wd, ws = [nmW v.houses, slsW v.slots, ptsW v.bears, ptsW v.never, lpsW v.lapses] ∧ WdOk v
theorem d_is_world (D : Dfn K mg "is_world" s_is_world ["houses", "slots", "bears", "never", "lapses"]) (B : Bl mg) (D_are_houses : DefOk P w K mg base "are_houses" ["value"] 3 S_are_houses) (D_are_slots : DefOk P w K mg base "are_slots" ["houses", "value"] 4 S_are_slots) (D_are_full_patterns : DefOk P w K mg base "are_full_patterns" ["slots", "value"] 4 S_are_full) (D_first_stand : DefOk P w K mg base "first_stand" ["slots"] 1 S_first) (D_one_holds : DefOk P w K mg base "one_holds" ["slots", "patterns", "stand"] 2 S_one) (D_is_tuple : DefOk P w K mg base "is_tuple" ["value", "least", "most"] 1 S_is_tuple) (D_is_lapse : DefOk P w K mg base "is_lapse" ["slots", "value"] 5 S_is_lapse) : DefOk P w K mg base "is_world" ["houses", "slots", "bears", "never", "lapses"] 6 S_is_world := by
  refine dfnOk D sc_is_world (fun ws mu P ⟨⟨v, e, _⟩, _⟩ => by rw [e]; rfl) (fun f cdv A outer s H E hr ws mu Pt ⟨⟨v, e, ok⟩, h⟩ => ?_)
  subst e
  have hu65 : (A.deeper (PyProof.Rows.envOfC "is_world" (defScope s_is_world) s.heap.objs.size f cdv)).units + 65 < cLine := by have := hr.un; omega
  refine sss_cons ?_
  refine ss_if ?_
  refine st_of_w ?_
  refine sw_or ?_
  refine st_not ?_
  refine st_val ?_
  refine se_callD D_are_houses (hr.mono (by decide)) ?_
  refine sa_cons ?_
  refine se_var (i := 0) rfl ?_  -- houses
  refine sa_nil ?_
  have nm := ok.ss.nm ok.hs
  refine ⟨⟨v.houses, rfl, ok.hs⟩, fun mu1 e1 => ?_⟩
  refine sw_or1 ?_
  refine st_not ?_
  refine st_val ?_
  refine se_callD D_are_slots (hr.mono (by decide)) ?_
  refine sa_cons ?_
  refine se_var (i := 0) rfl ?_  -- houses
  refine sa_cons ?_
  refine se_var (i := 1) rfl ?_  -- slots
  refine sa_nil ?_
  refine ⟨⟨v.houses, v.slots, rfl, ok.hs, ok.ss⟩, fun mu2 e2 => ?_⟩
  refine sss_nil ?_
  refine sss_cons ?_
  refine ss_if ?_
  refine st_of_w ?_
  refine sw_or ?_
  refine st_not ?_
  refine st_val ?_
  refine se_callD D_are_full_patterns (hr.mono (by decide)) ?_
  refine sa_cons ?_
  refine se_var (i := 1) rfl ?_  -- slots
  refine sa_cons ?_
  refine se_var (i := 2) rfl ?_  -- bears
  refine sa_nil ?_
  refine ⟨⟨v.slots, v.bears, rfl, nm, ok.bears.each, ok.bears.up, ok.bears.len⟩, fun mu3 e3 => ?_⟩
  refine sw_or ?_
  refine st_not ?_
  refine st_val ?_
  refine se_callD D_are_full_patterns (hr.mono (by decide)) ?_
  refine sa_cons ?_
  refine se_var (i := 1) rfl ?_  -- slots
  refine sa_cons ?_
  refine se_var (i := 3) rfl ?_  -- never
  refine sa_nil ?_
  refine ⟨⟨v.slots, v.never, rfl, nm, ok.never.each, ok.never.up, ok.never.len⟩, fun mu4 e4 => ?_⟩
  refine sw_or1 ?_
  refine st_cmp (op_eqD hr.units) eq_w (nomark _) ?_  -- bears == ()
  refine se_var (i := 2) rfl ?_  -- bears
  refine se_tup ?_
  refine sa_nil ?_
  refine ⟨by decide, ?_⟩
  refine ⟨dat (ptsW v.bears), dat (.tup []), ?_, rfl, shaped_pts nm fun p hp => (ok.bears.each p hp).1.pr, by decide, ?_⟩
  · show (if plW (ptsW v.bears) = true then some (dat (ptsW v.bears)) else none) = _
    rw [if_pos (by unfold ptsW plW; exact plains_map _ plain_pt _)]
  have en : PyData.eqv (dat (ptsW v.bears)) (dat (W.tup [])) = false := by
    cases e : v.bears with
    | nil => exact absurd e ok.some_
    | cons q r => simp [ptsW, dat, dats, PyData.eqv, PyData.eqvAll]
  rw [en]
  refine sss_nil ?_
  refine sss_cons ?_
  refine ss_asg ?_
  refine se_callD D_first_stand (hr.mono (by decide)) ?_
  refine sa_cons ?_
  refine se_var (i := 1) rfl ?_  -- slots
  refine sa_nil ?_
  refine ⟨v.slots, rfl, Nat.le_trans ok.ss.hi (by decide), fun t ht z => ?_, fun mu5 e5 => ?_⟩
  · have := (ok.ss.each t ht).lo
    rw [z] at this
    simp at this
  refine sg_name (i := 5) ?_ sc_is_world.nd  -- first =
  refine sss_cons ?_
  refine ss_if ?_
  refine st_of_w ?_
  refine sw_or ?_
  refine st_val ?_
  refine se_callD D_one_holds (hr.mono (by decide)) ?_
  refine sa_cons ?_
  refine se_var (i := 1) rfl ?_  -- slots
  refine sa_cons ?_
  refine se_var (i := 2) rfl ?_  -- bears
  refine sa_cons ?_
  refine se_var (i := 5) rfl ?_  -- first
  refine sa_nil ?_
  refine ⟨v.slots, v.bears, firstS v.slots, rfl, nm, ok.ss.nd, first_ok ok.ss, fun p hp => ⟨(ok.bears.each p hp).1.pr, Nat.le_trans (ok.bears.each p hp).1.len (by decide)⟩, ok.bears.len, fun mu6 e6 => ?_⟩
  rw [ok.bears.no]
  refine sw_or1 ?_
  refine st_val ?_
  refine se_callD D_one_holds (hr.mono (by decide)) ?_
  refine sa_cons ?_
  refine se_var (i := 1) rfl ?_  -- slots
  refine sa_cons ?_
  refine se_var (i := 3) rfl ?_  -- never
  refine sa_cons ?_
  refine se_var (i := 5) rfl ?_  -- first
  refine sa_nil ?_
  refine ⟨v.slots, v.never, firstS v.slots, rfl, nm, ok.ss.nd, first_ok ok.ss, fun p hp => ⟨(ok.never.each p hp).1.pr, Nat.le_trans (ok.never.each p hp).1.len (by decide)⟩, ok.never.len, fun mu7 e7 => ?_⟩
  rw [ok.never.no]
  refine sss_nil ?_
  refine sss_cons ?_
  refine ss_ret ?_
  refine se_and ?_
  refine se_callD D_is_tuple (hr.mono (by decide)) ?_
  refine sa_cons ?_
  refine se_var (i := 4) rfl ?_  -- lapses
  refine sa_cons ?_
  refine se_int ?_  -- 0
  refine sa_cons ?_
  refine se_int ?_  -- 4
  refine sa_nil ?_
  refine ⟨_, 0, 4, rfl, fun r mu8 e e8 => ?_⟩
  refine bW_t (bit (a := 0) (b := 4) e (Nat.zero_le _) (by rw [List.length_map]; exact ok.len)) ?_
  refine se_one ?_
  refine se_all ?_ B.all
  refine se_lc (own := [("lapse", 6)]) (.nm 6) rfl sc_is_world.nd (blkOk_by (N := ["houses", "slots", "bears", "never", "lapses", "first", "lapse"]) (sc := defScope s_is_world) (by decide +kernel)) rfl (fun _ _ _ _ _ => (pg_name (i := 6) sc_is_world.nd rfl (Or.inl rfl))) (by intro _; rfl) ?_  -- [is_lapse(slots, lapse) for lapse in lapses]
  refine si_tup ?_
  refine se_var (i := 4) rfl ?_  -- lapses
  refine lc_all_t (fun _ _ => trivial) (by rw [List.length_map]; exact lt10 (Nat.le_trans ok.len (by decide))) InBlk.mono ?_ ?_
  · intro w mu' hw he
    obtain ⟨t, ht, rfl⟩ := List.mem_map.mp hw
    refine ⟨_, rfl, fun s H C cl fp => ?_⟩
    refine se_callD D_is_lapse (hr.mono (by decide)) ?_
    refine sa_cons ?_
    refine se_var (i := 1) rfl ?_  -- slots
    refine sa_cons ?_
    refine se_var (i := 6) rfl ?_  -- lapse
    refine sa_nil ?_
    exact ⟨⟨v.slots, t, rfl, nm, ok.each t ht⟩, fun mu4 e4 => ⟨rfl, e4⟩⟩
  exact fun mu9 e9 => h _ ((((((((e1.trans e2).trans e3).trans e4).trans e5).trans e6).trans e7).trans e8).trans e9)
end
end K1
set_option Elab.async false
set_option linter.all false
set_option maxRecDepth 100000
namespace K1
open PySem L2 Dv
def ExtBut (y : Addr) (mu mu' : Mu) : Prop := ∀ a c, a ≠ y → mu a = some c → mu' a = some c
theorem ExtBut.refl {y : Addr} {mu : Mu} : ExtBut y mu mu := fun _ _ _ h => h
theorem ExtBut.ext {y : Addr} {mu mu' mu2 : Mu} (e : ExtBut y mu mu') (e2 : Ext mu' mu2) : ExtBut y mu mu2 := fun a c h ha => e2 a c (e a c h ha)
theorem ExtBut.set {y : Addr} {mu mu' : Mu} {c : C} (e : ExtBut y mu mu') : ExtBut y mu (setM mu' y c) := fun a d h ha => by rw [setM_ne h]; exact e a d h ha
theorem ExtBut.all {y : Addr} {mu mu' : Mu} (e : ExtBut y mu mu') (h : mu y = none) : Ext mu mu' := fun a d ha => e a d (fun z => by rw [z, h] at ha; cases ha) ha
/-! worlds as instances -/
def wdFs (v : Wd) : List (Str × W) := [("houses", nmW v.houses), ("slots", slsW v.slots), ("bears", ptsW v.bears), ("never", ptsW v.never), ("lapses", lpsW v.lapses), ("first", nmW (firstS v.slots)), ("stands", .tup (standsW v.slots))]
structure WCls (K : PySem.W.Frag) (mg : Str → Option Value) (Cl : Addr) : Prop where
  cls : Cls K Cl
  houses : NoAttr K Cl "houses"
  slots : NoAttr K Cl "slots"
  bears : NoAttr K Cl "bears"
  never : NoAttr K Cl "never"
  lapses : NoAttr K Cl "lapses"
  first : NoAttr K Cl "first"
  stands : NoAttr K Cl "stands"
  glob : mg "World" = some (.ref Cl)
theorem raw_ok {hs : List Str} {ss : List Slot} (h : ∀ s ∈ ss, ∀ x ∈ s.2.2, NmOk x) : ∀ st ∈ raw ss, StOk ss st := by
  intro st hst
  refine ⟨by have := raw_each ss [[]] 0 (by simp) st hst; omega, ?_⟩
  have : ∀ (ss : List Slot) (acc : List (List Str)), (∀ s ∈ ss, ∀ x ∈ s.2.2, NmOk x) → (∀ st ∈ acc, ∀ x ∈ st, NmOk x) → ∀ st ∈ (ss.map (·.2.2)).foldl grow acc, ∀ x ∈ st, NmOk x := by
    intro ss
    induction ss with
    | nil => intro acc _ h2 st hst; exact h2 st hst
    | cons s ss ih =>
      intro acc h1 h2 st hst
      refine ih (grow acc s.2.2) (fun t ht => h1 t (by simp [ht])) (fun st hst => ?_) st hst
      unfold grow at hst
      obtain ⟨a, ha, hst⟩ := List.mem_flatMap.mp hst
      obtain ⟨x, hx, rfl⟩ := List.mem_map.mp hst
      intro y hy
      rcases List.mem_append.mp hy with hy | hy
      · exact h2 a ha y hy
      · rw [List.mem_singleton] at hy
        subst hy
        exact h1 s (by simp) y hx
  exact this ss [[]] h (by simp) st hst
theorem eqvAll_st : ∀ a b : List Str, PyData.eqvAll (dats (stW a)) (dats (stW b)) = decide (a = b)
  | [], [] => by simp [stW, dats, PyData.eqvAll]
  | [], y :: b => by simp [stW, dats, PyData.eqvAll]
  | x :: a, [] => by simp [stW, dats, PyData.eqvAll]
  | x :: a, y :: b => by
    have := eqvAll_st a b
    unfold stW at this ⊢
    simp only [List.map_cons, dats, dat, PyData.eqvAll, this, eqv_str]
    by_cases e : x = y <;> by_cases e' : a = b <;> simp [e, e']
theorem eqv_nm (a b : List Str) : PyData.eqv (dat (nmW a)) (dat (nmW b)) = decide (a = b) := by
  unfold nmW
  simp only [dat, PyData.eqv]
  exact eqvAll_st a b
theorem lay_nm {a : List Str} (h : ∀ x ∈ a, NmOk x) : (dat (nmW a)).canLay0 = true := by
  unfold nmW stW
  simp only [dat, PyData.canLay0]
  rw [dats_map]
  exact lay_all _ fun x hx => nm_ok (h x hx)
theorem shaped_nm {a : List Str} (h : ∀ x ∈ a, NmOk x) : SeqAt.shaped (dat (nmW a)) = true := by
  unfold SeqAt.shaped
  rw [lay_nm h, decide_eq_true (Nat.le_trans (depth_nm a) (by decide))]
  rfl
theorem standsW_mem {ss : List Slot} {u : W} : u ∈ standsW ss ↔ ∃ st ∈ raw ss, nmW st = u := by
  unfold standsW
  rw [(List.mergeSort_perm _ _).mem_iff, List.mem_map]
section
variable {P : Program} {w : World} {K : PySem.W.Frag} {mg : Str → Option Value} {base : Heap} {Cl : Addr}
abbrev s_World___init__ : Stmt := inClass (top 29) 0
theorem sc_World___init__ : FnScope ["self", "houses", "slots", "bears", "never", "lapses"] ["self", "houses", "slots", "bears", "never", "lapses"] (defScope s_World___init__) := ⟨rfl, rfl, rfl, by decide +kernel, rfl, by decide +kernel, by decide +kernel⟩
def S_init (Cl : Addr) : SpW := fun ws mu P => ∃ y v mu0, ws = [.m y, nmW v.houses, slsW v.slots, ptsW v.bears, ptsW v.never, lpsW v.lapses] ∧ mu0 y = none ∧ mu = setM mu0 y (.ins Cl []) ∧ WdOk v ∧ ∀ mu', Ext mu0 mu' → mu' y = some (.ins Cl (wdFs v)) → P .non mu'
theorem ss_self {X : Cx} {e : Expr} {G : Gs} {mu : Mu} {pos pos' p : Pos} {E : WE} {f : Str} {y Cl : Addr} {fs fs' : List (Str × W)} (hN : X.N[0]? = some ("self" : Str)) (hG : G[0]? = some (some (.m y))) (hv : Vis X.env.scope ("self" : Str)) (hc : Cls X.K Cl) (hn : NoAttr X.K Cl f)
    (h : SE X e G mu fun w mu1 => mu1 y = some (.ins Cl fs) ∧ fs.length < 100 ∧ putW fs f w = fs' ∧ E.nx G (setM mu1 y (.ins Cl fs')))
    (hs : swapsWith e (some (.Attribute (.Name ("self" : Str) p) f pos')) pos.line X.env = pure false := by rfl) : SS X (.Assign [.Attribute (.Name ("self" : Str) p) f pos'] e pos) G mu E := by
  refine ss_fld ?_ hs
  refine h.imp fun w mu1 ⟨h1, h2, h3, h4⟩ => ?_
  refine se_var (i := 0) hG ?_ hN hv
  subst h3
  exact ⟨y, Cl, fs, rfl, h1, hc, hn, by omega, h4⟩
theorem d_World_init (D : KDfn K mg "World" Cl "World.__init__" s_World___init__ ["self", "houses", "slots", "bears", "never", "lapses"]) (C : WCls K mg Cl) (B : Bl mg) (D_is_world : DefOk P w K mg base "is_world" ["houses", "slots", "bears", "never", "lapses"] 6 S_is_world) (D_first_stand : DefOk P w K mg base "first_stand" ["slots"] 1 S_first) (D_all_stands : DefOk P w K mg base "all_stands" ["slots"] 1 S_all) : MakOk P w K mg base "World" Cl ["self", "houses", "slots", "bears", "never", "lapses"] 7 (S_init Cl) := by
  refine makOk D sc_World___init__ (fun ws mu P ⟨y, v, mu0, e, _⟩ => by rw [e]; rfl) (fun f cdv A outer s H E hr ws mu Pt ⟨y, v, mu0, e, hy, em, ok, h⟩ => ?_)
  subst e em
  refine sss_cons ?_
  refine ss_if ?_
  refine st_not ?_
  refine st_val ?_
  refine se_callD D_is_world (hr.mono (by decide)) ?_
  refine sa_cons (se_var (i := 1) rfl (sa_cons (se_var (i := 2) rfl (sa_cons (se_var (i := 3) rfl (sa_cons (se_var (i := 4) rfl (sa_cons (se_var (i := 5) rfl (sa_nil ?_))))))))))
  refine ⟨⟨v, rfl, ok⟩, fun mu1 e1 => ?_⟩
  refine sss_nil ?_
  have hy1 : mu1 y = some (.ins Cl []) := e1 _ _ setM_same
  refine sss_cons ?_
  refine ss_self (fs := []) (fs' := [("houses", nmW v.houses)]) rfl rfl (Or.inl rfl) C.cls C.houses ?_
  refine se_var (i := 1) rfl ?_
  refine ⟨hy1, (by simp), putW_new (show ("houses" : Str) ∉ ([] : List Str) by decide +kernel), ?_⟩
  refine sss_cons ?_
  refine ss_self (fs := [("houses", nmW v.houses)]) (fs' := [("houses", nmW v.houses), ("slots", slsW v.slots)]) rfl rfl (Or.inl rfl) C.cls C.slots ?_
  refine se_var (i := 2) rfl ?_
  refine ⟨setM_same, (by simp), putW_new (show ("slots" : Str) ∉ (["houses"] : List Str) by decide +kernel), ?_⟩
  refine sss_cons ?_
  refine ss_self (fs := [("houses", nmW v.houses), ("slots", slsW v.slots)]) (fs' := [("houses", nmW v.houses), ("slots", slsW v.slots), ("bears", ptsW v.bears)]) rfl rfl (Or.inl rfl) C.cls C.bears ?_
  refine se_var (i := 3) rfl ?_
  refine ⟨setM_same, (by simp), putW_new (show ("bears" : Str) ∉ (["houses", "slots"] : List Str) by decide +kernel), ?_⟩
  refine sss_cons ?_
  refine ss_self (fs := [("houses", nmW v.houses), ("slots", slsW v.slots), ("bears", ptsW v.bears)]) (fs' := [("houses", nmW v.houses), ("slots", slsW v.slots), ("bears", ptsW v.bears), ("never", ptsW v.never)]) rfl rfl (Or.inl rfl) C.cls C.never ?_
  refine se_var (i := 4) rfl ?_
  refine ⟨setM_same, (by simp), putW_new (show ("never" : Str) ∉ (["houses", "slots", "bears"] : List Str) by decide +kernel), ?_⟩
  refine sss_cons ?_
  refine ss_self (fs := [("houses", nmW v.houses), ("slots", slsW v.slots), ("bears", ptsW v.bears), ("never", ptsW v.never)]) (fs' := [("houses", nmW v.houses), ("slots", slsW v.slots), ("bears", ptsW v.bears), ("never", ptsW v.never), ("lapses", lpsW v.lapses)]) rfl rfl (Or.inl rfl) C.cls C.lapses ?_
  refine se_var (i := 5) rfl ?_
  refine ⟨setM_same, (by simp), putW_new (show ("lapses" : Str) ∉ (["houses", "slots", "bears", "never"] : List Str) by decide +kernel), ?_⟩
  have nm := ok.ss.nm ok.hs
  have ne : ∀ t ∈ v.slots, 1 ≤ t.2.2.length := fun t ht => Nat.le_trans (by decide) (ok.ss.each t ht).lo
  refine sss_cons ?_
  refine ss_self (fs := [("houses", nmW v.houses), ("slots", slsW v.slots), ("bears", ptsW v.bears), ("never", ptsW v.never), ("lapses", lpsW v.lapses)]) (fs' := [("houses", nmW v.houses), ("slots", slsW v.slots), ("bears", ptsW v.bears), ("never", ptsW v.never), ("lapses", lpsW v.lapses), ("first", nmW (firstS v.slots))]) rfl rfl (Or.inl rfl) C.cls C.first ?_
  refine se_callD D_first_stand (hr.mono (by decide)) ?_
  refine sa_cons (se_var (i := 2) rfl (sa_nil ?_))
  refine ⟨v.slots, rfl, Nat.le_trans ok.ss.hi (by decide), fun t ht z => ?_, fun mu2 e2 => ?_⟩
  · have := ne t ht
    rw [z] at this
    simp at this
  refine ⟨e2 _ _ setM_same, (by simp), putW_new (show ("first" : Str) ∉ (["houses", "slots", "bears", "never", "lapses"] : List Str) by decide +kernel), ?_⟩
  refine sss_cons ?_
  refine ss_self (fs := [("houses", nmW v.houses), ("slots", slsW v.slots), ("bears", ptsW v.bears), ("never", ptsW v.never), ("lapses", lpsW v.lapses), ("first", nmW (firstS v.slots))]) (fs' := wdFs v) rfl rfl (Or.inl rfl) C.cls C.stands ?_
  refine se_callD D_all_stands (hr.mono (by decide)) ?_
  refine sa_cons (se_var (i := 2) rfl (sa_nil ?_))
  refine ⟨v.slots, rfl, fun z => ?_, Nat.le_trans ok.ss.hi (by decide), ne, ok.ss.many, fun mu3 e3 => ?_⟩
  · have := ok.ss.lo
    rw [z] at this
    simp at this
  refine ⟨e3 _ _ setM_same, (by simp), putW_new (show ("stands" : Str) ∉ (["houses", "slots", "bears", "never", "lapses", "first"] : List Str) by decide +kernel), ?_⟩
  refine sss_nil ?_
  exact h _ ((((((((((((ExtBut.refl.set).ext e1).set).set).set).set).set).ext e2).set).ext e3).set).all hy) setM_same
end
end K1
set_option Elab.async false
set_option linter.all false
set_option maxRecDepth 100000
/-! Whole numbers by values. -/
namespace Dv
open PySem L2
section
variable {X : Cx} {e a b c : Expr} {es : List Expr} {st : Stmt} {sts : List Stmt} {G : Gs} {mu mu' : Mu} {pos p apos cpos : Pos} {P : PW1}
abbrev iopW (Cc : Int → Int → Prop) (g : Int → Int → Int) (w1 w2 : W) (mu : Mu) (P : PW1) : Prop := match w1, w2 with | .int i, .int j => Cc i j ∧ P (.int (g i j)) mu | _, _ => False
abbrev iop0W (g : Int → Int → Int) (w1 w2 : W) (mu : Mu) (P : PW1) : Prop := match w1, w2 with | .int i, .int j => P (.int (g i j)) mu | _, _ => False
theorem iop_w {Cc : Int → Int → Prop} {g : Int → Int → Int} : OpW X (rI Cc fun i j => .int (g i j)) (iopW Cc g) := fun w1 w2 x y mu H P Q dx dy m h k => by
  unfold iopW at h
  split at h
  · rename_i i j
    exact ⟨i, j, dx, dy, h.1, k.now h.2 rfl m⟩
  · exact h.elim
theorem iop0_w {g : Int → Int → Int} : OpW X (rI0 fun i j => .int (g i j)) (iop0W g) := fun w1 w2 x y mu H P Q dx dy m h k => by
  unfold iop0W at h
  split at h
  · rename_i i j
    exact ⟨i, j, dx, dy, k.now h rfl m⟩
  · exact h.elim
abbrev intW (w : W) (mu : Mu) (P : PW1) : Prop := match w with | .int i => P (.int i) mu | .bl k => P (.int (if k then 1 else 0)) mu | _ => False
theorem int_w : CallW X (fun xs H Q => (∃ i, xs = [.int i] ∧ Q (.int i) H) ∨ ∃ k, xs = [.bl k] ∧ Q (.int (if k then 1 else 0)) H) fun ws mu P => match ws with | [w] => intW w mu P | _ => False := fun ws vs mu H P Q d m h k => by
  dsimp only at h
  split at h
  · rename_i w
    obtain ⟨v, rfl, d0⟩ := d.one
    unfold intW at h
    split at h
    · rename_i i
      exact .inl ⟨i, by rw [show v = .int i from d0], k.now h rfl m⟩
    · rename_i i
      exact .inr ⟨i, by rw [show v = .bl i from d0], k.now h rfl m⟩
    · exact h.elim
  · exact h.elim
theorem se_intC (h : SE X e G mu fun w mu1 => intW w mu1 P) (hm : X.mg "int" = none) (hv : bootBuiltins ("int" : Str) = some (.type "int") := by decide +kernel) (hg : Gl X "int" := by rfl) (hs : starEach [e] X.env = [(false, eval e X.env)] := by rfl) (hpl : (backTo pos (starEach [] X.env)).any (·.1) = false := by rfl) : SE X (.Call (.Name "int" p) [e] [] pos) G mu P :=
  se_bty call_int1 int_w hm (sa_one h hs) hv hg (by decide) (by decide) hs hpl
theorem abs_w : CallW X (fun xs H Q => ∃ i, xs = [.int i] ∧ Q (.int (if i < 0 then -i else i)) H) fun ws mu P => match ws with | [.int i] => P (.int (if i < 0 then -i else i)) mu | _ => False := fun ws vs mu H P Q d m h k => by
  dsimp only at h
  split at h
  · rename_i i
    obtain ⟨v, rfl, d0⟩ := d.one
    exact ⟨i, by rw [show v = .int i from d0], k.now h rfl m⟩
  · exact h.elim
theorem se_absC (h : SE X e G mu fun w mu1 => ∃ i, w = .int i ∧ P (.int (if i < 0 then -i else i)) mu1) (hm : X.mg "abs" = none) (hv : bootBuiltins ("abs" : Str) = some (.builtin "abs") := by decide +kernel) (hg : Gl X "abs" := by rfl) (hs : starEach [e] X.env = [(false, eval e X.env)] := by rfl) (hpl : (backTo pos (starEach [] X.env)).any (·.1) = false := by rfl) : SE X (.Call (.Name "abs" p) [e] [] pos) G mu P :=
  se_blt call_abs abs_w hm (sa_one (h.imp fun w mu' ⟨i, e, q⟩ => by subst e; exact q) hs) hv hg (by decide) (by decide) hs hpl
/-- the power of a base of more than 64 bits -/
theorem op_powW : OpR X (binaryOp .Pow) (rI (fun i j => 0 ≤ j ∧ (PySem.Builtin.Int.intBits i : Int) * j ≤ 2 ^ 27) fun i j => .int (i ^ j.toNat)) := opI fun _ _ _ _ _ _ _ hc q => PyProof.Rows.pow_int hc.1 hc.2 q
theorem op_Add : OpR X (binaryOp .Add) (rI0 fun i j => .int (i + j)) := op_add
theorem op_Sub : OpR X (binaryOp .Sub) (rI0 fun i j => .int (i - j)) := op_sub
theorem op_Mult : OpR X (binaryOp .Mult) (rI (fun i j => CMulW i j) fun i j => .int (i * j)) := op_mulW
theorem op_Mod : OpR X (binaryOp .Mod) (rI (fun i j => 0 < j) fun i j => .int (i % j)) := op_mod
theorem op_FloorDiv : OpR X (binaryOp .FloorDiv) (rI (fun i j => CDivW i j) fun i j => .int (i / j)) := op_fdivW
theorem op_Pow : OpR X (binaryOp .Pow) (rI (fun i j => CPow i j) fun i j => .int (i ^ j.toNat)) := op_pow
abbrev opAddV (w1 w2 : W) (mu : Mu) (P : PW1) : Prop := match w1, w2 with | .int i, .int j => P (.int (i + j)) mu | _, _ => False
theorem Add_w : OpW X (rI0 fun i j => .int (i + j)) opAddV := fun w1 w2 x y mu H P Q dx dy m h k => by
  unfold opAddV at h
  split at h
  · rename_i i j
    exact ⟨i, j, dx, dy, k.now h rfl m⟩
  · exact h.elim
abbrev opSubV (w1 w2 : W) (mu : Mu) (P : PW1) : Prop := match w1, w2 with | .int i, .int j => P (.int (i - j)) mu | _, _ => False
theorem Sub_w : OpW X (rI0 fun i j => .int (i - j)) opSubV := fun w1 w2 x y mu H P Q dx dy m h k => by
  unfold opSubV at h
  split at h
  · rename_i i j
    exact ⟨i, j, dx, dy, k.now h rfl m⟩
  · exact h.elim
abbrev opMultV (w1 w2 : W) (mu : Mu) (P : PW1) : Prop := match w1, w2 with | .int i, .int j => CMulW i j ∧ P (.int (i * j)) mu | _, _ => False
theorem Mult_w : OpW X (rI (fun i j => CMulW i j) fun i j => .int (i * j)) opMultV := fun w1 w2 x y mu H P Q dx dy m h k => by
  unfold opMultV at h
  split at h
  · rename_i i j
    exact ⟨i, j, dx, dy, h.1, k.now h.2 rfl m⟩
  · exact h.elim
abbrev opModV (w1 w2 : W) (mu : Mu) (P : PW1) : Prop := match w1, w2 with | .int i, .int j => 0 < j ∧ P (.int (i % j)) mu | _, _ => False
theorem Mod_w : OpW X (rI (fun i j => 0 < j) fun i j => .int (i % j)) opModV := fun w1 w2 x y mu H P Q dx dy m h k => by
  unfold opModV at h
  split at h
  · rename_i i j
    exact ⟨i, j, dx, dy, h.1, k.now h.2 rfl m⟩
  · exact h.elim
abbrev opFloorDivV (w1 w2 : W) (mu : Mu) (P : PW1) : Prop := match w1, w2 with | .int i, .int j => CDivW i j ∧ P (.int (i / j)) mu | _, _ => False
theorem FloorDiv_w : OpW X (rI (fun i j => CDivW i j) fun i j => .int (i / j)) opFloorDivV := fun w1 w2 x y mu H P Q dx dy m h k => by
  unfold opFloorDivV at h
  split at h
  · rename_i i j
    exact ⟨i, j, dx, dy, h.1, k.now h.2 rfl m⟩
  · exact h.elim
abbrev opPowV (w1 w2 : W) (mu : Mu) (P : PW1) : Prop := match w1, w2 with | .int i, .int j => CPow i j ∧ P (.int (i ^ j.toNat)) mu | _, _ => False
theorem Pow_w : OpW X (rI (fun i j => CPow i j) fun i j => .int (i ^ j.toNat)) opPowV := fun w1 w2 x y mu H P Q dx dy m h k => by
  unfold opPowV at h
  split at h
  · rename_i i j
    exact ⟨i, j, dx, dy, h.1, k.now h.2 rfl m⟩
  · exact h.elim
abbrev opPowWV (w1 w2 : W) (mu : Mu) (P : PW1) : Prop := match w1, w2 with | .int i, .int j => (0 ≤ j ∧ (PySem.Builtin.Int.intBits i : Int) * j ≤ 2 ^ 27) ∧ P (.int (i ^ j.toNat)) mu | _, _ => False
theorem PowW_w : OpW X (rI (fun i j => (0 ≤ j ∧ (PySem.Builtin.Int.intBits i : Int) * j ≤ 2 ^ 27)) fun i j => .int (i ^ j.toNat)) opPowWV := fun w1 w2 x y mu H P Q dx dy m h k => by
  unfold opPowWV at h
  split at h
  · rename_i i j
    exact ⟨i, j, dx, dy, h.1, k.now h.2 rfl m⟩
  · exact h.elim
/-! texts and tuples put together -/
abbrev catW (w1 w2 : W) (mu : Mu) (P : PW1) : Prop := match w1, w2 with | .str i, .str j => i.length + j.length ≤ sizeLine ∧ P (.str (i ++ j)) mu | _, _ => False
theorem cat_w : OpW X (fun x y H Q => ∃ i j, x = .str i ∧ y = .str j ∧ i.length + j.length ≤ sizeLine ∧ Q (.str (i ++ j)) H) catW := fun w1 w2 x y mu H P Q dx dy m h k => by
  unfold catW at h
  split at h
  · rename_i i j
    exact ⟨i, j, dx, dy, h.1, k.now h.2 rfl m⟩
  · exact h.elim
end
end Dv
set_option Elab.async false
set_option linter.all false
set_option maxRecDepth 100000
namespace K1
open PySem L2 Dv
/-- the law's jar: three whole numbers, drawn from at most c times -/
structure JarOk (mu : Mu) (p : Addr) (c : Nat) : Prop where
  ex : ∃ a b n : Int, mu p = some (.lst [.int a, .int b, .int n]) ∧ 0 ≤ a ∧ a < 10 ^ 300 ∧ 0 ≤ b ∧ b < 2 ^ 61 ∧ 0 ≤ n ∧ n ≤ c
theorem JarOk.mono {mu : Mu} {p : Addr} {c c' : Nat} (h : JarOk mu p c) (l : c ≤ c') : JarOk mu p c' := by
  obtain ⟨a, b, n, h1, h2, h3, h4, h5, h6, h7⟩ := h.ex
  exact ⟨a, b, n, h1, h2, h3, h4, h5, h6, by omega⟩
theorem JarOk.ext {mu mu' : Mu} {p : Addr} {c : Nat} (h : JarOk mu p c) (e : Ext mu mu') : JarOk mu' p c := by
  obtain ⟨a, b, n, h1, h2⟩ := h.ex
  exact ⟨a, b, n, e _ _ h1, h2⟩
theorem JarOk.ne {mu : Mu} {p q : Addr} {c : Nat} (h : JarOk mu p c) (hq : mu q = none) : p ≠ q := by
  obtain ⟨a, b, n, h1, h2⟩ := h.ex
  intro z
  rw [z, hq] at h1
  cases h1
theorem JarOk.set {mu : Mu} {p q : Addr} {c : Nat} {x : C} (h : JarOk mu p c) (hq : p ≠ q) : JarOk (setM mu q x) p c := by
  obtain ⟨a, b, n, h1, h2⟩ := h.ex
  exact ⟨a, b, n, by rw [setM_ne hq]; exact h1, h2⟩
theorem log2_lt {n m : Nat} (h : n < 2 ^ m) (hm : 1 ≤ m) : n.log2 < m := by
  by_cases z : n = 0
  · subst z; simp; omega
  · exact (Nat.log2_lt z).mpr h
theorem cmulW {i j : Int} (a b : Nat) (hi : i.natAbs < 2 ^ a) (hj : j.natAbs < 2 ^ b) (ha : 1 ≤ a) (hb : 1 ≤ b) (h : a + b < 1000000) : CMulW i j := by
  have h1 := log2_lt hi ha
  have h2 := log2_lt hj hb
  unfold CMulW
  omega
theorem cdivW {i j : Int} (b : Nat) (h0 : 0 < j) (hj : j.natAbs < 2 ^ b) (hb : 1 ≤ b) (h : b < 9000) : CDivW i j := ⟨h0, by have := log2_lt hj hb; omega⟩
theorem ExtBut.setNew {y q : Addr} {mu mu' : Mu} {c : C} (e : ExtBut y mu mu') (h : mu' q = none) : ExtBut y mu (setM mu' q c) := fun a d hn ha => by
  have := e a d hn ha
  rw [setM_ne (fun z => by rw [z, h] at this; cases this)]
  exact this
theorem ExtBut.trans {y : Addr} {mu mu' mu2 : Mu} (e : ExtBut y mu mu') (e2 : ExtBut y mu' mu2) : ExtBut y mu mu2 := fun a c h ha => e2 a c h (e a c h ha)
theorem Ext.but {y : Addr} {mu mu' : Mu} (e : Ext mu mu') : ExtBut y mu mu' := fun a c _ ha => e a c ha
section
variable {P : Program} {w : World} {K : PySem.W.Frag} {mg : Str → Option Value} {base : Heap}
abbrev s_Ltake : Stmt := top 69
theorem sc_Ltake : FnScope ["_law_jar_here", "_law_many", "_law_digit", "_law_prime", "_law_made_here"] ["_law_jar_here", "_law_many"] (defScope s_Ltake) := ⟨rfl, rfl, rfl, by decide +kernel, rfl, by decide +kernel, by decide +kernel⟩
def S_take : SpW := fun ws mu P => ∃ p m c, ws = [.m p, .int m] ∧ 1 ≤ m ∧ m ≤ 1000 ∧ JarOk mu p c ∧ c < 10000 ∧ ∀ r mu', 0 ≤ r → r < m → JarOk mu' p (c + 1) → ExtBut p mu mu' → P (.int r) mu'
theorem primes (n : Int) (h : 0 ≤ n) : ∃ q : Int, atI [W.int 2147483647, .int 2147483629, .int 2147483587, .int 2147483579, .int 2147483563] (n % 5) = some (.int q) ∧ 0 < q ∧ q < 2147483648 := by
  have h1 : n % 5 = 0 ∨ n % 5 = 1 ∨ n % 5 = 2 ∨ n % 5 = 3 ∨ n % 5 = 4 := by omega
  rcases h1 with h1 | h1 | h1 | h1 | h1 <;> rw [h1] <;> exact ⟨_, rfl, by decide, by decide⟩
theorem d_Ltake (D : Dfn K mg "_law_take" s_Ltake ["_law_jar_here", "_law_many"]) (B : Bl mg) : DefOk P w K mg base "_law_take" ["_law_jar_here", "_law_many"] 1 S_take := by
  refine dfnOk D sc_Ltake (fun ws mu P ⟨p, m, c, e, _⟩ => by rw [e]; rfl) (fun f cdv A outer s H E hr ws mu Pt ⟨p, m, c, e, m1, m2, jar, c1, h⟩ => ?_)
  subst e
  obtain ⟨a, b, n, hp, a0, a1, b0, b1, n0, n1⟩ := jar.ex
  refine sss_cons ?_
  refine ss_if ?_
  refine st_cmp op_gt cmpI_w (nomark _) ?_  -- _law_jar_here[0] > 0
  refine se_ix ?_  -- _law_jar_here[0]
  refine se_var (i := 0) rfl ?_  -- _law_jar_here
  refine se_int ?_  -- 0
  refine ⟨_, _, hp, atI_nat' (i := 0) rfl, ?_⟩
  refine se_int ?_  -- 0
  by_cases ha : 0 < a
  · show if2 (decide (0 < a)) _ _
    rw [decide_eq_true ha]
    refine sss_cons ?_
    refine ss_asg ?_
    refine se_bin op_Mod Mod_w ?_
    refine se_intC ?_ B.int
    refine se_ix ?_  -- _law_jar_here[0]
    refine se_var (i := 0) rfl ?_  -- _law_jar_here
    refine se_int ?_  -- 0
    refine ⟨_, _, hp, atI_nat' (i := 0) rfl, ?_⟩
    refine se_var (i := 1) rfl ?_  -- _law_many
    refine ⟨by omega, ?_⟩
    refine sg_name (i := 2) ?_ sc_Ltake.nd  -- _law_digit =
    refine sss_cons ?_
    refine ss_stL ?_ -- or ss_dput (hu_of hr)
    refine se_bin op_FloorDiv FloorDiv_w ?_
    refine se_ix ?_  -- _law_jar_here[0]
    refine se_var (i := 0) rfl ?_  -- _law_jar_here
    refine se_int ?_  -- 0
    refine ⟨_, _, hp, atI_nat' (i := 0) rfl, ?_⟩
    refine se_var (i := 1) rfl ?_  -- _law_many
    refine ⟨cdivW 10 (by omega) (by omega) (by decide) (by decide), ?_⟩
    refine se_var (i := 0) rfl ?_  -- _law_jar_here
    refine se_int ?_  -- 0
    refine ⟨_, 0, hp, rfl, ?_⟩
    refine sss_cons ?_
    refine ss_ret ?_
    refine se_var (i := 2) rfl ?_  -- _law_digit
    refine h _ _ (Int.emod_nonneg _ (by omega)) (Int.emod_lt_of_pos _ (by omega)) ⟨a / m, b, n, setM_same, Int.ediv_nonneg a0 (by omega), ?_, b0, b1, n0, by omega⟩ ExtBut.refl.set
    exact Int.lt_of_le_of_lt (Int.ediv_le_self _ a0) a1
  · show if2 (decide (0 < a)) _ _
    rw [decide_eq_false ha]
    refine sss_nil ?_
    refine sss_cons ?_
    refine ss_stL ?_ -- or ss_dput (hu_of hr)
    refine se_bin op_Add Add_w ?_
    refine se_ix ?_  -- _law_jar_here[2]
    refine se_var (i := 0) rfl ?_  -- _law_jar_here
    refine se_int ?_  -- 2
    refine ⟨_, _, hp, atI_nat' (i := 2) rfl, ?_⟩
    refine se_int ?_  -- 1
    refine se_var (i := 0) rfl ?_  -- _law_jar_here
    refine se_int ?_  -- 2
    refine ⟨_, 2, hp, rfl, ?_⟩
    have hn : ∃ n', n' = n + 1 := ⟨_, rfl⟩
    obtain ⟨n', hn⟩ := hn
    rw [← hn]
    have n0' : 0 ≤ n' := by omega
    have n1' : n' ≤ 10000 := by omega
    obtain ⟨q, hq, q0, q1⟩ := primes n' n0'
    refine sss_cons ?_
    refine ss_asg ?_
    refine se_ix ?_
    refine se_lst ?_
    refine sa_cons (se_int (sa_cons (se_int (sa_cons (se_int (sa_cons (se_int (sa_cons (se_int (sa_nil ?_))))))))))
    refine ⟨by decide, fun p1 np => ?_⟩
    have hne : p ≠ p1 := fun z => by rw [← z, setM_same] at np; cases np
    have hp2 : setM (setM mu p (.lst [.int a, .int b, .int n'])) p1 (.lst [.int 2147483647, .int 2147483629, .int 2147483587, .int 2147483579, .int 2147483563]) p = some (.lst [.int a, .int b, .int n']) := by rw [setM_ne hne, setM_same]
    refine se_bin op_Mod Mod_w ?_
    refine se_intC ?_ B.int
    refine se_ix ?_  -- _law_jar_here[2]
    refine se_var (i := 0) rfl ?_  -- _law_jar_here
    refine se_int ?_  -- 2
    refine ⟨_, _, hp2, atI_nat' (i := 2) rfl, ?_⟩
    refine se_int ?_  -- 5
    refine ⟨by decide, ?_⟩
    refine ⟨_, _, setM_same, hq, ?_⟩
    refine sg_name (i := 3) ?_ sc_Ltake.nd  -- _law_prime =
    refine sss_cons ?_
    refine ss_asg ?_
    refine se_bin op_Mod Mod_w ?_
    refine se_intC ?_ B.int
    refine se_bin op_Pow Pow_w ?_
    refine se_bin op_Add Add_w ?_
    refine se_bin op_Add Add_w ?_
    refine se_ix ?_  -- _law_jar_here[1]
    refine se_var (i := 0) rfl ?_  -- _law_jar_here
    refine se_int ?_  -- 1
    refine ⟨_, _, hp2, atI_nat' (i := 1) rfl, ?_⟩
    refine se_bin op_Mult Mult_w ?_
    refine se_bin op_Mult Mult_w ?_
    refine se_int ?_  -- 99877
    refine se_ix ?_  -- _law_jar_here[2]
    refine se_var (i := 0) rfl ?_  -- _law_jar_here
    refine se_int ?_  -- 2
    refine ⟨_, _, hp2, atI_nat' (i := 2) rfl, ?_⟩
    refine ⟨cmulW 17 14 (by omega) (by omega) (by decide) (by decide) (by decide), ?_⟩
    refine se_ix ?_  -- _law_jar_here[2]
    refine se_var (i := 0) rfl ?_  -- _law_jar_here
    refine se_int ?_  -- 2
    refine ⟨_, _, hp2, atI_nat' (i := 2) rfl, ?_⟩
    refine ⟨cmulW 31 14 (by omega) (by omega) (by decide) (by decide) (by decide), ?_⟩
    have sq : 99877 * n' * n' ≤ 998770000 * 10000 := Int.mul_le_mul (by omega) (by omega) (by omega) (by omega)
    have sq0 : 0 ≤ 99877 * n' * n' := Int.mul_nonneg (by omega) (by omega)
    have hx : ∃ x, x = 99877 * n' * n' := ⟨_, rfl⟩
    obtain ⟨x, hx⟩ := hx
    rw [← hx] at sq sq0 ⊢
    refine se_int ?_  -- 71
    refine se_int ?_  -- 3
    refine ⟨⟨by decide, by decide, by omega⟩, ?_⟩
    refine se_var (i := 3) rfl ?_  -- _law_prime
    refine ⟨q0, ?_⟩
    have hy : ∃ y, y = (b + x + 71) ^ (3 : Int).toNat % q := ⟨_, rfl⟩
    obtain ⟨y, hy⟩ := hy
    have y0 : 0 ≤ y := by rw [hy]; exact Int.emod_nonneg _ (by omega)
    have y1 : y < q := by rw [hy]; exact Int.emod_lt_of_pos _ q0
    rw [← hy]
    refine sg_name (i := 4) ?_ sc_Ltake.nd  -- _law_made_here =
    refine sss_cons ?_
    refine ss_asg ?_
    refine se_bin op_Mod Mod_w ?_
    refine se_intC ?_ B.int
    refine se_bin op_Mult Mult_w ?_
    refine se_var (i := 4) rfl ?_  -- _law_made_here
    refine se_bin op_Add Add_w ?_
    refine se_bin op_Mod Mod_w ?_
    refine se_intC ?_ B.int
    refine se_var (i := 4) rfl ?_  -- _law_made_here
    refine se_int ?_  -- 10007
    refine ⟨by decide, ?_⟩
    refine se_bin op_Mult Mult_w ?_
    refine se_int ?_  -- 89
    refine se_ix ?_  -- _law_jar_here[2]
    refine se_var (i := 0) rfl ?_  -- _law_jar_here
    refine se_int ?_  -- 2
    refine ⟨_, _, hp2, atI_nat' (i := 2) rfl, ?_⟩
    refine ⟨cmulW 7 14 (by omega) (by omega) (by decide) (by decide) (by decide), ?_⟩
    refine ⟨cmulW 31 20 (by omega) (by omega) (by decide) (by decide) (by decide), ?_⟩
    refine se_int ?_  -- 2305843009213693907
    refine ⟨by decide, ?_⟩
    refine sg_name (i := 4) ?_ sc_Ltake.nd  -- _law_made_here =
    refine sss_cons ?_
    refine ss_ret ?_
    refine se_bin op_Mod Mod_w ?_
    refine se_intC ?_ B.int
    refine se_bin op_FloorDiv FloorDiv_w ?_
    refine se_var (i := 4) rfl ?_  -- _law_made_here
    refine se_int ?_  -- 83
    refine ⟨cdivW 7 (by decide) (by decide) (by decide) (by decide), ?_⟩
    refine se_var (i := 1) rfl ?_  -- _law_many
    refine ⟨by omega, ?_⟩
    exact h _ _ (Int.emod_nonneg _ (by omega)) (Int.emod_lt_of_pos _ (by omega)) ⟨a, b, n', hp2, a0, a1, b0, b1, n0', by omega⟩ (ExtBut.refl.set.setNew np)
end
end K1
set_option Elab.async false
set_option linter.all false
set_option maxRecDepth 100000
namespace K1
open PySem L2 Dv
section
variable {P : Program} {w : World} {K : PySem.W.Frag} {mg : Str → Option Value} {base : Heap}
theorem atI_lt {α : Type} {xs : List α} {r : Int} (h0 : 0 ≤ r) (h1 : r < xs.length) : ∃ x ∈ xs, atI xs r = some x := by
  obtain ⟨n, rfl⟩ : ∃ n : Nat, r = n := ⟨r.toNat, by omega⟩
  have hr : n < xs.length := by omega
  exact ⟨xs[n], List.getElem_mem hr, atI_nat' (List.getElem?_eq_getElem hr)⟩
/-- what _law_of may choose from -/
def OfV (mu : Mu) (p : Addr) (v : W) (us : List W) : Prop := v = .tup us ∨ (∃ a, v = .m a ∧ a ≠ p ∧ mu a = some (.lst us)) ∨ ∃ z : Str, v = .str z ∧ z.length ≤ sizeLine ∧ us = z.cps.toList.map fun c => .str ⟨#[c]⟩
abbrev s_Lof : Stmt := top 70
theorem sc_Lof : FnScope ["_law_jar_here", "_law_some"] ["_law_jar_here", "_law_some"] (defScope s_Lof) := ⟨rfl, rfl, rfl, by decide +kernel, rfl, by decide +kernel, by decide +kernel⟩
def S_of : SpW := fun ws mu P => ∃ p v us c, ws = [.m p, v] ∧ OfV mu p v us ∧ us ≠ [] ∧ us.length ≤ 1000 ∧ JarOk mu p c ∧ c < 10000 ∧ ∀ u mu', u ∈ us → JarOk mu' p (c + 1) → ExtBut p mu mu' → P u mu'
abbrev DTake (P : Program) (w : World) (K : PySem.W.Frag) (mg : Str → Option Value) (base : Heap) : Prop := DefOk P w K mg base "_law_take" ["_law_jar_here", "_law_many"] 1 S_take
abbrev DOf (P : Program) (w : World) (K : PySem.W.Frag) (mg : Str → Option Value) (base : Heap) : Prop := DefOk P w K mg base "_law_of" ["_law_jar_here", "_law_some"] 2 S_of
theorem d_Lof (D : Dfn K mg "_law_of" s_Lof ["_law_jar_here", "_law_some"]) (B : Bl mg) (D_take : DTake P w K mg base) : DOf P w K mg base := by
  refine dfnOk D sc_Lof (fun ws mu P ⟨p, v, us, c, e, _⟩ => by rw [e]; rfl) (fun f cdv A outer s H E hr ws mu Pt ⟨p, v, us, c, e, hv, ne, l1, jar, c1, h⟩ => ?_)
  subst e
  have pos : 1 ≤ us.length := by cases us with | nil => exact absurd rfl ne | cons a r => simp
  refine sss_cons ?_
  refine ss_ret ?_
  refine se_ix ?_
  refine se_var (i := 1) rfl ?_  -- _law_some
  refine se_callD D_take (hr.mono (by decide)) ?_
  refine sa_cons ?_
  refine se_var (i := 0) rfl ?_  -- _law_jar_here
  refine sa_cons ?_
  refine se_len ?_ B.len
  refine se_var (i := 1) rfl ?_  -- _law_some
  rcases hv with rfl | ⟨a, rfl, hne, ha⟩ | ⟨z, rfl, hz, rfl⟩
  · refine sa_nil ?_
    refine ⟨p, _, c, rfl, by omega, by omega, jar, c1, fun r mu' r0 r1 j' e' => ?_⟩
    obtain ⟨x, hx, q⟩ := atI_lt r0 r1
    exact ⟨x, q, h _ _ hx j' e'⟩
  · refine ⟨us, ha, ?_⟩
    refine sa_nil ?_
    refine ⟨p, _, c, rfl, by omega, by omega, jar, c1, fun r mu' r0 r1 j' e' => ?_⟩
    obtain ⟨x, hx, q⟩ := atI_lt r0 r1
    exact ⟨us, x, e' _ _ hne ha, q, h _ _ hx j' e'⟩
  · rw [List.length_map] at pos l1
    refine ⟨hz, ?_⟩
    refine sa_nil ?_
    have el : (z.length : Int) = z.cps.toList.length := by rw [Array.length_toList]; rfl
    refine ⟨p, _, c, rfl, by omega, by omega, jar, c1, fun r mu' r0 r1 j' e' => ?_⟩
    obtain ⟨x, hx, q⟩ := atI_lt r0 (el ▸ r1)
    exact ⟨x, hz, q, h _ _ (List.mem_map.mpr ⟨x, hx, rfl⟩) j' e'⟩
/-! the law's own words of a world, in a dict -/
structure Lore (mu : Mu) (L : Addr) (v : Wd) : Prop where
  ex : ∃ kvs, isDic mu L kvs ∧ valW kvs (.inr "houses") = some (nmW v.houses) ∧ valW kvs (.inr "slots") = some (slsW v.slots) ∧ valW kvs (.inr "bears") = some (ptsW v.bears) ∧ valW kvs (.inr "never") = some (ptsW v.never) ∧ valW kvs (.inr "lapses") = some (lpsW v.lapses)
theorem Lore.ext {mu mu' : Mu} {L : Addr} {v : Wd} (h : Lore mu L v) (e : Ext mu mu') : Lore mu' L v := by
  obtain ⟨kvs, ⟨h1, h2⟩, h3⟩ := h.ex
  exact ⟨kvs, ⟨e _ _ h1, h2⟩, h3⟩
theorem Lore.houses {mu : Mu} {L : Addr} {v : Wd} (h : Lore mu L v) {P : PW1} (q : P (nmW v.houses) mu) : dgW (.m L) (.str "houses") mu P := let ⟨kvs, d, h1, h2, h3, h4, h5⟩ := h.ex; ⟨L, kvs, .inr "houses", _, rfl, d.1, rfl, h1, q⟩
theorem Lore.slots {mu : Mu} {L : Addr} {v : Wd} (h : Lore mu L v) {P : PW1} (q : P (slsW v.slots) mu) : dgW (.m L) (.str "slots") mu P := let ⟨kvs, d, h1, h2, h3, h4, h5⟩ := h.ex; ⟨L, kvs, .inr "slots", _, rfl, d.1, rfl, h2, q⟩
theorem Lore.bears {mu : Mu} {L : Addr} {v : Wd} (h : Lore mu L v) {P : PW1} (q : P (ptsW v.bears) mu) : dgW (.m L) (.str "bears") mu P := let ⟨kvs, d, h1, h2, h3, h4, h5⟩ := h.ex; ⟨L, kvs, .inr "bears", _, rfl, d.1, rfl, h3, q⟩
theorem Lore.never {mu : Mu} {L : Addr} {v : Wd} (h : Lore mu L v) {P : PW1} (q : P (ptsW v.never) mu) : dgW (.m L) (.str "never") mu P := let ⟨kvs, d, h1, h2, h3, h4, h5⟩ := h.ex; ⟨L, kvs, .inr "never", _, rfl, d.1, rfl, h4, q⟩
theorem Lore.lapses {mu : Mu} {L : Addr} {v : Wd} (h : Lore mu L v) {P : PW1} (q : P (lpsW v.lapses) mu) : dgW (.m L) (.str "lapses") mu P := let ⟨kvs, d, h1, h2, h3, h4, h5⟩ := h.ex; ⟨L, kvs, .inr "lapses", _, rfl, d.1, rfl, h5, q⟩
def fiveW (v : Wd) : List W := [nmW v.houses, slsW v.slots, ptsW v.bears, ptsW v.never, lpsW v.lapses]
abbrev s_Lmade : Stmt := top 73
theorem sc_Lmade : FnScope ["_law_lore"] ["_law_lore"] (defScope s_Lmade) := ⟨rfl, rfl, rfl, by decide +kernel, rfl, by decide +kernel, by decide +kernel⟩
def S_made (Cl : Addr) : SpW := fun ws mu P => ∃ L v, ws = [.m L] ∧ Lore mu L v ∧ WdOk v ∧ ∀ y mu', mu y = none → Ext mu mu' → mu' y = some (.ins Cl (wdFs v)) → P (.m y) mu'
theorem d_Lmade {Cl : Addr} (D : Dfn K mg "_law_made" s_Lmade ["_law_lore"]) (D_World : MakOk P w K mg base "World" Cl ["self", "houses", "slots", "bears", "never", "lapses"] 7 (S_init Cl)) : DefOk P w K mg base "_law_made" ["_law_lore"] 9 (S_made Cl) := by
  refine dfnOk D sc_Lmade (fun ws mu P ⟨L, v, e, _⟩ => by rw [e]; rfl) (fun f cdv A outer s H E hr ws mu Pt ⟨L, v, e, lore, ok, h⟩ => ?_)
  subst e
  refine sss_cons ?_
  refine ss_ret ?_
  refine se_make D_World (hr.mono (by decide)) ?_
  refine sa_cons (se_dget (hu_of hr) (se_var (i := 0) rfl (se_str (lore.houses ?_))))
  refine sa_cons (se_dget (hu_of hr) (se_var (i := 0) rfl (se_str (lore.slots ?_))))
  refine sa_cons (se_dget (hu_of hr) (se_var (i := 0) rfl (se_str (lore.bears ?_))))
  refine sa_cons (se_dget (hu_of hr) (se_var (i := 0) rfl (se_str (lore.never ?_))))
  refine sa_cons (se_dget (hu_of hr) (se_var (i := 0) rfl (se_str (lore.lapses ?_))))
  refine sa_nil fun y hy => ?_
  exact ⟨y, v, mu, rfl, hy, rfl, ok, fun mu' e' hc => ⟨rfl, h y mu' hy e' hc⟩⟩
end
end K1
set_option Elab.async false
set_option linter.all false
set_option maxRecDepth 100000
namespace K1
open PySem L2 Dv
theorem ExtBut.own {y p : Addr} {mu mu' : Mu} {c : C} (e : ExtBut y mu mu') (h : mu p = none) : ExtBut y mu (setM mu' p c) := fun a d hn ha => by
  rw [setM_ne fun z => by rw [z, h] at ha; cases ha]
  exact e a d hn ha
theorem seq_nat {r : Nat} {n : Nat} (h : r < n) : seqIndex? (r : Int) n = some r := (ixN_seq (j := r) (by unfold ixN; simp [h])).1
theorem erase_perm : ∀ (l : List Str) (k : Nat) (h : k < l.length), (l[k] :: l.eraseIdx k).Perm l
  | x :: r, 0, _ => List.Perm.refl _
  | x :: r, k + 1, h => by
    have := erase_perm r k (by simpa using h)
    simp only [List.getElem_cons_succ, List.eraseIdx_cons_succ]
    exact (List.Perm.swap x _ _).trans (this.cons x)
theorem stW_len (ns : List Str) : (stW ns).length = ns.length := by unfold stW; rw [List.length_map]
theorem stW_erase : ∀ (ns : List Str) (k : Nat), (stW ns).eraseIdx k = stW (ns.eraseIdx k)
  | [], _ => rfl
  | n :: r, 0 => rfl
  | n :: r, k + 1 => by
    have := stW_erase r k
    unfold stW at this ⊢
    simp only [List.map_cons, List.eraseIdx_cons_succ, this]
end K1
namespace Dv
open PySem L2
theorem se_listC {X : Cx} {e : Expr} {G : Gs} {mu : Mu} {pos p : Pos} {P : PW1} (h : SE X e G mu fun w mu1 => listW [w] mu1 P) (hm : X.mg "list" = none) (hv : bootBuiltins ("list" : Str) = some (.type "list") := by decide +kernel) (hg : Gl X "list" := by rfl) (he : starEach [e] X.env = [(false, eval e X.env)] := by rfl) (hpl : (backTo pos (starEach [] X.env)).any (·.1) = false := by rfl) : SE X (.Call (.Name "list" p) [e] [] pos) G mu P :=
  se_bty call_list_of list_w hm (sa_one h he) hv hg (by decide) (by decide) he hpl
end Dv
namespace K1
open PySem L2 Dv
section
variable {P : Program} {w : World} {K : PySem.W.Frag} {mg : Str → Option Value} {base : Heap}
theorem ne_nil {mu : Mu} {a b : Addr} {ns : List Str} {P : PW1} (ha : mu a = some (.lst (stW ns))) (hb : mu b = some (.lst [])) (hn : ∀ n ∈ ns, NmOk n) (h : P (.bl (!decide (ns = []))) mu) : neW (.m a) (.m b) mu P := by
  refine ⟨.list (dats (stW ns)), .list [], ?_, ?_, ?_, by decide, ?_⟩
  · simp only [asD, ha]
    show (if plsW (stW ns) = true then some (PyData.list (dats (stW ns))) else none) = _
    rw [if_pos (show plsW (stW ns) = true from plains_map _ plain_str ns)]
  · simp only [asD, hb]
    rfl
  · have hl : (PyData.list (dats (stW ns))).canLay0 = true := by
      unfold stW
      simp only [PyData.canLay0]
      rw [dats_map]
      exact lay_all (fun z : Str => dat (.str z)) fun x hx => nm_ok (hn x hx)
    have hd : (PyData.list (dats (stW ns))).depth ≤ 64 := by
      unfold stW
      simp only [PyData.depth]
      rw [dats_map]
      have := depth_all (fun z : Str => dat (.str z)) (n := 0) (xs := ns) fun z _ => by simp [dat, PyData.depth]
      omega
    unfold SeqAt.shaped
    rw [hl, decide_eq_true hd]
    rfl
  · cases ns with
    | nil => exact h
    | cons n r => exact h
end
end K1
set_option Elab.async false
set_option linter.all false
set_option maxRecDepth 100000
namespace K1
open PySem L2 Dv PySem.W PySem.Calls PyProof.Rows
/-! sorted data of one kind, no two alike, ascends -/
theorem sorted_up {α : Type} (f : α → W) {l : List α} (hd : l.Pairwise fun a b => ltD (f a, f b) = true ∨ ltD (f b, f a) = true) : (l.mergeSort fun a b => leW (f a) (f b)).Pairwise fun a b => ltD (f a, f b) = true := by
  have T := sortLe_total (listOrd itemOrd) false fun a : α => PySem.W.keyToks (dat (f a))
  have h1 := List.pairwise_mergeSort (le := fun a b => leW (f a) (f b)) (fun a b c x y => T.trans a b c x y) (fun a b => by
    rcases T.total a b with h | h
    · rw [show leW (f a) (f b) = true from h]; rfl
    · rw [show leW (f b) (f a) = true from h]; simp) l
  have h2 := ((List.mergeSort_perm l fun a b => leW (f a) (f b)).pairwise_iff (R := fun a b => ltD (f a, f b) = true ∨ ltD (f b, f a) = true) fun h => h.symm).mpr hd
  refine (h1.and h2).imp fun {a b} h => ?_
  rcases h.2 with q | q
  · exact q
  · have l1 : (!ltD (f b, f a)) = true := h.1
    rw [q] at l1
    cases l1
theorem sorted_map {α : Type} (f : α → W) (l : List α) : (l.map f).mergeSort leW = (l.mergeSort fun a b => leW (f a) (f b)).map f := (List.map_mergeSort (r := fun a b => leW (f a) (f b)) (s := leW) (f := f) fun _ _ _ _ => rfl).symm
theorem rising_of : ∀ {us : List W}, (us.Pairwise fun a b => ltD (a, b) = true) → rising us = true
  | [], _ => rfl
  | [x], _ => rfl
  | x :: y :: r, h => by
    have ih := rising_of (us := y :: r) (List.pairwise_cons.mp h).2
    have h1 := (List.pairwise_cons.mp h).1 y (by simp)
    unfold rising at ih ⊢
    simp only [List.tail_cons, List.zip_cons_cons, List.all_cons, h1, Bool.true_and] at ih ⊢
    exact ih
theorem str_apart {x y : Str} (h : x ≠ y) : ltD (.str x, .str y) = true ∨ ltD (.str y, .str x) = true := by
  show PySem.W.dataLt (.str x) (.str y) = true ∨ PySem.W.dataLt (.str y) (.str x) = true
  rw [PySem.W.dataLt_str, PySem.W.dataLt_str, decide_eq_true_iff, decide_eq_true_iff]
  by_cases a : x.cps.toList < y.cps.toList
  · exact .inl a
  · by_cases b : y.cps.toList < x.cps.toList
    · exact .inr b
    · exact absurd (PySem.W.str_of_cps (List.le_antisymm (List.not_lt.mp b) (List.not_lt.mp a))) h
theorem pr_lt {p q : Str × Str} (h : p.1 ≠ q.1) : ltD (prW p, prW q) = ltD (.str p.1, .str q.1) := by
  show PySem.W.dataLt (.tuple [.str p.1, .str p.2]) (.tuple [.str q.1, .str q.2]) = PySem.W.dataLt (.str p.1) (.str q.1)
  rw [PySem.W.dataLt_pair (by simp [PySem.W.alike]) (by simp [PySem.W.alike]), if_neg (by rw [eqv_str]; simp [h])]
/-- the pattern that is drawn: its pairs by their names -/
def asPat (fs : Pat) : Pat := fs.mergeSort fun a b => leW (prW a) (prW b)
theorem asPat_perm (fs : Pat) : (asPat fs).Perm fs := List.mergeSort_perm _ _
theorem asPat_up {fs : Pat} (h : (fs.map (·.1)).Nodup) : rising (stW ((asPat fs).map (·.1))) = true := by
  have nd : fs.Pairwise fun a b => a.1 ≠ b.1 := List.pairwise_map.mp h
  have h1 := sorted_up prW (l := fs) (nd.imp fun {a b} hne => by
    rw [pr_lt hne, pr_lt (Ne.symm hne)]
    exact str_apart hne)
  have nd2 : (asPat fs).Pairwise fun a b => a.1 ≠ b.1 := ((asPat_perm fs).pairwise_iff fun h => Ne.symm h).mpr nd
  refine rising_of ?_
  unfold stW
  rw [List.map_map, List.pairwise_map]
  refine (List.Pairwise.and h1 nd2).imp fun {a b} h => ?_
  show ltD (.str a.1, .str b.1) = true
  rw [← pr_lt h.2]
  exact h.1
theorem sort_prs {fs : Pat} : plsW (fs.map prW) = true ∧ PySem.W.AllAlike (dats (fs.map prW)) ∧ PySem.W.Sortable (dats (fs.map prW)) ∧ ∀ u ∈ fs.map prW, (dat u).depth ≤ 64 := by
  refine ⟨plains_map _ plain_pr fs, fun d hd d' hd' => ?_, .inl fun d hd => ?_, fun u hu => ?_⟩
  · obtain ⟨u, hu, rfl⟩ := mem_dats.mp hd
    obtain ⟨u', hu', rfl⟩ := mem_dats.mp hd'
    obtain ⟨a, _, rfl⟩ := List.mem_map.mp hu
    obtain ⟨b, _, rfl⟩ := List.mem_map.mp hu'
    exact alike_pr a b
  · obtain ⟨u, hu, rfl⟩ := mem_dats.mp hd
    obtain ⟨a, ha, rfl⟩ := List.mem_map.mp hu
    exact ⟨_, _, rfl⟩
  · obtain ⟨a, ha, rfl⟩ := List.mem_map.mp hu
    exact Nat.le_trans (depth_pr a) (by decide)
theorem eq_ints {x y : Int} {mu : Mu} {P : PW1} (h : P (.bl (decide (x = y))) mu) : eqW (.int x) (.int y) mu P := by
  refine ⟨.int x, .int y, rfl, rfl, ?_, ?_, ?_⟩
  · simp [SeqAt.shaped, PyData.depth, PyData.canLay0]
  · simp [SeqAt.shaped, PyData.depth, PyData.canLay0]
  · have : PyData.eqv (.int x) (.int y) = decide (x = y) := by
      unfold PyData.eqv
      by_cases e : x = y <;> simp [e]
    rw [this]
    exact h
end K1
set_option Elab.async false
set_option linter.all false
set_option maxRecDepth 100000
namespace K1
open PySem L2 Dv
/-- pairs found so far: of the first i slots, by their names -/
structure Fnd (ss : List Slot) (i : Nat) (fs : Pat) : Prop where
  sub : (fs.map (·.1)).Sublist ((ss.take i).map (·.1))
  ok : ∀ q ∈ fs, PrOk ss q
theorem Fnd.add {ss : List Slot} {i : Nat} {fs : Pat} {t : Slot} {x : Str} (h : Fnd ss i fs) (ht : ss[i]? = some t) (hx : x ∈ t.2.2) : Fnd ss (i + 1) (fs ++ [(t.1, x)]) where
  sub := by
    rw [List.take_add_one, ht, List.map_append, List.map_append]
    exact h.sub.append (List.Sublist.refl _)
  ok := fun q hq => by
    rcases List.mem_append.mp hq with hq | hq
    · exact h.ok q hq
    · rw [List.mem_singleton] at hq
      subst hq
      exact ⟨t, List.mem_of_getElem? ht, rfl, hx⟩
theorem Fnd.skip {ss : List Slot} {i : Nat} {fs : Pat} {t : Slot} (h : Fnd ss i fs) (ht : ss[i]? = some t) : Fnd ss (i + 1) fs where
  sub := by
    rw [List.take_add_one, List.map_append]
    exact h.sub.trans (List.sublist_append_left _ _)
  ok := h.ok
theorem Fnd.len {ss : List Slot} {i : Nat} {fs : Pat} (h : Fnd ss i fs) : fs.length ≤ ss.length := by
  have := h.sub.length_le
  rw [List.length_map, List.length_map, List.length_take] at this
  omega
theorem Fnd.pat {ss : List Slot} {i : Nat} {fs : Pat} (h : Fnd ss i fs) (nd : (ss.map (·.1)).Nodup) (l : ss.length ≤ 6) : PtOk ss (asPat fs) where
  pr := fun q hq => h.ok q ((asPat_perm fs).mem_iff.mp hq)
  up := asPat_up (h.sub.nodup ((List.Sublist.map _ (List.take_sublist i ss)).nodup nd))
  len := by
    rw [(asPat_perm fs).length_eq]
    have := h.len
    omega
section
variable {P : Program} {w : World} {K : PySem.W.Frag} {mg : Str → Option Value} {base : Heap}
def Away (ss : List Slot) (fs : Pat) : Prop := ∃ r ∈ fs, ∃ s ∈ ss, s.1 = r.1 ∧ r.2 ∈ s.2.2.tail
end
end K1
set_option Elab.async false
set_option linter.all false
set_option maxRecDepth 100000
/-! enumerate by values: over a list, over a tuple. -/
namespace PySem
open Sem (wp)
def enumO (n : Addr) : Obj := { cls := .type "enumerate", data := .fields #[.none, .bool false, .ref n, rawInt 0, .none, .none] }
set_option maxHeartbeats 1100000 in
theorem enum1_meets {v : Value} {o : Obj} {Hh : Heap → Prop} (B : Begins v o Hh) : Meets (Builtin.«enumerate.__new__» ⟨[.type "enumerate", v], []⟩) fun _ R s => Hh s.heap ∧ R (.ok (.ret (.ref (s.heap.push o).objs.size))) { s with heap := (s.heap.push o).push (enumO s.heap.objs.size) } :=
  .of_wp fun pr ww A R sh hyp => by
    obtain ⟨hp, gl, dd, tk, os⟩ := sh
    obtain ⟨hy1, hy2⟩ := hyp
    have subE := sub_enumerate
    have itr : ∀ {A2 : Around} {E2 Q2 : Value → Shared → Prop}, Q2 (.ref hp.objs.size) ⟨hp.push o, gl, dd, tk, os⟩ → wpAny (model pr ww) A2 (pyIter v) Q2 E2 ⟨hp, gl, dd, tk, os⟩ := fun q => B.iter pr ww _ _ ⟨hp, gl, dd, tk, os⟩ _ hy1 q
    wp_walk using itr
    refine wpAny_stack_any fun stk => wpAny_pure ?_
    split
    · rename_i cc _ _ _ _ _
      cases (cc == Value.type "enumerate") <;> (wp_walk using itr) <;> exact ⟨_, rfl, hy2⟩
    · wp_walk using itr
      exact ⟨_, rfl, hy2⟩
theorem enum1_begins {prog : Program} {w : World} {A : Around} {E Q : Value → Shared → Prop} {s : Shared} {v : Value} {o : Obj} {Hh : Heap → Prop} (B : Begins v o Hh) (hs : Hh s.heap)
    (k : ∀ h', IsEnum h' (s.heap.objs.size + 1) s.heap.objs.size 0 .none → h'.get? s.heap.objs.size = some o → (∀ b ob, s.heap.get? b = some ob → h'.get? b = some ob) → Q (.ref (s.heap.objs.size + 1)) { s with heap := h' }) : wpAny (model prog w) A (call (.type "enumerate") [v]) Q E s := by
  refine callType_new F.called_enumerate (by decide) (F.typeCall_enumerate_1 _) (F.newCall_enumerate_1 _) (fun obj => F.args_object_init_2 obj _) F.entry_enumerate_new (enum1_meets B) ⟨hs, ?_⟩
  have sz : (s.heap.push o).objs.size = s.heap.objs.size + 1 := Heap.size_push ..
  have he : IsEnum ((s.heap.push o).push (enumO s.heap.objs.size)) (s.heap.objs.size + 1) s.heap.objs.size 0 .none := by
    have q := Heap.get?_push_size (s.heap.push o) (o := enumO s.heap.objs.size) rfl
    rw [sz] at q
    exact q
  show _ ∧ _
  rw [sz]
  exact ⟨⟨_, he, rfl⟩, k _ he (Heap.get?_push_of_some _ (Heap.get?_push_size _ B.free)) fun b ob x => Heap.get?_push_of_some _ (Heap.get?_push_of_some _ x)⟩
end PySem
namespace L2
open PySem
/-- the tuple at a, each item in a new pair behind its number -/
def IteT (K : PySem.W.Frag) (a : Addr) : It where
  go := fun i H => ∃ (xs : List V) (x : V), SqT K H a xs ∧ xs[i]? = some x
  yld := fun i H v H' => ∃ T x, v = .ref T ∧ H T = none ∧ H' = upd H T (.tup [.int (i : Nat), x]) ∧ ∀ xs, SqT K H a xs → xs[i]? = some x
  stop := fun i H => ∃ xs : List V, SqT K H a xs ∧ xs.length ≤ i
theorem turn_enumT {P : Program} {w : World} {K : PySem.W.Frag} {elts : List Expr} {kk : Nat} {tpos : Pos} (a e it : Addr) : Turn P w K (.Tuple elts kk tpos) (IteT K a) [e, it] e (fun i h => (∃ old, IsEnum h e it ((i : Nat) : Int) old) ∧ h.IsTupleIter it a i ∧ e ≠ it) where
  mem := by simp
  obj := fun i h ⟨⟨old, he⟩, ⟨o, ho, hc, hd⟩, _⟩ b hb => by
    rcases (by simpa using hb : b = e ∨ b = it) with rfl | rfl
    · exact ⟨_, he, fun v q => by cases q⟩
    · exact ⟨o, ho, fun v q => by rw [hd] at q; cases q⟩
  keep := fun i h h' ⟨⟨old, he⟩, hi, hne⟩ k => ⟨⟨old, k e (by simp) _ he⟩, hi.at fun o q => k it (by simp) o q, hne⟩
  item := by
    intro X hP hw hK hc i pins s σ H E I hf ⟨⟨old, he⟩, hit, hne⟩ ⟨xs, x, hq, hx⟩
    subst hP hw hK
    (obtain ⟨its, rv, p, hz⟩ := I.tuple hq; obtain ⟨u, hu, ru⟩ := rv.get hx)
    have pt : s.heap.IsTuple a its.toArray := p
    have hel : e < s.heap.objs.size ∧ it < s.heap.objs.size := ⟨Heap.lt_size he, let ⟨_, q, _⟩ := hit; Heap.lt_size q⟩
    obtain ⟨hel, hil⟩ := hel
    have hea : e ≠ a := fun z => by
      obtain ⟨o, ho, hcl, _⟩ := pt
      rw [← z] at ho
      have := Option.some.inj (he.symm.trans ho)
      rw [← this] at hcl
      injection hcl with q
      exact absurd q (by decide)
    have hia : a ≠ it := fun z => by
      obtain ⟨o, ho, hcl, _⟩ := pt
      obtain ⟨o', ho', hcl', _⟩ := hit
      rw [z] at ho
      have := Option.some.inj (ho.symm.trans ho')
      rw [← this, hcl] at hcl'
      injection hcl' with q
      exact absurd q (by decide)
    refine wpAny_pyNext_enum_itemD (Draws.tuple (A := X.A.in1) (show X.A.in1.handled = none from I.ok.hd hc) it a hia its.toArray) he ⟨hit, pt⟩ (by have := (List.getElem?_eq_some_iff.mp hu).1; simpa using this) hne (by simp [hne, hea]) fun y h' tk hy ho st' hT hsz hk => ?_
    have hy : u = y := by
      rw [List.getElem?_toArray, hu] at hy
      exact Option.some.inj hy
    subst hy
    refine ⟨_, rfl, wpAny_letOwnedTupleGo_enum (s := { s with heap := h', toks := tk + 1 }) ho fun h'' he' sb => ?_⟩
    have hT2 : h''.get? s.heap.objs.size = some { cls := .type "tuple", data := .seq #[.int i tk, u] } := (sb.2 _ (Nat.ne_of_gt hel)).trans hT
    have new : ObjOk X.prog X.w (upd H s.heap.objs.size (.tup [.int (i : Nat), x])) h'' s.heap.objs.size (.tup [.int (i : Nat), x]) := ⟨by show 2 ≤ sizeLine; decide, [.int i tk, u], .cons ⟨_, rfl⟩ (.cons ru .nil), ⟨_, hT2, rfl, _, rfl⟩⟩
    have J : Inv X pins σ (upd H s.heap.objs.size (.tup [.int (i : Nat), x])) { s with heap := h'', toks := tk + 1 } := I.turnedNew (ch := [e, it]) (fun b ob hb q => (sb.2 b (fun z => hb (by simp [z]))).trans (hk b ob (fun z => hb (by simp [z])) (fun z => hb (by simp [z])) q)) hf (Nat.le_refl _) new
    refine ⟨.ref s.heap.objs.size, _, J, rfl, ⟨_, x, rfl, I.hok.fresh (Nat.le_refl _), rfl, fun ys hy => by rw [I.tuple_inj hy hq]; exact hx⟩, ⟨⟨u, ?_⟩, st'.1.at fun o q => (sb.2 it (Ne.symm hne)).trans q, hne⟩, fun b hb => ?_⟩
    · rw [show ((i + 1 : Nat) : Int) = (i : Int) + 1 by omega]
      exact he'
    · have hlt : b < s.heap.objs.size := by rcases (by simpa using hb : b = e ∨ b = it) with z | z <;> rw [z] <;> assumption
      exact (upd_ne (Nat.ne_of_lt hlt)).trans (hf b hb).1
  done := by
    intro X hP hw hK hc i pins s σ H E I hf ⟨⟨old, he⟩, hit, hne⟩ ⟨xs, hq, hx⟩
    subst hP hw hK
    (obtain ⟨its, rv, p, hz⟩ := I.tuple hq; have pt : s.heap.IsTuple a its.toArray := p; obtain ⟨f0, f1, f2, f3, f4, f5⟩ := hf it (by simp))
    have no : its.toArray[i]? = none := by
      have := rv.length
      simp
      omega
    have DD : Draws X.prog X.w X.A.in1 it [it, a] 0 (fun _ _ => True) fun _ h => h.IsTupleIter it a i ∧ h.IsTuple a its.toArray :=
      { live := fun _ _ st => let ⟨o, ho, _⟩ := st.1; ⟨o, ho⟩
        frame := fun _ _ _ st hk => ⟨st.1.at fun o q => hk it (by simp) o q, st.2.at fun o q => hk a (by simp) o q⟩
        item := fun j _ _ _ hj => absurd hj (Nat.not_lt_zero j)
        done := fun _ _ _ st hE => wpAny_nextOf_tuple_end (show X.A.in1.handled = none from I.ok.hd hc) st.1 st.2 no hE }
    exact wpAny_pyNext_enum_endD DD he ⟨hit, pt⟩ fun h' eb => ⟨rfl, I.turned (t' := s.toks) (fun b ob hb q => eb b ob hb q) f0 f1 f3 f4 f5⟩
  self := fun _ _ _ _ _ st k => let ⟨⟨_, he⟩, _⟩ := st; wpAny_pyIter_enum he k
end L2
namespace L2
open PySem
def iEnumT (K : PySem.W.Frag) (ta : TA) : TI := fun σ H R => ta σ H fun vs H1 => ∃ a xs, vs = [.ref a] ∧ SqT K H1 a xs ∧ R (IteT K a) H1
theorem pi_enumT {X : Cx} {e : Expr} {ta : TA} {p pos tpos : Pos} {elts : List Expr} {kk : Nat} (hg : Gl X "enumerate") (hm : X.mg "enumerate" = none) (ha : PA X [e] ta) (hs : starEach [e] X.env = [(false, eval e X.env)] := by rfl) : PI X (.Tuple elts kk tpos) (.Call (.Name "enumerate" p) [e] [] pos) (iEnumT X.K ta) :=
  ⟨fun pins s σ H R I h => PyProof.Rows.Call_ (ld_blt I hg hm PyProof.Rows.boot_enumerate (PyProof.Rows.callWith_type1 (thn (ha.run pos pins s σ H _ I h) fun us s1 ⟨vs, H1, I1, r1, q1⟩ => by
    (obtain ⟨a, xs, ex, hq, q⟩ := q1; subst ex)
    obtain _ | ⟨r, rr⟩ := r1
    cases rr
    cases r
    obtain ⟨its, rv, p', hz⟩ := I1.tuple hq
    refine enum1_begins (begins_tuple a its.toArray) p' fun h' he hit hk => wpAny_pyIter_enum he ?_
    refine ⟨s1.heap.objs.size + 1, [s1.heap.objs.size + 1, s1.heap.objs.size], _, _, H1, rfl, I1.kept (t' := s1.toks) hk, turn_enumT a (s1.heap.objs.size + 1) s1.heap.objs.size, ⟨⟨.none, he⟩, ⟨_, hit, rfl, rfl⟩, Nat.succ_ne_self _⟩, fun b hb => ?_, q⟩
    have hle : s1.heap.objs.size ≤ b ∧ True := by
      refine ⟨?_, trivial⟩
      rcases (by simpa using hb : b = s1.heap.objs.size + 1 ∨ b = s1.heap.objs.size) with z | z <;> rw [z]
      · exact Nat.le_add_right _ _
      · exact Nat.le_refl _
    exact I1.fpOk hle.1 (I1.hok.fresh hle.1)) hs rfl))⟩
end L2
namespace Dv
open PySem L2
def enumW (ws : List W) : List W := ws.mapIdx fun i w => W.tup [.int (i : Nat), w]
theorem enumW_len (ws : List W) : (enumW ws).length = ws.length := by unfold enumW; simp
theorem enumW_get (ws : List W) (i : Nat) : (enumW ws)[i]? = (ws[i]?).map fun w => W.tup [.int (i : Nat), w] := by unfold enumW; simp
section
variable {X : Cx} {e a b c : Expr} {es : List Expr} {G : Gs} {mu mu' : Mu} {pos p : Pos} {P : PW1} {K : PySem.W.Frag} {H : Hp}
theorem itw_enumT {q : Addr} {xs : List V} {ws : List W} (m : HM K H mu) (s : SqT K H q xs) (d : DenAll K H ws xs) : ItW K (IteT K q) (enumW ws) (fun _ => True) mu H := by
  refine ⟨fun H' => SqT K H' q xs, fun i H1 v H2 => ∃ T x, v = .ref T ∧ H1 T = none ∧ H2 = upd H1 T (.tup [.int (i : Nat), x]) ∧ xs[i]? = some x, ⟨fun i H' hi h' => ?_, fun H' h' => ⟨xs, h', ?_⟩, fun i H' x H'' hi h' ⟨T, y, h1, h2, h3, h4⟩ => ⟨T, y, h1, h2, h3, h4 _ h'⟩⟩, fun mu' H' c m' _ => c.sqt m q xs s, fun i H1 v H2 mu' hi c m' _ ⟨T, x, hv, hT, hH, hx⟩ => ?_⟩
  · rw [enumW_len, d.length] at hi
    exact ⟨xs, xs[i], h', by simp [hi]⟩
  · rw [enumW_len, d.length]
    exact Nat.le_refl _
  · subst hv hH
    obtain ⟨w, h1, h2⟩ := (c.denAll m d).get hx
    obtain ⟨c2, m2⟩ := laid (o := .tup [.int (i : Nat), x]) m' hT
    exact ⟨.tup [.int (i : Nat), w], by rw [enumW_get, h1]; rfl, c2, m2, T, _, rfl, SqT.of upd_same, .int (i : Nat), [x], rfl, rfl, x, [], rfl, c2.den m' h2, rfl⟩
theorem itw_enumL {q : Addr} {ws : List W} (m : HM K H mu) (h : mu q = some (.lst ws)) : ItW K (Ite K q) (enumW ws) (fun mu' => mu' q = some (.lst ws)) mu H := by
  refine ⟨fun H' => ∃ ys, SqL K H' q ys ∧ DenAll K H' ws ys, fun i H1 v H2 => ∃ T x ys, v = .ref T ∧ H1 T = none ∧ H2 = upd H1 T (.tup [.int (i : Nat), x]) ∧ DenAll K H1 ws ys ∧ ys[i]? = some x, ⟨fun i H' hi ⟨ys, s, d'⟩ => ?_, fun H' ⟨ys, s, d'⟩ => ⟨ys, s, ?_⟩, fun i H' x H'' hi ⟨ys, s, d'⟩ ⟨T, y, h1, h2, h3, h4⟩ => ⟨T, y, ys, h1, h2, h3, d', h4 _ s⟩⟩, fun mu' H' c m' g => ?_, fun i H1 v H2 mu' hi c m' _ ⟨T, x, ys, hv, hT, hH, d', hx⟩ => ?_⟩
  · rw [enumW_len, d'.length] at hi
    exact ⟨ys, ys[i], s, by simp [hi]⟩
  · rw [enumW_len, d'.length]
    exact Nat.le_refl _
  · obtain ⟨ys, h1, h2⟩ := m' q _ g
    exact ⟨ys, SqL.of h1, h2⟩
  · subst hv hH
    obtain ⟨w, h1, h2⟩ := d'.get hx
    obtain ⟨c2, m2⟩ := laid (o := .tup [.int (i : Nat), x]) m' hT
    exact ⟨.tup [.int (i : Nat), w], by rw [enumW_get, h1]; rfl, c2, m2, T, _, rfl, SqT.of upd_same, .int (i : Nat), [x], rfl, rfl, x, [], rfl, c2.den m' h2, rfl⟩
theorem si_enumT {elts : List Expr} {kk : Nat} {tpos : Pos} {Post : List W → (Mu → Prop) → Mu → Prop} (h : SE X e G mu fun w mu1 => match w with | .tup ws => Post (enumW ws) (fun _ => True) mu1 | _ => False) (hm : X.mg "enumerate" = none) (hg : Gl X "enumerate" := by rfl) (hs : starEach [e] X.env = [(false, eval e X.env)] := by rfl) : SI X (.Tuple elts kk tpos) (.Call (.Name "enumerate" p) [e] [] pos) G mu Post :=
  SI.mk (pi_enumT hg hm (pa_cons peE pa_nil hs) hs) fun σ H R d m k => h σ H _ d m fun v w mu1 H1 h1 c1 d1 m1 => by
    cases w with
    | tup ws =>
      obtain ⟨q, xs, rfl, s, d2⟩ := d1
      exact ⟨q, xs, rfl, s, k _ _ _ _ _ h1 c1 m1 (itw_enumT m1 s d2)⟩
    | _ => exact h1.elim
theorem si_enumL {elts : List Expr} {kk : Nat} {tpos : Pos} {Post : List W → (Mu → Prop) → Mu → Prop} (h : SE X e G mu fun w mu1 => match w with | .m q => ∃ ws, mu1 q = some (.lst ws) ∧ Post (enumW ws) (fun mu' => mu' q = some (.lst ws)) mu1 | _ => False) (hm : X.mg "enumerate" = none) (hg : Gl X "enumerate" := by rfl) (hs : starEach [e] X.env = [(false, eval e X.env)] := by rfl) : SI X (.Tuple elts kk tpos) (.Call (.Name "enumerate" p) [e] [] pos) G mu Post :=
  SI.mk (pi_enum hg hm (pa_cons peE pa_nil hs) hs) fun σ H R d m k => h σ H _ d m fun v w mu1 H1 h1 c1 d1 m1 => by
    cases w with
    | m q =>
      obtain ⟨ws, h2, h3⟩ := h1
      obtain ⟨xs, hx, d2⟩ := m1 q _ h2
      have d1 : v = .ref q := d1
      subst d1
      exact ⟨q, xs, rfl, SqL.of hx, k _ _ _ _ _ h3 c1 m1 (itw_enumL m1 h2)⟩
    | _ => exact h1.elim
end
end Dv
set_option Elab.async false
set_option linter.all false
set_option maxRecDepth 100000
/-! Tuples put together, by values. -/
namespace Dv
open PySem L2
section
variable {X : Cx} {e a b c : Expr} {es : List Expr} {G : Gs} {mu mu' : Mu} {pos p : Pos} {P : PW1} {K : PySem.W.Frag} {H : Hp}
abbrev catTV (w1 w2 : W) (mu : Mu) (P : PW1) : Prop := match w1, w2 with | .tup us, .tup zs => us.length + zs.length ≤ sizeLine ∧ P (.tup (us ++ zs)) mu | _, _ => False
theorem catT_w : OpW X (rCatA X.K) catTV := fun w1 w2 x y mu H P Q dx dy m h k => by
  unfold catTV at h
  split at h
  · rename_i us zs
    obtain ⟨a, xs, rfl, s1, d1⟩ := dx
    obtain ⟨b, ys, rfl, s2, d2⟩ := dy
    have d12 := DenAll.append d1 d2
    refine ⟨a, b, xs, ys, rfl, rfl, s1, s2, by rw [← d1.length, ← d2.length]; exact h.1, fun z => ?_, fun _ z => ?_, fun _ _ q hq => ?_⟩
    · refine k.now h.2 ⟨b, ys, rfl, s2, ?_⟩ m
      rw [z] at d12
      exact d12
    · refine k.now h.2 ⟨a, xs, rfl, s1, ?_⟩ m
      rw [z, List.append_nil] at d12
      exact d12
    · obtain ⟨c2, m2⟩ := laid (o := .tup (xs ++ ys)) m hq
      exact k _ _ _ _ h.2 c2 ⟨q, _, rfl, SqT.of upd_same, c2.denAll m d12⟩ m2
  · exact h.elim
end
end Dv
set_option Elab.async false
set_option linter.all false
set_option maxRecDepth 100000
/-! dict(list(d.items())) by values. -/
namespace Dv
open PySem L2
section
variable {X : Cx} {e a b c : Expr} {es : List Expr} {G : Gs} {mu mu' : Mu} {pos p apos cpos : Pos} {P : PW1} {K : PySem.W.Frag} {H H' : Hp}
theorem sqt_grown (g : ∀ b o, H b = some o → H' b = some o) {a : Addr} {xs : List V} (s : SqT K H a xs) : SqT K H' a xs := by
  rcases s with (s | ⟨o, s⟩) | s
  · exact .inl (.inl (g _ _ s))
  · exact .inl (.inr ⟨o, g _ _ s⟩)
  · exact .inr s
theorem grown (m : HM K H mu) (g : ∀ b o, H b = some o → H' b = some o) : Chg mu H mu H' ∧ HM K H' mu := by
  refine ⟨⟨fun b o h _ => g b o h, fun b c h => ⟨c, h⟩, fun _ _ _ h => h⟩, fun a c h => ?_⟩
  obtain ⟨o, q⟩ := m.some h
  exact CellOk.mono (fun a xs s => sqt_grown g s) (m a c h) ((g _ _ q).trans q.symm)
def prsW (kvs : List (Key × W)) : List W := kvs.map fun q => .tup [kW q.1, q.2]
theorem den_prs : ∀ {ts : List Addr} {vs : List (Key × V)} {kvs : List (Key × W)}, Paired (fun (t : Addr) (q : Key × V) => H t = some (.tup [kV q.1, q.2])) ts vs → DKV K H kvs vs → DenAll K H (prsW kvs) (ts.map V.ref)
  | [], [], kvs, _, d => by
    have := congrArg List.length d.1
    cases kvs with
    | nil => exact rfl
    | cons x y => simp at this
  | t :: ts, q :: vs, kvs, .cons h r, d => by
    obtain ⟨k, v⟩ := q
    cases kvs with
    | nil => have := congrArg List.length d.1; simp at this
    | cons x y =>
      obtain ⟨j, w⟩ := x
      obtain ⟨v', vs', e, d1, d2⟩ := d.cons
      cases e
      exact ⟨.ref t, ts.map V.ref, rfl, ⟨t, [kV k, v], rfl, SqT.of h, kV k, [v], rfl, kV_den, v, [], rfl, d1, rfl⟩, den_prs r d2⟩
theorem se_listItems (h : SE X e G mu fun w mu1 => ∃ d kvs, w = .m d ∧ mu1 d = some (.dic kvs) ∧ ∀ l, mu1 l = none → P (.m l) (setM mu1 l (.lst (prsW kvs)))) (hc : X.calm = true) (hm : X.mg "list" = none) (hg : Gl X "list" := by rfl) (hv : bootBuiltins "list" = some (.type "list") := by decide +kernel)
    (hbase : attributeBase e "items" X.env (eval e X.env) = eval e X.env := by rfl) (hline : (apos.endLine == cpos.line) = true := by rfl)
    (hs : starEach [.Call (.Attribute e "items" apos) [] [] cpos] X.env = (false, eval (.Call (.Attribute e "items" apos) [] [] cpos) X.env) :: starEach [] X.env := by rfl) :
    SE X (.Call (.Name "list" p) [.Call (.Attribute e "items" apos) [] [] cpos] [] pos) G mu P :=
  SE.mk (LiI.pe_listItems hc peE hg hm hv hbase hline hs) fun σ H Q d m k => h σ H _ d m fun v w mu1 H1 h1 c1 d1 m1 => by
    obtain ⟨dd, kvs, rfl, hk, q⟩ := h1
    have d1 : v = .ref dd := d1
    subst d1
    obtain ⟨vs, hx, dk⟩ := m1 dd _ hk
    have dk : DKV X.K H1 kvs vs := dk
    refine ⟨dd, vs, rfl, hx, fun H' l ts g hl ht hlt hl' pr => ?_⟩
    obtain ⟨c2, m2⟩ := grown (K := X.K) m1 g
    have nl := m1.dom hl
    have dk2 : DKV X.K H' kvs vs := ⟨dk.1, DenAll.mono (fun a xs s => sqt_grown g s) _ dk.2⟩
    refine k _ _ _ _ (q l nl) (c1.trans ⟨fun b o hb n => g b o hb, fun b cc hb => ?_, fun b o hb n => ?_⟩) rfl fun a cc ha => ?_
    · by_cases z : b = l
      · subst z; exact ⟨_, setM_same⟩
      · rw [setM_ne z]; exact ⟨cc, hb⟩
    · rw [setM_ne (ne_of_none hb hl)]; exact n
    · by_cases z : a = l
      · subst z
        rw [setM_same] at ha
        cases ha
        exact ⟨_, hl', den_prs pr dk2⟩
      · rw [setM_ne z] at ha
        exact m2 a cc ha
/-- dict of a list of pairs -/
abbrev dcpV (ws : List W) (mu : Mu) (P : PW1) : Prop := match ws with | [.m l] => ∃ kvs, mu l = some (.lst (prsW kvs)) ∧ (kvs.map (·.1)).Nodup ∧ ∀ p, mu p = none → P (.m p) (setM mu p (.dic kvs)) | _ => False
theorem den_back : ∀ {kvs : List (Key × W)} {xs : List V}, DenAll K H (prsW kvs) xs → ∃ (ps : List Addr) (vs : List (Key × V)), xs = ps.map V.ref ∧ Paired (fun p (kv : Key × V) => SqT K H p [kV kv.1, kv.2]) ps vs ∧ DKV K H kvs vs
  | [], xs, d => ⟨[], [], d, .nil, rfl, rfl⟩
  | (j, w) :: r, xs, d => by
    obtain ⟨v, vs, rfl, ⟨t, ys, rfl, s, ya, yr, rfl, da, yb, yr2, rfl, db, hn⟩, dr⟩ := d
    obtain ⟨ps, vs', rfl, pr, dk⟩ := den_back dr
    cases hn
    have := kW_den da
    subst this
    exact ⟨t :: ps, (j, yb) :: vs', rfl, .cons s pr, DKV.mk db dk⟩
theorem dcp_w : CallW X (fun xs H Q => ∃ (a : Addr) (ps : List Addr) (kvs : List (Key × V)), xs = [.ref a] ∧ SqL X.K H a (ps.map V.ref) ∧ Paired (fun p kv => SqT X.K H p [kV kv.1, kv.2]) ps kvs ∧ ∀ p, H p = none → Q (.ref p) (upd H p (.dK (mergeK [] kvs)))) dcpV := fun ws vs mu H P Q d m h k => by
  unfold dcpV at h
  split at h
  · rename_i l
    obtain ⟨kvs, hl, hn, q⟩ := h
    obtain ⟨v, rfl, dv⟩ := d.one
    have dv : v = .ref l := dv
    subst dv
    obtain ⟨xs, hx, dx⟩ := m l _ hl
    obtain ⟨ps, vs, rfl, pr, dk⟩ := den_back dx
    refine ⟨l, ps, vs, rfl, SqL.of hx, pr, fun p hp => ?_⟩
    have em : mergeK [] vs = vs := by rw [mergeK_new vs [] (by rw [List.nil_append, ← dk.1]; exact hn)]; rfl
    rw [em]
    obtain ⟨c2, m2⟩ := laidC (o := .dK vs) (c := .dic kvs) m hp (newDic dk)
    exact k _ _ _ _ (q p (m.dom hp)) c2 rfl m2
  · exact h.elim
theorem se_dictC (h : SE X e G mu fun w mu1 => dcpV [w] mu1 P) (hc : X.calm = true) (hm : X.mg "dict" = none) (hv : bootBuiltins ("dict" : Str) = some (.type "dict") := by decide +kernel) (hg : Gl X "dict" := by rfl) (he : starEach [e] X.env = [(false, eval e X.env)] := by rfl) (hpl : (backTo pos (starEach [] X.env)).any (·.1) = false := by rfl) : SE X (.Call (.Name "dict" p) [e] [] pos) G mu P :=
  se_bty (call_dictP hc) dcp_w hm (sa_one h he) hv hg (by decide) (by decide) he hpl
end
end Dv
set_option Elab.async false
set_option linter.all false
set_option maxRecDepth 100000
/-! Texts joined, by values. -/
namespace Dv
open PySem L2
section
variable {X : Cx} {e a b c o : Expr} {es : List Expr} {G : Gs} {mu mu' : Mu} {pos p apos cpos : Pos} {P : PW1} {K : PySem.W.Frag} {H H' : Hp}
theorem se_join (h : SE X o G mu fun w mu1 => ∃ z, w = .str z ∧ SE X e G mu1 fun w2 mu2 => ∃ l, ∃ ys : List Str, w2 = .m l ∧ mu2 l = some (.lst (ys.map W.str)) ∧ (ys.map (·.length)).sum + ys.length * z.length ≤ 16777216 ∧ P (.str (Txt.join z ys)) mu2)
    (hs : starEach [e] X.env = [(false, eval e X.env)] := by rfl) (hbase : attributeBase o "join" X.env (eval o X.env) = eval o X.env := by rfl) (hline : (apos.endLine == pos.line) = true := by rfl) : SE X (.Call (.Attribute o "join" apos) [e] [] pos) G mu P :=
  SE.mk (pe_join peE peE hs hbase hline) fun σ H Q d m k => h σ H _ d m fun x w mu1 H1 ⟨z, e1, h1⟩ c1 d1 m1 => by
    subst e1
    refine ⟨⟨z, d1⟩, h1 σ H1 _ (c1.denG m d) m1 fun y w2 mu2 H2 ⟨l, ys, e2, hl, hz, q⟩ c2 d2 m2 => ?_⟩
    subst e2
    have d2 : y = .ref l := d2
    subst d2
    obtain ⟨xs, hx, dx⟩ := m2 l _ hl
    have := denAll_str dx
    subst this
    exact ⟨z, l, ys, d1, rfl, .inl (SqL.of hx), hz, (k.step (c1.trans c2)).now q rfl m2⟩
end
end Dv
set_option Elab.async false
set_option linter.all false
set_option maxRecDepth 100000
namespace K1
open PySem L2 Dv
/-- signs that names may have -/
def Low (z : Str) : Prop := ∀ c ∈ z.cps.toList, 97 ≤ c ∧ c ≤ 122
theorem joinL_nil : ∀ ys : List (List Nat), TL.joinL [] ys = ys.flatten
  | [] => rfl
  | [p] => by simp [TL.joinL]
  | p :: q :: r => by
    have := joinL_nil (q :: r)
    simp only [TL.joinL, this, List.nil_append, List.flatten_cons]
theorem join_cps (ys : List Str) : (Txt.join "" ys).cps.toList = (ys.map fun z => z.cps.toList).flatten := by
  rw [TL.join_eq]
  have := TL.tl_join "" ys
  rw [show TL.tl "" = [] from rfl, joinL_nil] at this
  exact this
def nameAt (z : Str) (s f k : Nat) : Str := cutS z none (some (s : Nat)) ++ ⟨#[97 + (f + 3 * k) % 26]⟩ ++ cutS z (some (s : Nat)) none
theorem str_app (x y : Str) : (x ++ y).cps.toList = x.cps.toList ++ y.cps.toList := by
  show (x.cps ++ y.cps).toList = _
  rw [Array.toList_append]
theorem nameAt_cps {z : Str} {s f k : Nat} (h : s ≤ z.length) : (nameAt z s f k).cps.toList = z.cps.toList.take s ++ (97 + (f + 3 * k) % 26) :: z.cps.toList.drop s := by
  have hl : z.cps.toList.length = z.length := by rw [Array.length_toList]; rfl
  have n0 : ¬ (s : Int) < 0 := by omega
  unfold nameAt
  rw [str_app, str_app]
  have e1 : (cutS z none (some (s : Nat))).cps.toList = z.cps.toList.take s := by
    unfold cutS
    simp [HT.sIx, Nat.min_eq_left h, n0]
  have e2 : (cutS z (some (s : Nat)) none).cps.toList = z.cps.toList.drop s := by
    unfold cutS
    simp [HT.sIx, Nat.min_eq_left h, n0]
    exact List.take_of_length_le (by rw [List.length_drop, hl]; exact Nat.le_refl _)
  rw [e1, e2, List.append_assoc]
  rfl
theorem nameAt_ok {z : Str} {s f k : Nat} (h : s ≤ z.length) (hz : z.length ≤ 7) (lo : Low z) : NmOk (nameAt z s f k) := by
  have hl : z.cps.toList.length = z.length := by rw [Array.length_toList]; rfl
  have len : (nameAt z s f k).length = z.length + 1 := by
    have : (nameAt z s f k).length = (nameAt z s f k).cps.toList.length := by rw [Array.length_toList]; rfl
    rw [this, nameAt_cps h, List.length_append, List.length_cons, List.length_take, List.length_drop, hl]
    omega
  refine ⟨by omega, by omega, fun c hc => ?_⟩
  rw [nameAt_cps h] at hc
  rcases List.mem_append.mp hc with q | q
  · exact lo c (List.mem_of_mem_take q)
  · rcases List.mem_cons.mp q with q | q
    · subst q
      omega
    · exact lo c (List.mem_of_mem_drop q)
theorem nameAt_inj {z : Str} {s f k k' : Nat} (h : s ≤ z.length) (hk : k < 26) (hk' : k' < 26) (e : nameAt z s f k = nameAt z s f k') : k = k' := by
  have := congrArg (fun x : Str => x.cps.toList) e
  simp only [nameAt_cps h] at this
  have := List.append_cancel_left this
  have := (List.cons.inj this).1
  omega
section
variable {P : Program} {w : World} {K : PySem.W.Frag} {mg : Str → Option Value} {base : Heap}
abbrev s_Lnames : Stmt := top 71
theorem sc_Lnames : FnScope ["_law_jar_here", "_law_many", "_law_small", "_law_stem", "_law_turn", "_law_spot", "_law_first", "_law_k"] ["_law_jar_here", "_law_many"] (defScope s_Lnames) := ⟨rfl, rfl, rfl, by decide +kernel, rfl, by decide +kernel, by decide +kernel⟩
def S_names : SpW := fun ws mu P => ∃ p m c, ws = [.m p, .int ((m : Nat) : Int)] ∧ m ≤ 26 ∧ JarOk mu p c ∧ c + 20 < 10000 ∧ ∀ y ns mu', mu y = none → mu' y = some (.lst (stW ns)) → ns.length = m → ns.Nodup → (∀ n ∈ ns, NmOk n) → JarOk mu' p (c + 10) → ExtBut p mu mu' → P (.m y) mu'
theorem alpha_at (r : Nat) (h : r < 26) : atI ("abcdefghijklmnopqrstuvwxyz" : Str).cps.toList (r : Int) = some (97 + r) := by
  have hd : ∀ r, r < 26 → ("abcdefghijklmnopqrstuvwxyz" : Str).cps.toList[r]? = some (97 + r) := by decide +kernel
  exact atI_nat' (hd r h)
theorem d_Lnames (D : Dfn K mg "_law_names" s_Lnames ["_law_jar_here", "_law_many"]) (B : Bl mg) (D_take : DTake P w K mg base) (D_of : DOf P w K mg base) : DefOk P w K mg base "_law_names" ["_law_jar_here", "_law_many"] 3 S_names := by
  refine dfnOk D sc_Lnames (fun ws mu P ⟨p, m, c, e, _⟩ => by rw [e]; rfl) (fun f cdv A outer s H E hr ws mu Pt ⟨p, m, c, e, m26, jar, c1, h⟩ => ?_)
  subst e
  refine sss_cons ?_
  refine ss_asg ?_
  refine se_str ?_  -- 'abcdefghijklmnopqrstuvwxyz'
  refine sg_name (i := 2) ?_ sc_Lnames.nd  -- _law_small =
  refine sss_cons ?_
  refine ss_asg ?_
  refine se_join ?_
  refine se_str ?_  -- ''
  refine ⟨"", rfl, ?_⟩
  refine se_lc (own := [("_law_turn", 4)]) (.nm 4) rfl sc_Lnames.nd (blkOk_by (N := ["_law_jar_here", "_law_many", "_law_small", "_law_stem", "_law_turn", "_law_spot", "_law_first", "_law_k"]) (sc := defScope s_Lnames) (by decide +kernel)) rfl (fun _ _ _ _ _ => (pg_name (i := 4) sc_Lnames.nd rfl (Or.inl rfl))) (by intro _; rfl) ?_
  refine si_range ?_ B.range
  refine se_callD D_of (hr.mono (by decide)) ?_
  refine sa_cons ?_
  refine se_var (i := 0) rfl ?_  -- _law_jar_here
  refine sa_cons ?_
  refine se_lst ?_
  refine sa_cons (se_int (sa_cons (se_int (sa_cons (se_int (sa_cons (se_int (sa_cons (se_int (sa_nil ?_))))))))))
  refine ⟨by decide, fun q nq => ?_⟩
  refine sa_nil ?_
  have pq : p ≠ q := jar.ne nq
  refine ⟨p, .m q, _, c, rfl, .inr (.inl ⟨q, rfl, Ne.symm pq, setM_same⟩), by simp, by decide, jar.set pq, by omega, fun u mu1 hu j1 e1 => ?_⟩
  have hj : ∃ j : Nat, u = .int (j : Nat) ∧ j ≤ 7 := by
    simp only [List.mem_cons, List.not_mem_nil, or_false] at hu
    rcases hu with rfl | rfl | rfl | rfl | rfl
    · exact ⟨0, rfl, by decide⟩
    · exact ⟨0, rfl, by decide⟩
    · exact ⟨1, rfl, by decide⟩
    · exact ⟨3, rfl, by decide⟩
    · exact ⟨7, rfl, by decide⟩
  obtain ⟨n, rfl, n7⟩ := hj
  have E1 : ExtBut p mu mu1 := (ExtBut.refl.own nq).trans e1
  refine ⟨by omega, by omega, ?_⟩
  intro Dd hD
  rw [Int.toNat_natCast]
  refine ⟨fun i acc mu' => ∃ zs : List Str, acc = zs.map W.str ∧ zs.length = i ∧ (∀ z ∈ zs, z.length = 1 ∧ Low z) ∧ JarOk mu' p (c + 1 + i) ∧ ExtBut p mu mu', ⟨[], rfl, rfl, by simp, j1, E1⟩, fun _ _ _ _ _ => trivial, fun i w acc mu' hw ⟨zs, ea, el, ez, jr, ex⟩ => ?_, fun acc mu' ⟨zs, ea, el, ez, jr, ex⟩ => ?_⟩
  · have hi : i < n := by have := (List.getElem?_eq_some_iff.mp hw).1; simpa using this
    refine ⟨by rw [ea, List.length_map, el]; exact Nat.lt_of_lt_of_le (by omega : i < 10) (by decide), _, rfl, fun s H C cl fp => ?_⟩
    refine se_callD D_of (hr.mono (by decide)) ?_
    refine sa_cons ?_
    refine se_var (i := 0) rfl ?_  -- _law_jar_here
    refine sa_cons ?_
    refine se_var (i := 2) rfl ?_  -- _law_small
    refine sa_nil ?_
    refine ⟨p, _, _, _, rfl, .inr (.inr ⟨_, rfl, by decide, rfl⟩), by decide, by decide, jr, by omega, fun u mu2 hu j2 e2 => ?_⟩
    obtain ⟨cc, hcc, rfl⟩ := List.mem_map.mp hu
    refine ⟨zs ++ [⟨#[cc]⟩], by rw [ea, List.map_append]; rfl, by rw [List.length_append, el]; rfl, fun z hz => ?_, j2.mono (by omega), ex.trans e2⟩
    rcases List.mem_append.mp hz with hz | hz
    · exact ez z hz
    · rw [List.mem_singleton] at hz
      subst hz
      refine ⟨rfl, fun x hx => ?_⟩
      have hx : x ∈ [cc] := hx
      rw [List.mem_singleton] at hx
      subst hx
      have hd : ∀ x ∈ ("abcdefghijklmnopqrstuvwxyz" : Str).cps.toList, 97 ≤ x ∧ x ≤ 122 := by decide +kernel
      exact hd x hcc
  · rw [List.length_map, List.length_range] at el
    subst ea
    have sm : ∀ l : List Str, (∀ z ∈ l, z.length = 1) → (l.map (·.length)).sum = l.length := fun l => by
      induction l with
      | nil => intro _; rfl
      | cons x r ih =>
        intro hx
        rw [List.map_cons, List.sum_cons, ih fun z hz => hx z (by simp [hz]), hx x (by simp), List.length_cons, Nat.add_comm]
    have s1 := sm zs fun z hz => (ez z hz).1
    refine ⟨Dd, zs, rfl, setM_same, by rw [s1]; show zs.length + zs.length * 0 ≤ _; omega, ?_⟩
    refine sg_name (i := 3) ?_ sc_Lnames.nd  -- _law_stem =
    have hst : ∃ st, st = Txt.join "" zs := ⟨_, rfl⟩
    obtain ⟨st, hst⟩ := hst
    rw [← hst]
    have lo : Low st := fun x hx => by
      rw [hst, join_cps] at hx
      obtain ⟨l, hl, hx⟩ := List.mem_flatten.mp hx
      obtain ⟨z, hz, rfl⟩ := List.mem_map.mp hl
      exact (ez z hz).2 x hx
    have stl : st.length ≤ 7 := by
      have : st.length = st.cps.toList.length := by rw [Array.length_toList]; rfl
      rw [this, hst, join_cps, List.length_flatten, List.map_map]
      have e3 : (List.map (List.length ∘ fun z : Str => z.cps.toList) zs) = zs.map (·.length) := List.map_congr_left fun z _ => by
        show z.cps.toList.length = z.length
        rw [Array.length_toList]
        rfl
      rw [e3, s1]
      omega
    have muD : mu Dd = none := by
      cases hh : mu Dd with
      | none => rfl
      | some cc =>
        have := E1 Dd cc (fun z => by
          obtain ⟨_, _, _, g, _⟩ := j1.ex
          rw [z] at hD
          rw [hD] at g
          cases g) hh
        rw [hD] at this
        cases this
    have pD : p ≠ Dd := fun z => by
      obtain ⟨_, _, _, g, _⟩ := j1.ex
      rw [z, hD] at g
      cases g
    refine sss_cons ?_
    refine ss_asg ?_
    refine se_tup ?_
    refine sa_cons ?_
    refine se_callD D_take (hr.mono (by decide)) ?_
    refine sa_cons ?_
    refine se_var (i := 0) rfl ?_  -- _law_jar_here
    refine sa_cons ?_
    refine se_bin op_Add Add_w ?_
    refine se_len ?_ B.len
    refine se_var (i := 3) rfl ?_  -- _law_stem
    refine ⟨Nat.le_trans stl (by decide), ?_⟩
    refine se_int ?_  -- 1
    show SA _ _ _ _ _
    refine sa_nil ?_
    refine ⟨p, _, c + 1 + 7, rfl, by omega, by omega, (jr.mono (by rw [List.length_map, List.length_range]; omega)).set pD, by omega, fun sp mu2 sp0 sp1 j2 e2 => ?_⟩
    obtain ⟨sp, rfl⟩ : ∃ k : Nat, sp = k := ⟨sp.toNat, by omega⟩
    refine sa_cons ?_
    refine se_callD D_take (hr.mono (by decide)) ?_
    refine sa_cons ?_
    refine se_var (i := 0) rfl ?_  -- _law_jar_here
    refine sa_cons ?_
    refine se_int ?_  -- 26
    refine sa_nil ?_
    refine ⟨p, _, _, rfl, by decide, by decide, j2, by omega, fun fi mu3 f0 f1 j3 e3 => ?_⟩
    obtain ⟨fi, rfl⟩ : ∃ k : Nat, fi = k := ⟨fi.toNat, by omega⟩
    have sple : sp ≤ st.length := by omega
    refine sa_nil ?_
    refine ⟨by show 2 ≤ sizeLine; decide, ?_⟩
    refine sg_tup (sgs_cons (sg_name (i := 5) (sgs_cons (sg_name (i := 6) (sgs_nil ?_) sc_Lnames.nd)) sc_Lnames.nd))
    refine sss_cons ?_
    refine ss_ret ?_
    refine se_lc (own := [("_law_k", 7)]) (.nm 7) rfl sc_Lnames.nd (blkOk_by (N := ["_law_jar_here", "_law_many", "_law_small", "_law_stem", "_law_turn", "_law_spot", "_law_first", "_law_k"]) (sc := defScope s_Lnames) (by decide +kernel)) rfl (fun _ _ _ _ _ => (pg_name (i := 7) sc_Lnames.nd rfl (Or.inl rfl))) (by intro _; rfl) ?_
    refine si_range ?_ B.range
    refine se_var (i := 1) rfl ?_  -- _law_many
    refine ⟨by omega, by omega, ?_⟩
    rw [Int.toNat_natCast]
    refine lc_pure (fun w => match w with | .int k => .str (nameAt st sp fi k.toNat) | _ => .non) (fun _ _ => trivial) (by rw [List.length_map, List.length_range]; exact Nat.le_trans m26 (by decide)) ?_ InBlk.mono ?_
    · intro w mu' hw he
      obtain ⟨k, hk, rfl⟩ := List.mem_map.mp hw
      have hk := List.mem_range.mp hk
      refine ⟨_, rfl, fun s H C cl fp => ?_⟩
      have cl0 : ∀ lo hi, (cutS st lo hi).length ≤ 7 := fun lo hi => by
        have : (cutS st lo hi).length = (cutS st lo hi).cps.toList.length := by rw [Array.length_toList]; rfl
        rw [this]
        unfold cutS
        simp only [List.length_take, List.length_drop]
        have : st.cps.toList.length = st.length := by rw [Array.length_toList]; rfl
        omega
      refine se_bin op_add_str cat_w ?_
      refine se_bin op_add_str cat_w ?_
      refine se_slTo ?_  -- _law_stem[:_law_spot]
      refine se_var (i := 3) rfl ?_  -- _law_stem
      refine se_var (i := 5) rfl ?_  -- _law_spot
      refine ⟨Nat.le_trans stl (by decide), ?_⟩
      refine se_ix ?_
      refine se_var (i := 2) rfl ?_  -- _law_small
      refine se_bin op_Mod Mod_w ?_
      refine se_intC ?_ B.int
      refine se_bin op_Add Add_w ?_
      refine se_var (i := 6) rfl ?_  -- _law_first
      refine se_bin op_Mult Mult_w ?_
      refine se_int ?_  -- 3
      refine se_var (i := 7) rfl ?_  -- _law_k
      refine ⟨cmulW 2 10 (by decide) (by omega) (by decide) (by decide) (by decide), ?_⟩
      refine se_int ?_  -- 26
      refine ⟨by decide, ?_⟩
      have er : ((fi : Int) + 3 * (k : Int)) % 26 = (((fi + 3 * k) % 26 : Nat) : Int) := by omega
      refine ⟨97 + (fi + 3 * k) % 26, by decide, by rw [er]; exact alpha_at _ (by omega), ?_⟩
      have l1 := cl0 none (some (sp : Int))
      have l2 := cl0 (some (sp : Int)) none
      refine ⟨by show (cutS st none (some (sp : Int))).length + 1 ≤ sizeLine; exact Nat.le_trans (by omega : _ ≤ 8) (by decide), ?_⟩
      refine se_slFrom ?_  -- _law_stem[_law_spot:]
      refine se_var (i := 3) rfl ?_  -- _law_stem
      refine se_var (i := 5) rfl ?_  -- _law_spot
      refine ⟨Nat.le_trans stl (by decide), ?_⟩
      refine ⟨?_, rfl, Ext.refl⟩
      have : (cutS st none (some (sp : Int)) ++ (⟨#[97 + (fi + 3 * k) % 26]⟩ : Str)).length = (cutS st none (some (sp : Int))).length + 1 := by
        have hl : ∀ x : Str, x.length = x.cps.toList.length := fun x => by rw [Array.length_toList]; rfl
        rw [hl, str_app, List.length_append, ← hl]
        rfl
      rw [this]
      exact Nat.le_trans (by omega : _ ≤ 15) (by decide)
    · intro Y mu' hY he he2
      have em : ((List.range m).map fun i => W.int ((i : Nat) : Int)).map (fun w => match w with | .int k => .str (nameAt st sp fi k.toNat) | _ => W.non) = stW ((List.range m).map (nameAt st sp fi)) := by
        unfold stW
        rw [List.map_map, List.map_map]
        rfl
      rw [em]
      have E3 : ExtBut p mu mu3 := ((ex.own muD).trans e2).trans e3
      have muY : mu Y = none := by
        cases hh : mu Y with
        | none => rfl
        | some cc =>
          have := E3 Y cc (fun z => (j3.ne hY) z.symm) hh
          rw [hY] at this
          cases this
      refine h Y _ _ muY setM_same (by rw [List.length_map, List.length_range]) ?_ ?_ (((j3.ext he).mono (by omega)).set (j3.ne hY)) ((E3.trans (Ext.but he)).own muY)
      · rw [List.Nodup, List.pairwise_map]
        refine List.Pairwise.imp_of_mem (fun {a b} ha hb hne e => hne ?_) List.nodup_range
        exact nameAt_inj sple (by have := List.mem_range.mp ha; omega) (by have := List.mem_range.mp hb; omega) e
      · intro n hn
        obtain ⟨k, hk, rfl⟩ := List.mem_map.mp hn
        exact nameAt_ok sple stl lo
end
end K1
set_option Elab.async false
set_option linter.all false
set_option maxRecDepth 100000
/-! set(xs) of texts, any number, and its len. -/
namespace TxSet
open PyProof.Rows PySem.Spec PySem
/-- the texts once each, in the order of their first place -/
def oncePut (seen : List Str) (x : Str) : List Str := if x ∈ seen then seen else seen ++ [x]
def once (xs : List Str) : List Str := xs.foldl oncePut []
theorem once_take {xs : List Str} {i : Nat} {x : Str} (h : xs[i]? = some x) : once (xs.take (i + 1)) = oncePut (once (xs.take i)) x := by
  unfold once
  rw [List.take_add_one, h, List.foldl_append]
  rfl
theorem once_mem : ∀ (xs acc : List Str) (y : Str), y ∈ xs.foldl oncePut acc ↔ y ∈ acc ∨ y ∈ xs
  | [], acc, y => by simp
  | x :: xs, acc, y => by
    rw [List.foldl_cons, once_mem xs]
    unfold oncePut
    by_cases h : x ∈ acc
    · rw [if_pos h, List.mem_cons]
      constructor
      · rintro (q | q)
        · exact .inl q
        · exact .inr (.inr q)
      · rintro (q | rfl | q)
        · exact .inl q
        · exact .inl h
        · exact .inr q
    · rw [if_neg h, List.mem_append, List.mem_singleton, List.mem_cons]
      constructor
      · rintro ((q | q) | q)
        · exact .inl q
        · exact .inr (.inl q)
        · exact .inr (.inr q)
      · rintro (q | q | q)
        · exact .inl (.inl q)
        · exact .inl (.inr q)
        · exact .inr q
theorem once_len (xs acc : List Str) : (xs.foldl oncePut acc).length ≤ acc.length + xs.length := by
  induction xs generalizing acc with
  | nil => simp
  | cons x xs ih =>
    have := ih (oncePut acc x)
    have h2 : (oncePut acc x).length ≤ acc.length + 1 := by unfold oncePut; split <;> simp
    rw [List.foldl_cons, List.length_cons]
    omega
theorem once_nodup : ∀ (xs acc : List Str), (acc ++ xs).Nodup → xs.foldl oncePut acc = acc ++ xs
  | [], acc, _ => by simp
  | x :: xs, acc, h => by
    have hn : x ∉ acc := fun z => by
      rw [List.nodup_append] at h
      exact h.2.2 x z x (by simp) rfl
    rw [List.foldl_cons]
    unfold oncePut
    rw [if_neg hn]
    have := once_nodup xs (acc ++ [x]) (by simpa using h)
    rw [show (fun seen x => if x ∈ seen then seen else seen ++ [x]) = oncePut from rfl, this]
    simp
def inOnce (xs : List Str) (y : Str) : Bool := decide (y ∈ once xs)
section
variable {pr : Program} {ww : World} {A : Around} {R : Result → Shared → Prop} {I D : Addr} {fp wr : List Addr} {G : Array GenState → Array GenState → Prop} {m : Nat} {P : Nat → Value → Prop} {St : Nat → Shared → Prop}
theorem fillTx (Wk : WalksS pr ww A.in1 I fp wr G m P St) (hD : D ∉ fp) (xs : List Str) (hm : xs.length = m) (hb : m + 1 < scanBound) (hP : ∀ i v, P i v → ∃ x t, xs[i]? = some x ∧ v = .str x t) :
    ∀ (left i : Nat) (sh : Shared), m - i = left → i ≤ m → St i sh → sh.heap.SetOf (strKind pr ww) D (inOnce (xs.take i)) (once (xs.take i)).length →
      (∀ sh2, Moved (D :: wr) G sh sh2 → sh2.heap.SetOf (strKind pr ww) D (inOnce xs) (once xs).length → R (.ok (.ret .none)) sh2) → codeAny (model pr ww) A (.builtin "set.update.loop" ⟨[.ref D, .ref I], []⟩) R sh := by
  have hDw : D ∉ wr := fun z => hD (Wk.sub _ z)
  have up : ∀ b ∈ wr, b ∈ D :: wr := fun b z => List.mem_cons_of_mem _ z
  intro left
  induction left with
  | zero =>
    intro i sh h0 hi st hS fin
    have e : i = m := by omega
    subst e
    (refine codeAny_builtin F.entry_set_update_loop ?_; rw [Around.under_plainId F.plain_set_update_loop _])
    show wpAny _ A.in1 (pyNext (.ref I) >>= _) _ _ sh
    refine wpAny_bind (Wk.done sh _ _ st fun sh2 mv => ?_)
    show wpAny _ A.in1 (ret Value.none) _ _ sh2
    rw [← hm, List.take_length] at hS
    exact wpAny_pure (fin sh2 (mv.mono up) (let ⟨o, es, ep, t, ho, rest⟩ := hS; ⟨o, es, ep, t, mv.heap D _ hDw ho, rest⟩))
  | succ left ih =>
    intro i sh h0 hi st hS fin
    have lt : i < m := by omega
    (refine codeAny_builtin F.entry_set_update_loop ?_; rw [Around.under_plainId F.plain_set_update_loop _])
    show wpAny _ A.in1 (pyNext (.ref I) >>= _) _ _ sh
    refine wpAny_bind (Wk.item i sh _ _ lt st fun v sh2 hv st2 mv => ?_)
    obtain ⟨x, t, hx, rfl⟩ := hP i v hv
    have hS2 : sh2.heap.SetOf (strKind pr ww) D (inOnce (xs.take i)) (once (xs.take i)).length := let ⟨o, es, ep, tb, ho, rest⟩ := hS; ⟨o, es, ep, tb, mv.heap D _ hDw ho, rest⟩
    show wpAny _ A.in1 (holding [Value.str x t] (setAdd D (.str x t)) >>= _) _ _ sh2
    (refine wpAny_bind (wpAny_holding ?_); unfold setAdd)
    refine wpAny_holding (wpAny_bind ((strKind pr ww).pyHash (k := x) (strKind_is _ _ _ _) ?_))
    have l1 : (once (xs.take i)).length ≤ i := by
      have := once_len (xs.take i) []
      rw [List.length_take] at this
      unfold once
      simp at this
      omega
    refine wpAny_setAddHashed_of (knd := strKind pr ww) (s := { sh2 with toks := sh2.toks + 1 }) (strKind_is _ _ _ _) rfl hS2 (by omega) fun h3 same hS3 => ?_
    have hS4 : h3.SetOf (strKind pr ww) D (inOnce (xs.take (i + 1))) (once (xs.take (i + 1))).length := by
      rw [once_take hx]
      refine SetOf_congr hS3 (fun y => ?_) ?_
      · unfold inOnce
        rw [once_take hx]
        unfold oncePut
        by_cases h : x ∈ once (xs.take i)
        · rw [if_pos h]
          by_cases e : y = x
          · subst e; simp [h]
          · simp [e]
        · rw [if_neg h]
          by_cases e : y = x
          · subst e; simp
          · simp [e]
      · unfold oncePut inOnce
        by_cases h : x ∈ once (xs.take i)
        · simp [h]
        · simp [h]
    refine wpAny_pure ⟨plainId_quiet F.plain_set_update_loop _, ih (i + 1) _ (by omega) lt (Wk.frame _ sh2 _ _ st2 (Nat.le_succ _) fun b z o e => (same.2 b fun q : b = D => hD (q ▸ z)).trans e) hS4 fun sh3 mv3 hS5 => fin sh3 (Moved.trans Wk.gtrans ((mv.mono up).then_heap (Nat.le_succ _) fun b o z e => (same.2 b fun q : b = D => z (by rw [q]; exact List.mem_cons_self)).trans e) mv3) hS5⟩
end
end TxSet

namespace TxSet
open PyProof.Rows PySem.Spec PySem
abbrev bare (led : Bool) : Obj := { cls := .type "set", dict := none, data := .set #[] 0 (.fresh 0 0 led) }
section
variable {pr : Program} {ww : World} {A : Around} {E : Value → Shared → Prop} {sh : Shared}
set_option maxHeartbeats 3300000 in
theorem newTxL {ad : Addr} {its : Array Value} {xs : List Str} {Q : Value → Shared → Prop} (noExc : A.handled = none) (hseq : sh.heap.IsList ad its) (tx : StrsAre its.toList xs) (few : its.size + 1 < scanBound)
    (fin : ∀ (h2 : Heap) (t2 : Nat), h2.SetOf (strKind pr ww) sh.heap.objs.size (inOnce xs) (once xs).length → (∀ b o, b < sh.heap.objs.size → sh.heap.get? b = some o → h2.get? b = some o) → Q (.ref sh.heap.objs.size) { sh with heap := h2, toks := t2 }) : wpAny (model pr ww) A (call (.type "set") [.ref ad]) Q E sh := by
  obtain ⟨cc, rest, mro⟩ := F.called_set.mro
  have made := F.called_set.made
  have subS := F.called_set.sub
  (refine wpAny_call (codeAny_of_tree ?_); show wpAny _ _ (callAny (.type "set") _) _ _ sh; refine wpAny_pure ⟨Code.quiet_builtin _ (by decide +kernel), codeAny_builtin F.entry_type_call ?_⟩)
  rw [Around.under_plain (weight_type_call_type "set" [.ref ad] []) rfl]
  have n1 := F.called_set.notType
  have n2 := F.called_set.canCreate
  have n3 := F.typeCall_set_1 (.ref ad)
  repeat any_goals first | assumption | wp_step
  refine codeAny_mono (code_set_new_1 (.ref ad) (E := E) (Q₁ := fun ob sh1 => ∃ led : Bool, ob = .ref sh.heap.objs.size ∧ sh1 = { sh with heap := sh.heap.push (bare led) }) fun led => ⟨led, rfl, rfl⟩) fun r sh1 hr => ?_
  rcases r with ex | fl
  · exact hr
  cases fl with
  | ret ob =>
    obtain ⟨led, rfl, rfl⟩ := hr
    have at0 : (sh.heap.push (bare led)).get? sh.heap.objs.size = some (bare led) := Heap.get?_push_size _ rfl
    have ty0 : Shared.TypeIs { sh with heap := sh.heap.push (bare led) } (.ref sh.heap.objs.size) "set" := ⟨_, at0, rfl⟩
    have in1 := F.called_set.init.lookup
    have in2 := F.called_set.init.bind (.ref sh.heap.objs.size)
    repeat any_goals first | assumption | wp_step
    refine codeAny_mono (codeAny_call_builtin (R := wants (fun r sh2 => r = .none ∧ ∃ h2 t2, sh2 = { sh with heap := h2, toks := t2 } ∧ h2.SetOf (strKind pr ww) sh.heap.objs.size (inOnce xs) (once xs).length ∧ (∀ b o, b < sh.heap.objs.size → sh.heap.get? b = some o → h2.get? b = some o)) E) F.called_set.init.plain F.entry_set_init (check_set_init_1 ty0 ?_)) fun r2 sh2 hr2 => ?_
    · obtain ⟨⟨oc, odt, oda, osl⟩, hol, hcl, nl, hdl⟩ := hseq
      simp only at hcl hdl
      subst hcl hdl
      have hol2 : (sh.heap.push (bare led)).get? ad = some { cls := .type "list", dict := odt, data := .seq its nl, slots := osl } := Heap.get?_push_of_some _ hol
      have sub1 := PySem.F.sub_list_set
      have sub2 := PySem.F.sub_list_frozenset
      have neD : (Value.type "list" == Value.type "dict") = false := by decide
      have seq2 : (sh.heap.push (bare led)).IsList ad its := ⟨_, hol2, rfl, nl, rfl⟩
      (unfold Builtin.«set.__init__» noKeywords Builtin.Frozenset.updateFrom; generalize ePI : pyIter = PI)
      wp_walk
      subst ePI
      refine wpAny_pyIter_list seq2 (wpAny_bind (wpAny_runValue ?_))
      have adLt : ad < sh.heap.objs.size := Heap.lt_size hol
      have noExc3 : A.in1.in1.in1.handled = none := by simp [noExc]
      have apart : ad ≠ (sh.heap.push (bare led)).objs.size := by rw [Heap.size_push]; exact Nat.ne_of_lt (Nat.lt_succ_of_lt adLt)
      have out : sh.heap.objs.size ∉ [(sh.heap.push (bare led)).objs.size, ad] := by
        rw [Heap.size_push]
        simp only [List.mem_cons, List.mem_singleton, List.not_mem_nil, or_false, not_or]
        exact ⟨Nat.ne_of_lt (Nat.lt_succ_self _), Nat.ne_of_gt adLt⟩
      have lenX : xs.length = its.size := by rw [← StrsAre.len_eq tx, Array.length_toList]
      have each : ∀ (i : Nat) (v : Value), its[i]? = some v → ∃ x t, xs[i]? = some x ∧ v = .str x t := fun i v hv => by
        have il : i < xs.length := by rw [lenX]; exact (Array.getElem?_eq_some_iff.mp hv).1
        obtain ⟨t, e⟩ := SS.strs_at tx i v (by rw [Array.getElem?_toList]; exact hv)
        refine ⟨xs[i], t, List.getElem?_eq_getElem il, ?_⟩
        rw [e, List.getD_eq_getElem?_getD, List.getElem?_eq_getElem il]
        rfl
      refine fillTx ((Walks.list noExc3 _ ad apart its).toS) out xs lenX few each (its.size - 0) 0 _ (by omega) (Nat.zero_le _) ⟨⟨_, Heap.get?_push_size _ rfl, rfl, rfl⟩, seq2.push _⟩ ?begin ?after
      case begin =>
        have at1 : ((sh.heap.push (bare led)).push { cls := .type "list_iterator", data := .fields #[.ref ad, .int 0 0] }).get? sh.heap.objs.size = some (bare led) := Heap.get?_push_of_some _ at0
        exact SetOf_congr ((setObjOf_fresh (knd := strKind pr ww) led).setOf at1 (by unfold scanBound; omega)) (fun y => by simp [inOnce, once]) rfl
      case after =>
        intro sh3 mv hS
        obtain ⟨h3, g3, d3, t3, o3⟩ := sh3
        have eg : g3 = sh.gens := mv.gens
        have ed : d3 = sh.drawn := mv.drawn
        have eo : o3 = sh.os := mv.os
        subst eg ed eo
        show wpAny _ _ _ _ _ _
        (refine wpAny_pure ?_; show wpAny _ _ (ret Value.none) _ _ _)
        refine wpAny_pure ⟨rfl, h3, t3, rfl, hS, fun b o hb e => mv.heap b o ?_ (Heap.get?_push_of_some _ (Heap.get?_push_of_some _ e))⟩
        have b1 : b ≠ sh.heap.objs.size := Nat.ne_of_lt hb
        have b2 : b ≠ (sh.heap.push (bare led)).objs.size := by rw [Heap.size_push]; exact Nat.ne_of_lt (Nat.lt_succ_of_lt hb)
        simp only [List.mem_cons, List.mem_singleton, List.not_mem_nil, or_false, not_or]
        exact ⟨b1, b2⟩
    · rcases r2 with ex | fl2
      · exact hr2
      cases fl2 with
      | ret r =>
        obtain ⟨rfl, h2, t2, rfl, hS, hk⟩ := hr2
        repeat any_goals first | assumption | wp_step
        exact fin _ _ hS hk
      | _ => exact hr2.elim
  | _ => exact hr.elim
set_option maxHeartbeats 3300000 in
theorem newTxT {ad : Addr} {its : Array Value} {xs : List Str} {Q : Value → Shared → Prop} (noExc : A.handled = none) (hseq : sh.heap.IsTuple ad its) (tx : StrsAre its.toList xs) (few : its.size + 1 < scanBound)
    (fin : ∀ (h2 : Heap) (t2 : Nat), h2.SetOf (strKind pr ww) sh.heap.objs.size (inOnce xs) (once xs).length → (∀ b o, b < sh.heap.objs.size → sh.heap.get? b = some o → h2.get? b = some o) → Q (.ref sh.heap.objs.size) { sh with heap := h2, toks := t2 }) : wpAny (model pr ww) A (call (.type "set") [.ref ad]) Q E sh := by
  obtain ⟨cc, rest, mro⟩ := F.called_set.mro
  have made := F.called_set.made
  have subS := F.called_set.sub
  (refine wpAny_call (codeAny_of_tree ?_); show wpAny _ _ (callAny (.type "set") _) _ _ sh; refine wpAny_pure ⟨Code.quiet_builtin _ (by decide +kernel), codeAny_builtin F.entry_type_call ?_⟩)
  rw [Around.under_plain (weight_type_call_type "set" [.ref ad] []) rfl]
  have n1 := F.called_set.notType
  have n2 := F.called_set.canCreate
  have n3 := F.typeCall_set_1 (.ref ad)
  repeat any_goals first | assumption | wp_step
  refine codeAny_mono (code_set_new_1 (.ref ad) (E := E) (Q₁ := fun ob sh1 => ∃ led : Bool, ob = .ref sh.heap.objs.size ∧ sh1 = { sh with heap := sh.heap.push (bare led) }) fun led => ⟨led, rfl, rfl⟩) fun r sh1 hr => ?_
  rcases r with ex | fl
  · exact hr
  cases fl with
  | ret ob =>
    obtain ⟨led, rfl, rfl⟩ := hr
    have at0 : (sh.heap.push (bare led)).get? sh.heap.objs.size = some (bare led) := Heap.get?_push_size _ rfl
    have ty0 : Shared.TypeIs { sh with heap := sh.heap.push (bare led) } (.ref sh.heap.objs.size) "set" := ⟨_, at0, rfl⟩
    have in1 := F.called_set.init.lookup
    have in2 := F.called_set.init.bind (.ref sh.heap.objs.size)
    repeat any_goals first | assumption | wp_step
    refine codeAny_mono (codeAny_call_builtin (R := wants (fun r sh2 => r = .none ∧ ∃ h2 t2, sh2 = { sh with heap := h2, toks := t2 } ∧ h2.SetOf (strKind pr ww) sh.heap.objs.size (inOnce xs) (once xs).length ∧ (∀ b o, b < sh.heap.objs.size → sh.heap.get? b = some o → h2.get? b = some o)) E) F.called_set.init.plain F.entry_set_init (check_set_init_1 ty0 ?_)) fun r2 sh2 hr2 => ?_
    · obtain ⟨⟨oc, odt, oda, osl⟩, hol, hcl, nl, hdl⟩ := hseq
      simp only at hcl hdl
      subst hcl hdl
      have hol2 : (sh.heap.push (bare led)).get? ad = some { cls := .type "tuple", dict := odt, data := .seq its nl, slots := osl } := Heap.get?_push_of_some _ hol
      have sub1 := PySem.F.sub_tuple_set
      have sub2 := PySem.F.sub_tuple_frozenset
      have neD : (Value.type "tuple" == Value.type "dict") = false := by decide
      have seq2 : (sh.heap.push (bare led)).IsTuple ad its := ⟨_, hol2, rfl, nl, rfl⟩
      (unfold Builtin.«set.__init__» noKeywords Builtin.Frozenset.updateFrom; generalize ePI : pyIter = PI)
      wp_walk
      subst ePI
      refine wpAny_pyIter_tuple seq2 (wpAny_bind (wpAny_runValue ?_))
      have adLt : ad < sh.heap.objs.size := Heap.lt_size hol
      have noExc3 : A.in1.in1.in1.handled = none := by simp [noExc]
      have apart : ad ≠ (sh.heap.push (bare led)).objs.size := by rw [Heap.size_push]; exact Nat.ne_of_lt (Nat.lt_succ_of_lt adLt)
      have out : sh.heap.objs.size ∉ [(sh.heap.push (bare led)).objs.size, ad] := by
        rw [Heap.size_push]
        simp only [List.mem_cons, List.mem_singleton, List.not_mem_nil, or_false, not_or]
        exact ⟨Nat.ne_of_lt (Nat.lt_succ_self _), Nat.ne_of_gt adLt⟩
      have lenX : xs.length = its.size := by rw [← StrsAre.len_eq tx, Array.length_toList]
      have each : ∀ (i : Nat) (v : Value), its[i]? = some v → ∃ x t, xs[i]? = some x ∧ v = .str x t := fun i v hv => by
        have il : i < xs.length := by rw [lenX]; exact (Array.getElem?_eq_some_iff.mp hv).1
        obtain ⟨t, e⟩ := SS.strs_at tx i v (by rw [Array.getElem?_toList]; exact hv)
        refine ⟨xs[i], t, List.getElem?_eq_getElem il, ?_⟩
        rw [e, List.getD_eq_getElem?_getD, List.getElem?_eq_getElem il]
        rfl
      refine fillTx ((Walks.tuple noExc3 _ ad apart its).toS) out xs lenX few each (its.size - 0) 0 _ (by omega) (Nat.zero_le _) ⟨⟨_, Heap.get?_push_size _ rfl, rfl, rfl⟩, seq2.push _⟩ ?begin ?after
      case begin =>
        have at1 : ((sh.heap.push (bare led)).push { cls := .type "tuple_iterator", data := .fields #[.ref ad, .int 0 0] }).get? sh.heap.objs.size = some (bare led) := Heap.get?_push_of_some _ at0
        exact SetOf_congr ((setObjOf_fresh (knd := strKind pr ww) led).setOf at1 (by unfold scanBound; omega)) (fun y => by simp [inOnce, once]) rfl
      case after =>
        intro sh3 mv hS
        obtain ⟨h3, g3, d3, t3, o3⟩ := sh3
        have eg : g3 = sh.gens := mv.gens
        have ed : d3 = sh.drawn := mv.drawn
        have eo : o3 = sh.os := mv.os
        subst eg ed eo
        show wpAny _ _ _ _ _ _
        (refine wpAny_pure ?_; show wpAny _ _ (ret Value.none) _ _ _)
        refine wpAny_pure ⟨rfl, h3, t3, rfl, hS, fun b o hb e => mv.heap b o ?_ (Heap.get?_push_of_some _ (Heap.get?_push_of_some _ e))⟩
        have b1 : b ≠ sh.heap.objs.size := Nat.ne_of_lt hb
        have b2 : b ≠ (sh.heap.push (bare led)).objs.size := by rw [Heap.size_push]; exact Nat.ne_of_lt (Nat.lt_succ_of_lt hb)
        simp only [List.mem_cons, List.mem_singleton, List.not_mem_nil, or_false, not_or]
        exact ⟨b1, b2⟩
    · rcases r2 with ex | fl2
      · exact hr2
      cases fl2 with
      | ret r =>
        obtain ⟨rfl, h2, t2, rfl, hS, hk⟩ := hr2
        repeat any_goals first | assumption | wp_step
        exact fin _ _ hS hk
      | _ => exact hr2.elim
  | _ => exact hr.elim
end
end TxSet
namespace L2
open PySem PyProof.Rows
def tLenTx (K : PySem.W.Frag) (ta : TE) : TE := fun σ H Q => ta σ H fun x H1 => ∃ l, ∃ xs : List Str, x = .ref l ∧ (SqL K H1 l (xs.map V.str) ∨ SqT K H1 l (xs.map V.str)) ∧ xs.length ≤ 20 ∧ Q (.int (TxSet.once xs).length) H1
theorem pe_lenTx {X : Cx} {a : Expr} {ta : TE} {p p2 q pos : Pos} (hc : X.calm = true) (hg : Gl X "len") (hm : X.mg "len" = none) (hg2 : Gl X "set") (hm2 : X.mg "set" = none) (ha : PE X a ta) (na : starEach [a] X.env = (false, eval a X.env) :: starEach [] X.env := by rfl) :
    PE X (.Call (.Name "len" p) [.Call (.Name "set" p2) [a] [] q] [] pos) (tLenTx X.K ta) := by
  refine ⟨fun pins s σ H Q I h => Call_ (ld_blt I hg hm boot_len (PyProof.Rows.callWith_builtin1 (PyProof.Rows.args_cons (Call_ (ld_blt I hg2 hm2 boot_set (PyProof.Rows.callWith_type1 (PyProof.Rows.args_cons (thn (ha.run pins s σ H _ I h) fun v s1 ⟨x, H1, I1, r1, l, xs, ex, hq, h20, qq⟩ => PyProof.Rows.args_nil ?_) na) na rfl))) rfl) rfl rfl))⟩
  subst ex
  cases r1
  have l2 := TxSet.once_len xs []
  have fin : ∀ (h' : Heap) (tk : Nat), h'.SetOf (PySem.strKind X.prog X.w) s1.heap.objs.size (TxSet.inOnce xs) (TxSet.once xs).length → (∀ b o, b < s1.heap.objs.size → s1.heap.get? b = some o → h'.get? b = some o) →
      wpAny (model X.prog X.w) X.A (spliced (backTo pos (starEach [] X.env))) (fun vs s₂ => wpAny (model X.prog X.w) X.A (call (.builtin "len") (Value.ref s1.heap.objs.size :: vs)) (EP X pins σ Q) X.xe s₂) X.xe { s1 with heap := h', toks := tk } := fun h' tk hS hk => PyProof.Rows.args_nil (by
    obtain ⟨so, es, ep, tb, hso, hex, hd, _, _, _, hf, hn⟩ := hS
    have J2 : Inv X pins σ H1 { s1 with heap := h', toks := tk } := I1.kept fun b ob z => hk b ob (Heap.lt_size z) z
    have l3 : (TxSet.once xs).length ≤ 20 := by unfold TxSet.once; simp at l2; omega
    exact call_len_set hso hex hd hf (by rw [hn]; omega) ⟨.int (TxSet.once xs).length, H1, J2.tok _, ⟨_, by rw [hn]⟩, qq⟩)
  rcases hq with hq | hq
  · obtain ⟨itms, r, pl, hz⟩ := I1.list hq
    have hl := r.length
    rw [List.length_map] at hl
    exact TxSet.newTxL (I1.ok.hd hc) pl.isList (by simpa using strsAre_of r) (by simp; unfold scanBound; omega) fin
  · obtain ⟨itms, r, pl, hz⟩ := I1.tuple hq
    have hl := r.length
    rw [List.length_map] at hl
    exact TxSet.newTxT (I1.ok.hd hc) pl (by simpa using strsAre_of r) (by simp; unfold scanBound; omega) fin
end L2
namespace Dv
open PySem L2
theorem se_lenSet {X : Cx} {e : Expr} {G : Gs} {mu : Mu} {p p2 q pos : Pos} {P : PW1} (h : SE X e G mu fun w mu1 => ∃ xs : List Str, (w = .tup (xs.map W.str) ∨ ∃ a, w = .m a ∧ mu1 a = some (.lst (xs.map W.str))) ∧ xs.length ≤ 20 ∧ P (.int (TxSet.once xs).length) mu1)
    (hm : X.mg "len" = none) (hm2 : X.mg "set" = none) (hc : X.calm = true := by rfl) (hg : Gl X "len" := by rfl) (hg2 : Gl X "set" := by rfl) (na : starEach [e] X.env = (false, eval e X.env) :: starEach [] X.env := by rfl) : SE X (.Call (.Name "len" p) [.Call (.Name "set" p2) [e] [] q] [] pos) G mu P :=
  SE.mk (pe_lenTx hc hg hm hg2 hm2 peE na) fun σ H Q d m k => h σ H _ d m fun v w mu1 H1 h1 c1 d1 m1 => by
    obtain ⟨xs, hw, h20, qq⟩ := h1
    rcases hw with rfl | ⟨a, rfl, ha⟩
    · obtain ⟨l, vs, rfl, s1, d2⟩ := d1
      have := denAll_str d2
      subst this
      exact ⟨l, xs, rfl, .inr s1, h20, (k.step c1).now qq rfl m1⟩
    · obtain ⟨vs, hx, d2⟩ := m1 a _ ha
      have d1 : v = .ref a := d1
      subst d1
      have := denAll_str d2
      subst this
      exact ⟨a, xs, rfl, .inl (SqL.of hx), h20, (k.step c1).now qq rfl m1⟩
end Dv
set_option Elab.async false
set_option linter.all false
set_option maxRecDepth 100000
namespace K1
open PySem L2 Dv
section
variable {P : Program} {w : World} {K : PySem.W.Frag} {mg : Str → Option Value} {base : Heap}
abbrev s_are_different : Stmt := top 16
theorem sc_are_different : FnScope ["names"] ["names"] (defScope s_are_different) := ⟨rfl, rfl, rfl, by decide +kernel, rfl, by decide +kernel, by decide +kernel⟩
theorem d_are_different (D : Dfn K mg "are_different" s_are_different ["names"]) (B : Bl mg) : DefOk P w K mg base "are_different" ["names"] 1 S_are_different := by
  refine dfnOk D sc_are_different (fun ws mu P ⟨⟨ns, v, e, _⟩, _⟩ => by rw [e]; rfl) (fun f cdv A outer s H E hr ws mu Pt ⟨⟨ns, v, e, hv, nd, l10, ok⟩, h⟩ => ?_)
  subst e
  have on : (TxSet.once ns).length = ns.length := by
    unfold TxSet.once
    rw [TxSet.once_nodup ns [] (by simpa using nd)]
    simp
  refine sss_cons ?_
  refine ss_ret ?_
  refine se_cmp (op_eqD hr.units) eq_w (nomark _) ?_
  refine se_lenSet ?_ B.len B.set
  refine se_var (i := 0) rfl ?_
  refine ⟨ns, hv, by omega, ?_⟩
  refine se_len ?_ B.len
  refine se_var (i := 0) rfl ?_
  rcases hv with rfl | ⟨a, rfl, ha⟩
  · refine eq_ints ?_
    rw [stW_len, on, decide_eq_true rfl]
    exact h _ Ext.refl
  · refine ⟨_, ha, ?_⟩
    refine eq_ints ?_
    rw [stW_len, on, decide_eq_true rfl]
    exact h _ Ext.refl
end
end K1
set_option Elab.async false
set_option linter.all false
set_option maxRecDepth 100000
/-! What is drawn is a world. -/
namespace K1
open PySem L2 Dv
theorem look_first : ∀ {ss : List Slot} {s : Slot}, (ss.map (·.1)).Nodup → s ∈ ss → look ss (firstS ss) s.1 = some (s.2.2.headD "")
  | [], s, _, h => by simp at h
  | t :: ss, s, nd, h => by
    rw [List.map_cons, List.nodup_cons] at nd
    show look (t :: ss) (t.2.2.headD "" :: firstS ss) s.1 = _
    unfold look
    rcases List.mem_cons.mp h with rfl | h
    · rw [if_pos rfl]
    · have hne : t.1 ≠ s.1 := fun z => nd.1 (List.mem_map.mpr ⟨s, h, z.symm⟩)
      rw [if_neg hne]
      exact look_first nd.2 h
theorem away_no {hs : List Str} {ss : List Slot} {fs : Pat} (ok : SsOk hs ss) (h : Away ss fs) : holds ss (firstS ss) fs = false := by
  obtain ⟨r, hr, s, hss, e, ht⟩ := h
  unfold holds
  rw [List.all_eq_false]
  refine ⟨r, hr, ?_⟩
  rw [decide_eq_true_iff, ← e, look_first ok.nd hss]
  intro z
  have z := Option.some.inj z
  have nd := (ok.each s hss).nd
  cases hw : s.2.2 with
  | nil => rw [hw] at ht; simp at ht
  | cons x rest =>
    rw [hw] at z ht nd
    rw [List.nodup_cons] at nd
    have z : x = r.2 := z
    exact nd.1 (z ▸ ht)
theorem away_some {ss : List Slot} {fs : Pat} (h : Away ss fs) : fs ≠ [] := fun z => by
  obtain ⟨r, hr, _⟩ := h
  rw [z] at hr
  simp at hr
theorem psOk_of {hs : List Str} {ss : List Slot} {ps : List Pat} (ok : SsOk hs ss) (each : ∀ p ∈ ps, PtOk ss p ∧ Away ss p) (up : rising (ps.map ptW) = true) (len : ps.length ≤ 10) : PsOk ss ps where
  each := fun p hp => ⟨(each p hp).1, away_some (each p hp).2⟩
  up := up
  len := len
  no := by
    unfold oneHolds
    rw [List.any_eq_false]
    intro p hp
    rw [away_no ok (each p hp).2]
    simp
theorem rising_tail : ∀ {us : List W}, rising us = true → rising us.tail = true
  | [], _ => rfl
  | [x], _ => rfl
  | x :: y :: r, h => by
    unfold rising at h ⊢
    simp only [List.tail_cons, List.zip_cons_cons, List.all_cons, Bool.and_eq_true] at h ⊢
    exact h.2
theorem PsOk.tail {ss : List Slot} {ps : List Pat} (h : PsOk ss ps) : PsOk ss ps.tail where
  each := fun p hp => h.each p (List.mem_of_mem_tail hp)
  up := by rw [List.map_tail]; exact rising_tail h.up
  len := by rw [List.length_tail]; have := h.len; omega
  no := by
    have := h.no
    unfold oneHolds at this ⊢
    rw [List.any_eq_false] at this ⊢
    exact fun p hp => this p (List.mem_of_mem_tail hp)
/-- lapses turned about -/
theorem WdOk.laps {v : Wd} (h : WdOk v) : WdOk { v with lapses := v.lapses.reverse } :=
  { hs := h.hs, ss := h.ss, bears := h.bears, some_ := h.some_, never := h.never, len := by show v.lapses.reverse.length ≤ 4; rw [List.length_reverse]; exact h.len, each := fun l hl => h.each l (List.mem_reverse.mp hl) }
/-- never without its first -/
theorem WdOk.nev {v : Wd} (h : WdOk v) : WdOk { v with never := v.never.tail } :=
  { hs := h.hs, ss := h.ss, bears := h.bears, some_ := h.some_, never := h.never.tail, len := h.len, each := h.each }
/-- bears without its first -/
theorem WdOk.bea {v : Wd} (h : WdOk v) (h2 : 1 < v.bears.length) : WdOk { v with bears := v.bears.tail } :=
  { hs := h.hs, ss := h.ss, bears := h.bears.tail, some_ := fun z => by
      have z : v.bears.tail = [] := z
      have := congrArg List.length z
      rw [List.length_tail] at this
      simp at this
      omega
    never := h.never, len := h.len, each := h.each }
end K1
set_option Elab.async false
set_option linter.all false
set_option maxRecDepth 100000
/-! Worlds near a world: slots turned about, a house more. -/
namespace K1
open PySem L2 Dv
theorem PrOk.sub {ss ss' : List Slot} (h : ∀ s ∈ ss, s ∈ ss') {q : Str × Str} (p : PrOk ss q) : PrOk ss' q := let ⟨s, h1, h2⟩ := p; ⟨s, h s h1, h2⟩
theorem PtOk.sub {ss ss' : List Slot} (h : ∀ s ∈ ss, s ∈ ss') {p : Pat} (k : PtOk ss p) : PtOk ss' p := ⟨fun q hq => (k.pr q hq).sub h, k.up, k.len⟩
theorem LpOk.sub {ss ss' : List Slot} (h : ∀ s ∈ ss, s ∈ ss') {l : Lap} (k : LpOk ss l) : LpOk ss' l :=
  have f : ∀ s ∈ ss.filter (atHome l.1), s ∈ ss'.filter (atHome l.1) := fun s hs => List.mem_filter.mpr ⟨h s (List.mem_filter.mp hs).1, (List.mem_filter.mp hs).2⟩
  ⟨k.ho, k.needs.sub f, k.makes.sub f, k.some_⟩
theorem look_pr {ss : List Slot} {q : Str × Str} (nd : (ss.map (·.1)).Nodup) {s : Slot} (hs : s ∈ ss) (e : s.1 = q.1) : look ss (firstS ss) q.1 = some (s.2.2.headD "") := e ▸ look_first nd hs
theorem holds_first {ss ss' : List Slot} (nd : (ss.map (·.1)).Nodup) (nd' : (ss'.map (·.1)).Nodup) (sub : ∀ s ∈ ss, s ∈ ss') {p : Pat} (k : ∀ q ∈ p, PrOk ss q) : holds ss' (firstS ss') p = holds ss (firstS ss) p := by
  unfold holds
  have : ∀ q ∈ p, decide (look ss' (firstS ss') q.1 = some q.2) = decide (look ss (firstS ss) q.1 = some q.2) := fun q hq => by
    obtain ⟨s, hs, e, _⟩ := k q hq
    rw [look_pr nd hs e, look_pr nd' (sub s hs) e]
  rw [Bool.eq_iff_iff, List.all_eq_true, List.all_eq_true]
  exact ⟨fun h q hq => by rw [← this q hq]; exact h q hq, fun h q hq => by rw [this q hq]; exact h q hq⟩
theorem PsOk.sub {ss ss' : List Slot} (nd : (ss.map (·.1)).Nodup) (nd' : (ss'.map (·.1)).Nodup) (sub : ∀ s ∈ ss, s ∈ ss') {ps : List Pat} (h : PsOk ss ps) : PsOk ss' ps where
  each := fun p hp => ⟨(h.each p hp).1.sub sub, (h.each p hp).2⟩
  up := h.up
  len := h.len
  no := by
    have := h.no
    unfold oneHolds at this ⊢
    rw [List.any_eq_false] at this ⊢
    intro p hp
    rw [holds_first nd nd' sub (h.each p hp).1.pr]
    exact this p hp
theorem manyS_rev : ∀ ss : List Slot, manyS ss.reverse = manyS ss
  | [] => rfl
  | s :: ss => by
    rw [List.reverse_cons, manyS_append, manyS_rev ss]
    simp [manyS, Nat.mul_comm]
theorem WdOk.turn {v : Wd} (h : WdOk v) : WdOk { v with slots := v.slots.reverse } := by
  have nd' : (v.slots.reverse.map (·.1)).Nodup := by
    rw [List.map_reverse]
    exact (List.reverse_perm _).nodup_iff.mpr h.ss.nd
  have sub : ∀ s ∈ v.slots, s ∈ v.slots.reverse := fun s hs => List.mem_reverse.mpr hs
  exact
    { hs := h.hs
      ss := ⟨by show 1 ≤ v.slots.reverse.length; rw [List.length_reverse]; exact h.ss.lo, by show v.slots.reverse.length ≤ 6; rw [List.length_reverse]; exact h.ss.hi, fun s hs => h.ss.each s (List.mem_reverse.mp hs), nd', by show manyS v.slots.reverse ≤ 32; rw [manyS_rev]; exact h.ss.many⟩
      bears := h.bears.sub h.ss.nd nd' sub
      some_ := h.some_
      never := h.never.sub h.ss.nd nd' sub
      len := h.len
      each := fun l hl => (h.each l hl).sub sub }
/-- texts in ascending order -/
def asTx (ns : List Str) : List Str := ns.mergeSort fun a b => leW (.str a) (.str b)
theorem asTx_perm (ns : List Str) : (asTx ns).Perm ns := List.mergeSort_perm _ _
theorem asTx_sort (ns : List Str) : (stW ns).mergeSort leW = stW (asTx ns) := sorted_map W.str ns
theorem asTx_up {ns : List Str} (nd : ns.Nodup) : rising (stW (asTx ns)) = true := by
  have h1 := sorted_up W.str (l := ns) (List.Pairwise.imp (fun {a b} hne => str_apart hne) nd)
  refine rising_of ?_
  unfold stW
  rw [List.pairwise_map]
  exact h1
theorem lt_str {x y : Str} : ltD (.str x, .str y) = decide (x.cps.toList < y.cps.toList) := PySem.W.dataLt_str x y
theorem rising_pair : ∀ {ns : List Str}, rising (stW ns) = true → ns.Pairwise fun a b => a.cps.toList < b.cps.toList
  | [], _ => List.Pairwise.nil
  | [x], _ => List.pairwise_singleton _ _
  | x :: y :: r, h => by
    have h0 := h
    unfold rising stW at h
    simp only [List.map_cons, List.tail_cons, List.zip_cons_cons, List.all_cons, Bool.and_eq_true, lt_str, decide_eq_true_iff] at h
    have ih := rising_pair (ns := y :: r) (rising_tail h0)
    refine List.pairwise_cons.mpr ⟨fun z hz => ?_, ih⟩
    rcases List.mem_cons.mp hz with rfl | hz
    · exact h.1
    · exact List.lt_trans h.1 ((List.pairwise_cons.mp ih).1 z hz)
theorem rising_nodup {ns : List Str} (h : rising (stW ns) = true) : ns.Nodup := (rising_pair h).imp fun {a b} hl e => by
  rw [e] at hl
  exact List.lt_irrefl _ hl
theorem SlOk.sub {hs hs' : List Str} (h : ∀ x ∈ hs, x ∈ hs') {s : Slot} (k : SlOk hs s) : SlOk hs' s := ⟨k.nm, h _ k.home, k.lo, k.hi, k.wm, k.nd⟩
theorem WdOk.house {v : Wd} (h : WdOk v) {n : Str} (hn : NmOk n) (hv : n ∉ v.houses) (hl : v.houses.length < 4) : WdOk { v with houses := asTx (v.houses ++ [n]) } := by
  have pm := asTx_perm (v.houses ++ [n])
  have nd : (v.houses ++ [n]).Nodup := by
    rw [List.nodup_append]
    exact ⟨rising_nodup h.hs.up, by simp, fun a ha b hb => by rw [List.mem_singleton] at hb; subst hb; exact fun z => hv (z ▸ ha)⟩
  have len : (asTx (v.houses ++ [n])).length = v.houses.length + 1 := by rw [pm.length_eq, List.length_append]; rfl
  have sub : ∀ x ∈ v.houses, x ∈ asTx (v.houses ++ [n]) := fun x hx => pm.mem_iff.mpr (by simp [hx])
  exact
    { hs := ⟨by show 1 ≤ (asTx (v.houses ++ [n])).length; omega, by show (asTx (v.houses ++ [n])).length ≤ 4; omega, fun x hx => by
        rcases List.mem_append.mp (pm.mem_iff.mp hx) with q | q
        · exact h.hs.nm x q
        · rw [List.mem_singleton] at q
          exact q ▸ hn, asTx_up nd⟩
      ss := ⟨h.ss.lo, h.ss.hi, fun s hs => (h.ss.each s hs).sub sub, h.ss.nd, h.ss.many⟩
      bears := h.bears, some_ := h.some_, never := h.never, len := h.len, each := h.each }
end K1
set_option Elab.async false
set_option linter.all false
set_option maxRecDepth 100000
/-! == and != by a class's own __eq__, by values. -/
namespace DvLow
open PySem PySem.Spec PyProof.Rows
section
variable {prog : Program} {w : World} {A : Around} {E : Value → Shared → Prop} {s : Shared} {K : PySem.W.Frag} {x C f : Addr} {ox : Obj} {od : Option Obj}
theorem dec_int (b : Int) (u : Tok) (l C dx : Addr) : Meets (Builtin.«int.__eq__» ⟨[.int b u, .ref l], []⟩) (fun _ R s => s.heap.get? l = some (PySem.W.instObj C dx) ∧ R (.ok (.ret .notImplemented)) s) :=
  .of_wp fun prog w A R s h => by
    obtain ⟨hp, g, d, tk, os⟩ := s
    obtain ⟨hl, h⟩ := h
    wp_walk using wpAny_loadPart' hl, wpAny_load hl
    exact ⟨_, rfl, h⟩
theorem dec_str (b : Str) (u : Tok) (l C dx : Addr) : Meets (Builtin.«str.__eq__» ⟨[.str b u, .ref l], []⟩) (fun _ R s => s.heap.get? l = some (PySem.W.instObj C dx) ∧ R (.ok (.ret .notImplemented)) s) :=
  .of_wp fun prog w A R s h => by
    obtain ⟨hp, g, d, tk, os⟩ := s
    obtain ⟨hl, h⟩ := h
    wp_walk using wpAny_loadPart' hl, wpAny_load hl
    exact ⟨_, rfl, h⟩
theorem dec_tup {a : Addr} {R : Result → Shared → Prop} (hi : PySem.W.Looks (model prog w) s.heap (isInstance (.ref x) (.type "tuple")) false) (h : R (.ok (.ret .notImplemented)) s) :
    wpAny (model prog w) A.in1 (Builtin.«tuple.__eq__» ⟨[.ref a, .ref x], []⟩) (GQ.FinOf prog w A R) (fun e s' => R (.error e) s') s := by
  obtain ⟨hp, g, d, tk, os⟩ := s
  have hi' : ∀ {Q : Bool → Shared → Prop} {E : Value → Shared → Prop} {A : Around}, Q false ⟨hp, g, d, tk, os⟩ → wpAny (model prog w) A (isInstance (.ref x) (.type "tuple")) Q E ⟨hp, g, d, tk, os⟩ := fun q => hi.here q
  wp_walk using hi'
  exact h
/-- l == x, l of a built-in type that declines, x of a class with its own == -/
theorem refl_K {l : Value} {T id : String} {Q : Value → Shared → Prop} (hu : A.units < cLine) (X : K.In s.heap) (I : PySem.W.InstAt s.heap x ox C od) (hT : s.TypeIs l T) (h1 : oneThing? .Eq l (.ref x) = none)
    (hsub : PySem.W.subIn K (.ref C) (.type T) = some false) (sl : Slot T "__eq__" id) (hc : wpAny (model prog w) A (call (.builtin id) [l, .ref x]) (fun v s' => v = .notImplemented ∧ s' = s) E s)
    (hs : PySem.W.findIn K (.ref C) "__eq__" = some (some (.ref f))) (hf : PySem.W.isFn K (.ref f) = true)
    (h : wpAny (model prog w) A (call (.ref f) [.ref x, l]) (PySem.W.CmpBack Q) E s) : wpAny (model prog w) A (richCompare .Eq l (.ref x)) Q E s := by
  have one : wpAny (model prog w) A (tryCompare l "__eq__" (.ref x)) (fun r s' => r = none ∧ s' = s) E s :=
    wpAny_tryCompare_declines hT sl (wpAny_mono hc (fun v s' ⟨e1, e2⟩ => ⟨e1, rfl, e2⟩) fun _ _ e => e)
  have two : wpAny (model prog w) A (tryCompare (.ref x) "__eq__" l) (fun r s' => ∃ v, r = some v ∧ Q v s') E s := by
    unfold tryCompare
    refine wpAny_bind (PySem.W.ifBound_K X I hs hf (wpAny_mono h (fun v s' hv => ?_) fun _ _ e => e))
    cases v <;> first | exact hv.elim | exact wpAny_pure ⟨_, rfl, hv⟩
  simp only [richCompare, cmpInfo_Eq, h1]
  refine wpAny_holding (wpAny_bind (wpAny_cRoomFor hu ?_))
  refine wpAny_bind (wpAny_typeOf hT ?_)
  refine wpAny_bind (I.type.here ?_)
  split
  · refine wpAny_bind ((PySem.W.looks_subIn X hsub).here ?_)
    simp only [Bool.false_eq_true, if_false, Bool.not_false, if_true]
    refine wpAny_bind (m := tryCompare l _ (.ref x)) (wpAny_mono one (fun r s1 z => ?_) fun _ _ e => e)
    obtain ⟨z1, z2⟩ := z
    subst z1
    subst z2
    refine wpAny_bind (m := tryCompare (.ref x) _ l) (wpAny_mono two (fun r s2 z => ?_) fun _ _ e => e)
    obtain ⟨v, rfl, hq⟩ := z
    exact wpAny_pure hq
  · rename_i q
    exact absurd (by simp) q
theorem bound_ne {M : Model} {args : List Value} {Q : Option Value → Shared → Prop} (X : K.In s.heap) (I : PySem.W.InstAt s.heap x ox C od) (hs : PySem.W.findIn K (.ref C) "__ne__" = some (some (.builtin "object.__ne__")))
    (h : wpAny M A (call (.builtin "object.__ne__") (.ref x :: args)) (fun v => Q (some v)) E s) : wpAny M A (callSpecialIfBound? (.ref x) "__ne__" args) Q E s := by
  have go : wpAny M A (call (.builtin "object.__ne__") ([.ref x] ++ args) >>= fun v => pure (some v)) Q E s := wpAny_bind (wpAny_mono h (fun v s' q => wpAny_pure q) fun _ _ q => q)
  have bd := F.cmp_object.ne.bind (.ref x)
  simp only [callSpecialIfBound?, bindSpecialIfBound?]; refine wpAny_holding (wpAny_bind (wpAny_bind (wpAny_bind (I.type.here ((PySem.W.looks_findIn X hs).here ?_)))))
  refine wpAny_bind (wpAny_askSetting (wpAny_ite ?_)); split
  · exact wpAny_bind (wpAny_of_eq bd (wpAny_pure (by exact go)))
  · exact wpAny_tryCatch (wpAny_bind (wpAny_of_eq bd (wpAny_pure (by exact go))))
set_option maxHeartbeats 4000000 in
/-- x != b, x of a class with its own == and without != of its own -/
theorem ne_K {b tb : Value} {Q : Value → Shared → Prop} (hu : A.units + 1 < cLine) (X : K.In s.heap) (I : PySem.W.InstAt s.heap x ox C od) (hb : PySem.W.Looks (model prog w) s.heap (typeOf b) tb) (hn : PySem.W.notFirst K C tb = true)
    (hm : PySem.W.mroIn K C (.type "object") = some true) (hne : PySem.W.findIn K (.ref C) "__ne__" = some (some (.builtin "object.__ne__")))
    (hs : PySem.W.findIn K (.ref C) "__eq__" = some (some (.ref f))) (hf : PySem.W.isFn K (.ref f) = true)
    (h : wpAny (model prog w) A.in1 (call (.ref f) [.ref x, b]) (fun v s' => ∃ r, v = .bool r ∧ Q (.bool (!r)) s') E s) : wpAny (model prog w) A (richCompare .NotEq (.ref x) b) Q E s := by
  have hu1 : A.in1.units < cLine := hu
  have entry : ∀ {R : Fin → Shared → Prop}, wpAny (model prog w) A.in1 (call (.ref f) [.ref x, b]) (fun v s' => ∃ r, v = .bool r ∧ R (.done (.ret (.bool (!r)))) s') E s → wpAny (model prog w) A.in1 (Builtin.«object.__ne__» ⟨[.ref x, b], []⟩) R E s := by
    intro R hcall
    obtain ⟨hp, g, d, tk, os⟩ := s
    unfold Builtin.«object.__ne__»
    repeat (first
      | with_reducible refine wpAny_cRoomFor hu1 ?_
      | (refine wpAny_bind (m := callSpecialIfBound? (.ref x) (Str.ofString "__eq__") [b])
          (PySem.W.ifBound_K X I hs hf (wpAny_mono hcall (fun r s' hr => by
            obtain ⟨b, rfl, hq⟩ := hr
            repeat (first | exact hq | exact wpAny_pure hq | exact wpAny_truthy_bool hq | (refine wpAny_bind (m := truthy (.bool _)) (wpAny_truthy_bool ?_)) | wp_step)) fun _ _ e => e)))
      | wp_step)
  have one : wpAny (model prog w) A (tryCompare (.ref x) "__ne__" b) (fun r s' => ∃ v, r = some v ∧ Q v s') E s := by
    unfold tryCompare
    have e1 := entry (R := GQ.FinOf prog w A (wants (fun v s' => ∃ r, v = Value.bool r ∧ Q v s') E)) (wpAny_mono h (fun v s' ⟨r, e, q⟩ => ⟨r, e, (show ∃ r', Value.bool (!r) = Value.bool r' ∧ Q (Value.bool (!r)) s' from ⟨!r, rfl, q⟩)⟩) fun _ _ e => e)
    have body : wpAny (model prog w) A (call (.builtin "object.__ne__") [.ref x, b]) (fun v s' => ∃ r, v = .bool r ∧ Q v s') E s := by
      refine wpAny_call (codeAny_call_builtin F.cmp_object.ne.plain F.cmpEntry_ne ?_)
      refine PySem.W.check_slot F.cmpKind_ne F.cmpSplit_ne (I.type.andThen (PySem.W.looks_mroIn X hm)) (F.cmpArgs_ne _ _) ?_
      exact e1
    exact wpAny_bind (bound_ne X I hne (wpAny_mono body (fun v s' ⟨r, e, q⟩ => by subst e; exact wpAny_pure ⟨_, rfl, q⟩) fun _ _ h' => h'))
  unfold richCompare
  simp only [oneThing_ref]
  refine wpAny_holding (wpAny_bind (wpAny_cRoomFor (Nat.lt_of_succ_lt hu) ?_))
  refine wpAny_bind (I.type.here (wpAny_bind (hb.here ?_)))
  split
  · rename_i q
    have e : PySem.W.subIn K tb (.ref C) = some false := by
      rcases Bool.or_eq_true_iff.mp hn with e | e
      · rw [beq_iff_eq.mp e] at q; simp at q
      · exact beq_iff_eq.mp e
    refine wpAny_bind ((PySem.W.looks_subIn X e).here ?_)
    simp only [Bool.false_eq_true, if_false]
    refine wpAny_bind (wpAny_mono one (fun r s' z => ?_) fun _ _ e => e)
    obtain ⟨v, rfl, hq⟩ := z
    exact wpAny_pure hq
  · refine wpAny_bind (wpAny_pure ?_)
    simp only [Bool.false_eq_true, if_false]
    refine wpAny_bind (wpAny_mono one (fun r s' z => ?_) fun _ _ e => e)
    obtain ⟨v, rfl, hq⟩ := z
    exact wpAny_pure hq
end
end DvLow
set_option Elab.async false
set_option linter.all false
set_option maxRecDepth 100000
/-! == and != of instances with an own __eq__: what its promise says of two values. -/
namespace Dv
open PySem L2
section
variable {X : Cx} {pins : List (Addr × Obj)} {σ : St} {H : Hp} {s : Shared}
theorem sub_of {K : PySem.W.Frag} {T : String} {C : Addr} {l : List String} (h : fastBuiltinMro T = some (l.map Value.type)) : PySem.W.subIn K (.type T) (.ref C) = some false := by
  show (fastBuiltinMro T).map (fun z => z.contains (.ref C)) = some false
  rw [h, Option.map_some]
  have : ∀ l : List String, (l.map Value.type).contains (Value.ref C) = false := fun l => by
    induction l with
    | nil => rfl
    | cons a l ih => simp [List.contains_cons]
  rw [this]
theorem first_of {K : PySem.W.Frag} {T : String} {C : Addr} {l : List String} (h : fastBuiltinMro T = some (l.map Value.type)) : PySem.W.notFirst K C (.type T) = true := by
  unfold PySem.W.notFirst
  rw [sub_of h]
  simp
/-- what may stand beside an instance in a comparison -/
inductive OthV (K : PySem.W.Frag) (C : Addr) (H : Hp) : V → Prop where
  | non : OthV K C H .non
  | int (i : Int) : OthV K C H (.int i)
  | str (z : Str) : OthV K C H (.str z)
  | tup {a : Addr} {xs : List V} (h : SqT K H a xs) : OthV K C H (.ref a)
  | ins {a dx : Addr} {fs : List (Str × V)} (h : H a = some (.ins C dx fs)) : OthV K C H (.ref a)
theorem OthV.look {C : Addr} {y : V} {u : Value} (I : Inv X pins σ H s) (r : RelV y u) (o : OthV X.K C H y) : ∃ tb, PySem.W.Looks (model X.prog X.w) s.heap (typeOf u) tb ∧ PySem.W.notFirst X.K C tb = true := by
  cases o with
  | non =>
    cases (show u = Value.none from r)
    exact ⟨.type "NoneType", PySem.W.Looks.of_pure rfl, first_of (l := ["NoneType", "object"]) (by decide +kernel)⟩
  | int i =>
    obtain ⟨t, q⟩ := (show ∃ t, u = Value.int i t from r)
    cases q
    exact ⟨.type "int", PySem.W.Looks.of_pure rfl, first_of (l := ["int", "object"]) (by decide +kernel)⟩
  | str z =>
    obtain ⟨t, q⟩ := (show ∃ t, u = Value.str z t from r)
    cases q
    exact ⟨.type "str", PySem.W.Looks.of_pure rfl, first_of (l := ["str", "object"]) (by decide +kernel)⟩
  | @tup a xs h =>
    cases (show u = Value.ref a from r)
    obtain ⟨its, _, ⟨ob, ho, hc, _⟩, _⟩ := I.tuple h
    exact ⟨.type "tuple", hc ▸ (PySem.W.Looks.ld ho).andThen .now, first_of (l := ["tuple", "object"]) (by decide +kernel)⟩
  | @ins a dx fs h =>
    cases (show u = Value.ref a from r)
    obtain ⟨mA, J, _⟩ := ins_get I.hok h
    obtain ⟨od, J, _⟩ := J.look
    exact ⟨.ref C, J.type, by simp [PySem.W.notFirst]⟩
/-- what the promise S must say of two values, for an end by a truth -/
def Told (K : PySem.W.Frag) (H : Hp) (S : SpW) (x y : V) (Q : Bool → Hp → Prop) : Prop := ∃ ws mu P, S ws mu P ∧ DenAll K H ws [x, y] ∧ HM K H mu ∧ ∀ v w mu' H', P w mu' → Chg mu H mu' H' → Den K H' w v → HM K H' mu' → ∃ b, v = .bl b ∧ Q b H'
theorem run_own {m : Str} {C : Addr} {ps : List Str} {k : Nat} {S : SpW} (D : MetOk X.prog X.w X.K X.mg X.base C m ps k S) : ∃ f, PySem.W.findIn X.K (.ref C) m = some (some (.ref f)) ∧ PySem.W.isFn X.K (.ref f) = true ∧
    ∀ (A : Around) (pins : List (Addr × Obj)) (σ : St) (H : Hp) (s : Shared) (x y : V) (u v : Value) (Q : Bool → Hp → Prop), Sub X k A → Inv X pins σ H s → RelV x u → RelV y v → Told X.K H S x y Q →
      wpAny (model X.prog X.w) A (call (.ref f) [u, v]) (fun r s' => ∃ b H', r = .bool b ∧ Inv X pins σ H' s' ∧ Q b H') X.xe s := by
  obtain ⟨f, fd, F, hm, hb⟩ := D.ex
  refine ⟨f, hm.at_, hm.fn, fun A pins σ H s x y u v Q sb I rx ry ⟨ws, mu, P, hS, d, mm, k⟩ => ?_⟩
  have hsp : spW X.K S [x, y] H (fun v H' => ∃ b, v = .bl b ∧ Q b H') (fun _ _ _ => False) := ⟨ws, mu, P, hS, d, mm, fun v w mu' H' p c dv m' => k v w mu' H' p c dv m'⟩
  have q := I.env0
  have e0 : Env0 X.prog X.w X.K X.mg X.base A X.stack s H := { frames := sb.fr.trans q.frames, mod := q.mod, bs := q.bs, bsz := q.bsz, funs := q.funs, frf := q.frf, hok := q.hok, bare := q.bare }
  have hl := F.len _ _ _ _ hsp
  have r2 : Vals [x, y] [u, v] := .cons rx (.cons ry .nil)
  have bd := hb s [u, v] I.kIn (by simpa using hl)
  rw [List.append_nil] at bd
  refine wpAny_call (codeAny_mono (F.run A X.stack s H ⟨[u, v], []⟩ [u, v] [x, y] _ _ sb.room e0 bd r2 hsp) fun r s' hq => ?_)
  cases r with
  | error e => exact False.elim hq
  | ok fl => cases fl with
    | next => exact False.elim hq
    | brk => exact False.elim hq
    | cont => exact False.elim hq
    | ret w =>
      obtain ⟨z, H', I', rz, b, ez, q⟩ := I.after hq
      subst ez
      cases rz
      exact ⟨b, H', rfl, I', q⟩
def rOwn (K : PySem.W.Frag) (C : Addr) (S : SpW) : R2 := fun x y H Q => (∃ a dx fs, x = .ref a ∧ H a = some (.ins C dx fs)) ∧ OthV K C H y ∧ Told K H S x y fun b H' => Q (.bl b) H'
/-- x == y -/
theorem op_eqOwn {C : Addr} {ps : List Str} {k : Nat} {S : SpW} (D : MetOk X.prog X.w X.K X.mg X.base C "__eq__" ps k S) (hr : Room k X.A) : OpR X (compareOp .Eq) (rOwn X.K C S) := by
  intro pins s σ H x y v u Q I rx ry ⟨⟨a, dx, fs, ex, ha⟩, o, h⟩
  subst ex
  obtain ⟨f, h1, h2, run⟩ := run_own D
  cases rx
  obtain ⟨mA, J, _⟩ := ins_get I.hok ha
  obtain ⟨od, J, _⟩ := J.look
  obtain ⟨tb, L, nf⟩ := o.look I ry
  obtain ⟨m, hF⟩ := I.fr
  show wpAny (model X.prog X.w) X.A (richCompare .Eq (.ref a) u) (EP X pins σ Q) X.xe s
  refine PySem.W.cmp_K (op := .Eq) hr.units0 hF I.ok.mod.kin J L nf h1 h2 ?_
  exact wpAny_mono (run X.A pins σ H s (.ref a) y (.ref a) u (fun b H' => Q (.bl b) H') ⟨hr, rfl⟩ I rfl ry h) (fun r s' ⟨b, H', e, I', q⟩ => by subst e; exact ⟨.bl b, H', I', rfl, q⟩) fun _ _ e => e
/-- the class is no subclass of what stands beside it -/
structure NoSub (K : PySem.W.Frag) (C : Addr) : Prop where
  non : PySem.W.mroIn K C (.type "NoneType") = some false
  int : PySem.W.mroIn K C (.type "int") = some false
  str : PySem.W.mroIn K C (.type "str") = some false
  tup : PySem.W.mroIn K C (.type "tuple") = some false
/-- a value of a built-in type beside an instance -/
inductive BltV (K : PySem.W.Frag) (H : Hp) : V → Prop where
  | non : BltV K H .non
  | int (i : Int) : BltV K H (.int i)
  | str (z : Str) : BltV K H (.str z)
  | tup {a : Addr} {xs : List V} (h : SqT K H a xs) : BltV K H (.ref a)
def rRef (K : PySem.W.Frag) (C : Addr) (S : SpW) : R2 := fun x y H Q => (∃ a dx fs, y = .ref a ∧ H a = some (.ins C dx fs)) ∧ BltV K H x ∧ Told K H S y x fun b H' => Q (.bl b) H'
/-- y == x, y of a built-in type -/
theorem op_eqRef {C : Addr} {ps : List Str} {k : Nat} {S : SpW} (D : MetOk X.prog X.w X.K X.mg X.base C "__eq__" ps k S) (N : NoSub X.K C) (hr : Room k X.A) : OpR X (compareOp .Eq) (rRef X.K C S) := by
  intro pins s σ H x y v u Q I rx ry ⟨⟨a, dx, fs, ey, ha⟩, o, h⟩
  subst ey
  obtain ⟨f, h1, h2, run⟩ := run_own D
  cases ry
  obtain ⟨mA, J0, _⟩ := ins_get I.hok ha
  obtain ⟨od, J, _⟩ := J0.look
  have last : wpAny (model X.prog X.w) X.A (call (.ref f) [.ref a, v]) (PySem.W.CmpBack (EP X pins σ Q)) X.xe s :=
    wpAny_mono (run X.A pins σ H s (.ref a) x (.ref a) v (fun b H' => Q (.bl b) H') ⟨hr, rfl⟩ I rfl rx h) (fun r s' ⟨b, H', e, I', q⟩ => by subst e; exact ⟨.bl b, H', I', rfl, q⟩) fun _ _ e => e
  have hu := hr.units0
  show wpAny (model X.prog X.w) X.A (richCompare .Eq v (.ref a)) (EP X pins σ Q) X.xe s
  cases o with
  | non =>
    cases (show v = Value.none from rx)
    exact DvLow.refl_K hu I.kIn J (show s.TypeIs .none "NoneType" from rfl) rfl N.non F.slot_NoneType_eq (call_gives F.slot_NoneType_eq rfl F.entry_NoneType_eq (F.args_NoneType_eq_2 _ _) (PySem.SeqAt.NoneType___eq___none_ref_0 a) ⟨rfl, rfl⟩) h1 h2 last
  | int i =>
    obtain ⟨t, q⟩ := (show ∃ t, v = Value.int i t from rx)
    cases q
    exact DvLow.refl_K hu I.kIn J (typeIs_int s i t) rfl N.int F.slot_int_eq (call_meets F.slot_int_eq (typeIs_int s i t) F.entry_int_eq (F.args_int_eq_2 _ _) (DvLow.dec_int i t a C dx) ⟨J0.obj, rfl, rfl⟩) h1 h2 last
  | str z =>
    obtain ⟨t, q⟩ := (show ∃ t, v = Value.str z t from rx)
    cases q
    exact DvLow.refl_K hu I.kIn J (typeIs_str s z t) rfl N.str F.slot_str_eq (call_meets F.slot_str_eq (typeIs_str s z t) F.entry_str_eq (F.args_str_eq_2 _ _) (DvLow.dec_str z t a C dx) ⟨J0.obj, rfl, rfl⟩) h1 h2 last
  | @tup p xs hs =>
    cases (show v = Value.ref p from rx)
    obtain ⟨its, _, ⟨ob, ho, hc, _⟩, _⟩ := I.tuple hs
    refine DvLow.refl_K hu I.kIn J ⟨ob, ho, hc⟩ rfl N.tup F.slot_tuple_eq (GQ.call_here F.slot_tuple_eq ⟨ob, ho, hc⟩ F.entry_tuple_eq (F.args_tuple_eq_2 _ _) ?_) h1 h2 last
    exact DvLow.dec_tup (J.type.andThen (PySem.W.looks_mroIn I.kIn N.tup)) ⟨rfl, rfl⟩
/-- x != y -/
def rNeOwn (K : PySem.W.Frag) (C : Addr) (S : SpW) : R2 := fun x y H Q => (∃ a dx fs, x = .ref a ∧ H a = some (.ins C dx fs)) ∧ OthV K C H y ∧ Told K H S x y fun b H' => Q (.bl !b) H'
theorem op_neOwn {C : Addr} {ps : List Str} {k : Nat} {S : SpW} (D : MetOk X.prog X.w X.K X.mg X.base C "__eq__" ps k S) (hr : Room (k + 1) X.A)
    (hm : PySem.W.mroIn X.K C (.type "object") = some true) (hn : PySem.W.findIn X.K (.ref C) "__ne__" = some (some (.builtin "object.__ne__"))) : OpR X (compareOp .NotEq) (rNeOwn X.K C S) := by
  intro pins s σ H x y v u Q I rx ry ⟨⟨a, dx, fs, ex, ha⟩, o, h⟩
  subst ex
  obtain ⟨f, h1, h2, run⟩ := run_own D
  cases rx
  obtain ⟨mA, J, _⟩ := ins_get I.hok ha
  obtain ⟨od, J, _⟩ := J.look
  obtain ⟨tb, L, nf⟩ := o.look I ry
  show wpAny (model X.prog X.w) X.A (richCompare .NotEq (.ref a) u) (EP X pins σ Q) X.xe s
  refine DvLow.ne_K (by have := hr.units; omega) I.kIn J L nf hm hn h1 h2 ?_
  exact wpAny_mono (run X.A.in1 pins σ H s (.ref a) y (.ref a) u (fun b H' => Q (.bl !b) H') ⟨hr.in1, rfl⟩ I rfl ry h) (fun r s' ⟨b, H', e, I', q⟩ => by subst e; exact ⟨b, rfl, .bl !b, H', I', rfl, q⟩) fun _ _ e => e
/-! by values -/
def OthW (C : Addr) (mu : Mu) : W → Prop
  | .non => True
  | .int _ => True
  | .str _ => True
  | .tup _ => True
  | .m a => ∃ fs, mu a = some (.ins C fs)
  | _ => False
theorem OthW.v {K : PySem.W.Frag} {C : Addr} {H : Hp} {mu : Mu} {w : W} {v : V} (m : HM K H mu) (d : Den K H w v) (h : OthW C mu w) : OthV K C H v := by
  cases w with
  | non => have d : v = .non := d; subst d; exact .non
  | bl b => exact h.elim
  | int i => have d : v = .int i := d; subst d; exact .int i
  | str z => have d : v = .str z := d; subst d; exact .str z
  | tup ws => obtain ⟨a, xs, e, q, _⟩ := d; subst e; exact .tup q
  | m a =>
    have d : v = .ref a := d
    subst d
    obtain ⟨fs, e⟩ := h
    obtain ⟨dx, vs, hx, _⟩ := m a _ e
    exact .ins hx
def BltW : W → Prop
  | .non => True
  | .int _ => True
  | .str _ => True
  | .tup _ => True
  | _ => False
theorem BltW.v {K : PySem.W.Frag} {H : Hp} {w : W} {v : V} (d : Den K H w v) (h : BltW w) : BltV K H v := by
  cases w with
  | non => have d : v = .non := d; subst d; exact .non
  | bl b => exact h.elim
  | int i => have d : v = .int i := d; subst d; exact .int i
  | str z => have d : v = .str z := d; subst d; exact .str z
  | tup ws => obtain ⟨a, xs, e, q, _⟩ := d; subst e; exact .tup q
  | m a => exact h.elim
theorem told_of {K : PySem.W.Frag} {H : Hp} {mu : Mu} {S : SpW} {w1 w2 : W} {x y : V} {P : PW1} {Q : Bool → Hp → Prop} {g : Bool → Bool} (dx : Den K H w1 x) (dy : Den K H w2 y) (m : HM K H mu)
    (h : S [w1, w2] mu fun w mu' => ∃ b, w = .bl b ∧ P (.bl (g b)) mu') (k : ∀ b mu' H', P (.bl (g b)) mu' → Chg mu H mu' H' → HM K H' mu' → Q b H') : Told K H S x y Q :=
  ⟨[w1, w2], mu, _, h, ⟨x, [y], rfl, dx, y, [], rfl, dy, rfl⟩, m, fun v w mu' H' ⟨b, e, p⟩ c d m' => by
    subst e
    have d : v = .bl b := d
    exact ⟨b, d, k b mu' H' p c m'⟩⟩
abbrev eqOwnW (C : Addr) (S : SpW) (w1 w2 : W) (mu : Mu) (P : PW1) : Prop := (∃ a fs, w1 = .m a ∧ mu a = some (.ins C fs)) ∧ OthW C mu w2 ∧ S [w1, w2] mu fun w mu' => ∃ b, w = .bl b ∧ P (.bl b) mu'
theorem eqOwn_w {C : Addr} {S : SpW} : OpW X (rOwn X.K C S) (eqOwnW C S) := fun w1 w2 x y mu H P Q dx dy m ⟨⟨a, fs, e, ha⟩, o, h⟩ k => by
  subst e
  have dx' : x = .ref a := dx
  subst dx'
  obtain ⟨dd, vs, hx, _⟩ := m a _ ha
  exact ⟨⟨a, dd, vs, rfl, hx⟩, o.v m dy, told_of (g := id) dx dy m h fun b mu' H' p c m' => k _ _ _ _ p c rfl m'⟩
abbrev eqRefW (C : Addr) (S : SpW) (w1 w2 : W) (mu : Mu) (P : PW1) : Prop := (∃ a fs, w2 = .m a ∧ mu a = some (.ins C fs)) ∧ BltW w1 ∧ S [w2, w1] mu fun w mu' => ∃ b, w = .bl b ∧ P (.bl b) mu'
theorem eqRef_w {C : Addr} {S : SpW} : OpW X (rRef X.K C S) (eqRefW C S) := fun w1 w2 x y mu H P Q dx dy m ⟨⟨a, fs, e, ha⟩, o, h⟩ k => by
  subst e
  have dy' : y = .ref a := dy
  subst dy'
  obtain ⟨dd, vs, hx, _⟩ := m a _ ha
  exact ⟨⟨a, dd, vs, rfl, hx⟩, o.v dx, told_of (g := id) dy dx m h fun b mu' H' p c m' => k _ _ _ _ p c rfl m'⟩
abbrev neOwnW (C : Addr) (S : SpW) (w1 w2 : W) (mu : Mu) (P : PW1) : Prop := (∃ a fs, w1 = .m a ∧ mu a = some (.ins C fs)) ∧ OthW C mu w2 ∧ S [w1, w2] mu fun w mu' => ∃ b, w = .bl b ∧ P (.bl !b) mu'
theorem neOwn_w {C : Addr} {S : SpW} : OpW X (rNeOwn X.K C S) (neOwnW C S) := fun w1 w2 x y mu H P Q dx dy m ⟨⟨a, fs, e, ha⟩, o, h⟩ k => by
  subst e
  have dx' : x = .ref a := dx
  subst dx'
  obtain ⟨dd, vs, hx, _⟩ := m a _ ha
  exact ⟨⟨a, dd, vs, rfl, hx⟩, o.v m dy, told_of (g := fun b => !b) dx dy m h fun b mu' H' p c m' => k _ _ _ _ p c rfl m'⟩
end
/-! isinstance of an own class -/
structure IsCls (K : PySem.W.Frag) (C : Addr) : Prop where
  cl : Cls K C
  ha : PySem.W.findIn K (.ref C) "__class__" = some (some (.builtin "object.__class__"))
  hn : PySem.W.specialIn K (.builtin "object.__class__") "__get__" = some (some (.builtin "getset_descriptor.__get__"))
  ht : PySem.W.takesIn K (.builtin "object.__class__") = some true
  hm : PySem.W.mroIn K C (.type "object") = some true
  self : PySem.W.kitOne K (.ref C) (.ref C) = some true
  non : PySem.W.kitOne K (.type "NoneType") (.ref C) = some false
  int : PySem.W.kitOne K (.type "int") (.ref C) = some false
  str : PySem.W.kitOne K (.type "str") (.ref C) = some false
  tup : PySem.W.kitOne K (.type "tuple") (.ref C) = some false
def isOwn : W → Option Bool
  | .non => some false
  | .int _ => some false
  | .str _ => some false
  | .tup _ => some false
  | .m _ => some true
  | _ => none
theorem isOwn_ok {K : PySem.W.Frag} {H : Hp} {mu : Mu} {C : Addr} {w : W} {v : V} (Z : IsCls K C) (m : HM K H mu) (d : Den K H w v) (h : OthW C mu w) : ∃ t b, isOwn w = some b ∧ TyX K H v t ∧ PySem.W.kitOne K t (.ref C) = some b := by
  cases w with
  | non => exact ⟨_, _, rfl, tyN_ok (n := "NoneType") d m rfl, Z.non⟩
  | bl b => exact h.elim
  | int i => exact ⟨_, _, rfl, tyN_ok (n := "int") d m rfl, Z.int⟩
  | str z => exact ⟨_, _, rfl, tyN_ok (n := "str") d m rfl, Z.str⟩
  | tup ws => exact ⟨_, _, rfl, tyN_ok (n := "tuple") d m rfl, Z.tup⟩
  | m a =>
    have d : v = .ref a := d
    subst d
    obtain ⟨fs, e⟩ := h
    obtain ⟨dx, vs, hx, _⟩ := m a _ e
    exact ⟨_, _, rfl, .base (.ins hx Z.cl Z.ha Z.hn Z.ht Z.hm), Z.self⟩
end Dv
set_option Elab.async false
set_option linter.all false
set_option maxRecDepth 100000
/-! t[::-1] of a tuple; sorted of a tuple; repr; isinstance of an own class. -/
namespace RevT
open PySem PySem.Spec PyProof.Rows HT
theorem adj_rev (n : Nat) : Builtin.Slice.sliceAdjust none none (-1) (n : Int) = ((n : Int) - 1, -1) := rfl
theorem places_rev (n : Nat) : Builtin.Slice.slicePlaces ((n : Int) - 1) (-1) (-1) = n := by
  unfold Builtin.Slice.slicePlaces
  rw [if_neg (by decide)]
  by_cases h : (n : Int) - 1 > -1
  · rw [if_pos h]
    have : ((n : Int) - 1 - -1 - 1) / (- -1) + 1 = n := by
      rw [show (- -1 : Int) = 1 from rfl, Int.ediv_one]
      omega
    rw [this]
    exact Int.toNat_natCast n
  · rw [if_neg h]
    have : n = 0 := by omega
    subst this
    rfl
theorem pick_rev : ∀ (ys : List Value), (List.range ys.length).filterMap (fun (m : Nat) => ys.toArray[(((ys.length : Nat) : Int) - 1 + (m : Int) * -1).toNat]?) = ys.reverse := by
  intro ys
  have h1 : ∀ k, k ≤ ys.length → (List.range k).filterMap (fun (m : Nat) => ys.toArray[(((ys.length : Nat) : Int) - 1 + (m : Int) * -1).toNat]?) = ys.reverse.take k := by
    intro k
    induction k with
    | zero => intro _; rfl
    | succ k ih =>
      intro hk
      rw [List.range_succ, List.filterMap_append, ih (by omega), List.take_add_one]
      congr 1
      have e : ((((ys.length : Nat) : Int) - 1 + (k : Int) * -1).toNat) = ys.length - 1 - k := by omega
      rw [List.filterMap_cons, e]
      have e2 : ys.toArray[ys.length - 1 - k]? = ys.reverse[k]? := by
        rw [List.getElem?_toArray, List.getElem?_reverse (by omega)]
      rw [e2]
      cases hh : ys.reverse[k]? <;> simp
  rw [h1 _ (Nat.le_refl _)]
  exact List.take_of_length_le (by simp)
section
variable {prog : Program} {w : World} {A : Around} {E : Value → Shared → Prop} {s : Shared}
theorem applied_rev {sl : Addr} {vk : Value} {n : Nat} {Q : Int × Int × Nat → Shared → Prop} (hs : s.heap.IsSliceOf sl .none .none vk) (ps : IsPart vk (some (-1)))
    (h : Q ((n : Int) - 1, -1, n) s) : wpAny (model prog w) A (Builtin.Slice.sliceApplied (.ref sl) (pure (n : Int))) Q E s := by
  obtain ⟨os, h1, _, h3⟩ := id hs
  unfold Builtin.Slice.sliceApplied Builtin.Slice.sliceFields
  refine wpAny_bind (wpAny_bind (wpAny_field h1 h3 (x := .none) rfl (wpAny_bind (wpAny_field h1 h3 (x := .none) rfl (wpAny_bind (wpAny_field h1 h3 (x := vk) rfl (wpAny_pure ?_)))))))
  refine wpAny_bind (slicePart_ ps ?_); show wpAny _ _ (if ((-1 : Int) == 0) = true then _ else _) _ _ s
  rw [if_neg (show ¬ ((-1 : Int) == 0) = true by decide)]
  refine wpAny_bind (slicePart_ .none (wpAny_bind (slicePart_ .none (wpAny_bind (wpAny_pure ?_)))))
  show wpAny _ _ (match Builtin.Slice.sliceAdjust none none (-1) (n : Int) with | (lo, hi) => pure (lo, (-1 : Int), Builtin.Slice.slicePlaces lo hi (-1))) _ _ s
  rw [adj_rev n]
  show wpAny _ _ (pure ((n : Int) - 1, (-1 : Int), Builtin.Slice.slicePlaces ((n : Int) - 1) (-1) (-1))) _ _ s
  rw [places_rev]
  exact wpAny_pure h
theorem getItem_rev {t sl : Addr} {its : List Value} {vk : Value} {Q : Value → Shared → Prop} (ht : IsTup s.heap t its.toArray) (hs : s.heap.IsSliceOf sl .none .none vk) (ps : IsPart vk (some (-1))) (hz : its.length ≤ sizeLine)
    (h : Q (.ref s.heap.objs.size) { s with heap := s.heap.push { cls := .type "tuple", data := .seq its.reverse.toArray } }) : wpAny (model prog w) A (getItem (.ref t) (.ref sl)) Q E s := by
  have okz : sizeOk (.seq its.reverse.toArray) := by
    show its.reverse.toArray.size ≤ sizeLine
    rw [List.size_toArray, List.length_reverse]
    exact hz
  obtain ⟨os, h1, h2, h3⟩ := id hs
  have ty : s.TypeIs (.ref sl) "slice" := ⟨os, h1, h2⟩
  unfold getItem; try with_reducible refine wpAny_holding ?_
  try refine wpAny_bind (wpAny_pure ?_)
  refine wpAny_bind (wpAny_sequenceKey ht.typeIs (by decide) (wpAny_bind (wpAny_callSpecial?_slot (name := Str.ofString "__getitem__") ht.typeIs PyProof.Rows.slot_tuple_getitem
    (wpAny_call_entry PyProof.Rows.slot_tuple_getitem ht.typeIs entry_tuple_getitem ?_ (args_tuple_getitem _ _)))))
  show wpAny _ _ (Builtin.Tuple.tupleItemsOf (.ref t) >>= _) _ _ s
  refine wpAny_bind (tupleItemsOf_ ht (wpAny_bind (wpAny_typeOf ty ?_)))
  rw [if_pos (show (Value.type "slice" == Value.type "slice") = true by decide)]
  have ez : its.toArray.size = its.length := by simp
  refine wpAny_bind (applied_rev (n := its.toArray.size) hs ps ?_)
  have no : ¬ ((((its.toArray.size : Nat) : Int) - 1 == 0 && (-1 : Int) == 1 && its.toArray.size == its.toArray.size) = true) := by
    simp
  show wpAny _ _ (if (((its.toArray.size : Nat) : Int) - 1 == 0 && (-1 : Int) == 1 && its.toArray.size == its.toArray.size) = true then _ else _) _ _ s
  rw [if_neg no, ez, pick_rev]
  first
    | exact wpAny_bind (m := Builtin.Tuple.tupleExact _) (wpAny_newObj_type (wpAny_pure ⟨_, rfl, wpAny_pure h⟩) okz)
    | exact wpAny_bind (m := Builtin.Tuple.tupleExact _) (wpAny_newObj_type (wpAny_bind (wpAny_pure (wpAny_pure ⟨_, rfl, wpAny_pure h⟩))) okz)
    | exact wpAny_bind (wpAny_bind (m := Builtin.Tuple.tupleExact _) (wpAny_newObj_type (wpAny_pure (wpAny_pure ⟨_, rfl, wpAny_pure h⟩)) okz))
    | exact wpAny_bind (wpAny_bind (m := Builtin.Tuple.tupleExact _) (wpAny_newObj_type (wpAny_pure ⟨_, rfl, wpAny_pure h⟩) okz))
end
end RevT
namespace SortT
open PySem PySem.Spec PyProof.Rows
section
variable {prog : Program} {w : World} {A : Around} {E : Value → Shared → Prop} {s : Shared} {β : Type} {bs : List β} {enc : β → PyData} {R : Value → β → Prop}
/-- sorted(x), whatever x is: OK tells what collect finds -/
theorem sorted_by {x : Value} {OK : List Value → Shared → Prop} {Q : Value → Shared → Prop} (hx : ∀ {Q' : List Value → Shared → Prop} {E' : Value → Shared → Prop}, (∀ vs s1, OK vs s1 → Q' vs s1) → wpAny (model prog w) A.in1 (collect x) Q' E' s)
    (step : ∀ vs s1, OK vs s1 → ∃ bs : List β, PySem.W.EachIs R vs bs ∧ PySem.W.EachIs (fun v b => ∃ as, Reads s1.heap v (enc b) as) vs bs ∧ PySem.W.AllAlike (bs.map enc) ∧ PySem.W.Sortable (bs.map enc) ∧ bs.length ≤ sizeLine ∧ (∀ b, b ∈ bs → A.units + 2 + (enc b).depth < cLine) ∧
      ∀ out c h', out.length = bs.length → PySem.W.EachIs R out (bs.mergeSort (PySem.W.dataLe false enc)) → (∀ b o, s1.heap.get? b = some o → h'.get? b = some o) → h'.get? s1.heap.objs.size = some (seqObj "list" (List.toArray out) c) → Q (.ref s1.heap.objs.size) { s1 with heap := h' }) :
    wpAny (model prog w) A (call (.builtin "sorted") [x]) Q E s := by
  (refine Calls.call_function_entry kind_sorted plain_sorted entry_sorted (args_sorted1 _) ?_; unfold Builtin.«sorted»)
  refine wpAny_bind (m := checkCount "sorted" 1 1 _) (wpAny_pure (wpAny_bind (hx fun vs s1 ok => ?_)))
  obtain ⟨bs, e, er, al, so, hl, hu, fin⟩ := step vs s1 ok
  refine wpAny_bind (wpAny_newList ?_ (by rw [e.length]; exact hl))
  have ho : (s1.heap.push (seqObj "list" vs.toArray 0)).get? s1.heap.objs.size = some (seqObj "list" vs.toArray 0) := Heap.get?_push_size _ rfl
  have k0 : ∀ b o, s1.heap.get? b = some o → (s1.heap.push (seqObj "list" vs.toArray 0)).get? b = some o := fun b o q => Heap.get?_push_of_some _ q
  have er2 : PySem.W.EachIs (fun v b => ∃ as, Reads (s1.heap.push (seqObj "list" vs.toArray 0)) v (enc b) as ∧ s1.heap.objs.size ∉ as) vs bs := er.mono fun v b ⟨as, r⟩ => ⟨as, PyProof.Rows.Reads.keeps k0 r, fun z => by
    obtain ⟨o, ho⟩ := PyProof.On.reads_mem_get r _ z
    exact Nat.lt_irrefl _ (Heap.lt_size ho)⟩
  refine wpAny_bind (wpAny_holding ?_)
  refine PySem.W.list_sort_data (s := { s1 with heap := s1.heap.push (seqObj "list" vs.toArray 0) }) ho e er2 al so hl (fun b hb => by have := hu b hb; show A.units + 1 + 1 + _ < _; omega) fun out ho2 he => ?_
  obtain ⟨c, hc⟩ := sortedHeap_at (vs := vs) (out := List.toArray out) ho
  refine wpAny_pure ⟨_, rfl, fin out c _ ho2 he (fun b o q => ?_) hc⟩
  have lt := Heap.lt_size q
  show (sortedHeap (s1.heap.push (seqObj "list" vs.toArray 0)) s1.heap.objs.size vs (List.toArray out)).get? b = some o
  rw [sortedHeap_old (Nat.ne_of_lt lt) (by rw [size_push']; exact Nat.lt_succ_of_lt lt)]
  exact k0 _ _ q
/-- what sorted finds in a tuple -/
theorem collect_tup {a : Addr} {vs : List Value} {Q : List Value → Shared → Prop} (ht : s.heap.IsTuple a vs.toArray) (hz : vs.length ≤ sizeLine)
    (h : ∀ h', (∀ b o, s.heap.get? b = some o → h'.get? b = some o) → s.heap.objs.size ≤ h'.objs.size → Q vs { s with heap := h' }) : wpAny (model prog w) A (collect (.ref a)) Q E s := by
  obtain ⟨o, ho, hc, n, hd⟩ := id ht
  have lt := Heap.lt_size ho
  (unfold collect; refine wpAny_bind (wpAny_runValue (codeAny_builtin entry_proto_collect' ?_)))
  show wpAny _ _ (do again (.builtin "list.__iadd__" ⟨[← newList [], .ref a], []⟩)) _ _ s
  refine wpAny_bind (wpAny_newList (wpAny_pure ⟨Code.quiet_builtin _ (by decide +kernel), codeAny_builtin entry_list_iadd' ?_⟩))
  have new : (s.heap.push (seqObj "list" #[] 0)).get? s.heap.objs.size = some (seqObj "list" #[] 0) := Heap.get?_push_size _ rfl
  rw [Around.under_plainId F.plain_list_iadd _]; show wpAny _ _ (Builtin.List.listExtendWith (.ref s.heap.objs.size) (.ref a) (.ref s.heap.objs.size)) _ _ { s with heap := s.heap.push (seqObj "list" #[] 0) }
  have ho' := Heap.get?_push_of_some (seqObj "list" #[] 0) ho
  (unfold Builtin.List.listExtendWith; refine wpAny_bind (wpAny_typeOf (T := "tuple") ⟨o, ho', hc⟩ ?_))
  rw [if_pos (show (Builtin.List.listSameRef (.ref s.heap.objs.size) (.ref a) || Value.type "tuple" == Value.type "list" || Value.type "tuple" == Value.type "tuple") = true by simp)]
  refine wpAny_bind (listItems_at ho' hd (wpAny_bind (listItems_at (xs := #[]) (n := 0) new rfl ?_)))
  rw [if_neg (by simp)]
  refine wpAny_bind (listUpdate_at (xs := #[]) (n := 0) new rfl ?_ (Nat.zero_le _) (by show (#[] ++ vs.toArray).size ≤ sizeLine + 1; simp only [Array.size_append, List.size_toArray, List.length_nil]; omega))
  refine wpAny_pure ?_
  show wpAny (model prog w) A (do
      let o ← load s.heap.objs.size
      match o.data with
      | .seq xs _ => pure xs.toList
      | _ => unsupported "internal:collect") Q E { s with heap := (s.heap.push (seqObj "list" #[] 0)).update s.heap.objs.size (Obj.mapSeq (· ++ vs.toArray)) }
  refine wpAny_bind (wpAny_load (get?_update_seq new _) ?_)
  show wpAny _ _ (pure ((#[] : Array Value) ++ vs.toArray).toList) Q E _
  rw [show ((#[] : Array Value) ++ vs.toArray).toList = vs by simp]
  refine wpAny_pure (h _ (fun b u e => ?_) ?_)
  · rw [Heap.get?_update_ne _ _ _ _ (Nat.ne_of_lt (Heap.lt_size e))]
    exact Heap.get?_push_of_some _ e
  · rw [Heap.size_update, size_push']
    exact Nat.le_succ _
end
end SortT
namespace Dv
open PySem L2
section
variable {X : Cx} {e a b c : Expr} {es : List Expr} {st : Stmt} {sts : List Stmt} {G : Gs} {mu mu' : Mu} {pos p : Pos} {P : PW1}
/-- t[::-1] of a tuple -/
def tRevT (K : PySem.W.Frag) (te : TE) : TE := fun σ H Q => te σ H fun x H1 => ∃ a xs, x = .ref a ∧ SqT K H1 a xs ∧ ∀ p, H1 p = none → Q (.ref p) (upd H1 p (.tup xs.reverse))
theorem pe_revT {e : Expr} {te : TE} {k : Nat} {p1 p2 p3 pos : Pos} (he : PE X e te) : PE X (.Subscript e (.Slice none none (some (.UnaryOp .USub (.Constant (.int 1) k p1) p2)) p3) pos) (tRevT X.K te) := by
  refine ⟨fun pins s σ H Q I h => PyProof.Rows.Subscript_ (thn (he.run pins s σ H _ I h) fun v s1 ⟨x, H1, I1, r1, a, xs, ex, hx, q⟩ => ?_)⟩
  subst ex
  cases r1
  have part : PO X (some (.UnaryOp .USub (.Constant (.int 1) k p1) p2)) (tPart (tUn (rU fun i => .int (-i)) (tC (.int 1)))) := po_some (pe_un un_neg pe_int)
  refine wpAny_Slice (thn (po_none.run pins s1 σ H1 (fun o H2 => o = none ∧ H2 = H1) I1 ⟨rfl, rfl⟩) fun vl s2 ⟨l, H2, I2, pl, el, e2⟩ => ?_)
  subst el e2
  refine thn (po_none.run pins s2 σ H2 (fun o H3 => o = none ∧ H3 = H2) I2 ⟨rfl, rfl⟩) fun vu s3 ⟨u, H3, I3, pu, eu, e3⟩ => ?_
  subst eu e3
  refine thn (part.run pins s3 σ H3 (fun o H4 => o = some (-1) ∧ H4 = H3) I3 ⟨1, rfl, -1, rfl, rfl, rfl⟩) fun vs s4 ⟨o, H4, I4, ps, eo, e4⟩ => ?_
  subst eo e4
  have I5 : Inv X pins σ H4 { s4 with heap := s4.heap.push { cls := .type "slice", data := .fields #[vl, vu, vs] } } := I4.kept (t' := s4.toks) fun b ob z => Heap.get?_push_of_some _ z
  obtain ⟨its, r, ht, hz⟩ := I5.tuple hx
  have nl : vl = .none := by cases pl; rfl
  have nu : vu = .none := by cases pu; rfl
  subst nl nu
  show wpAny (model X.prog X.w) X.A (PyProof.Rows.subscriptTail e (.Slice none none (some (.UnaryOp .USub (.Constant (.int 1) k p1) p2)) p3) (.ref a) (.ref s4.heap.objs.size)) (EP X pins σ Q) X.xe { s4 with heap := s4.heap.push { cls := .type "slice", data := .fields #[.none, .none, vs] } }
  refine PyProof.Rows.tail_any (ops := [.ref a, .ref s4.heap.objs.size]) ht.typeIs PyProof.Rows.slot_tuple_getitem.lookup ?_ (by with_unfolding_all rfl)
  refine RevT.getItem_rev ht (Heap.IsSliceOf.new _ .none .none vs) ps (by rw [← r.length]; exact hz) ?_
  refine ⟨.ref _, _, I5.laid (t' := s4.toks) (o := .tup xs.reverse) (fun b ob z => Heap.get?_push_of_some _ z) (Nat.le_refl _) ?_, rfl, q _ (I5.hok.fresh (Nat.le_refl _))⟩
  exact ⟨by rw [List.length_reverse]; exact hz, _, r.reverse, PyProof.Rows.IsTup.new _ _⟩
theorem se_rev {k : Nat} {p1 p2 p3 : Pos} (h : SE X a G mu fun w mu1 => match w with | .tup us => P (.tup us.reverse) mu1 | _ => False) : SE X (.Subscript a (.Slice none none (some (.UnaryOp .USub (.Constant (.int 1) k p1) p2)) p3) pos) G mu P :=
  SE.mk (pe_revT peE) fun σ H Q d m kk => h σ H _ d m fun v w mu1 H1 h1 c1 d1 m1 => by
    cases w with
    | tup us =>
      obtain ⟨q, xs, e, sq, dx⟩ := d1
      subst e
      refine ⟨q, xs, rfl, sq, fun r hr => ?_⟩
      obtain ⟨c2, m2⟩ := laid (o := .tup xs.reverse) m1 hr
      exact kk _ _ _ _ h1 (c1.trans c2) ⟨r, _, rfl, .inl (.inl upd_same), (c2.denAll m1 dx).reverse⟩ m2
    | non => exact h1.elim
    | bl b => exact h1.elim
    | int i => exact h1.elim
    | str z => exact h1.elim
    | m q => exact h1.elim
/-- sorted of a tuple of data -/
def rSortT (K : PySem.W.Frag) : List V → Hp → VK → Prop := fun vs H Q => ∃ (a : Addr) (xs : List V) (us : List W), vs = [.ref a] ∧ SqT K H a xs ∧ DenAll K H us xs ∧ plsW us = true ∧ PySem.W.AllAlike (dats us) ∧ PySem.W.Sortable (dats us) ∧ (∀ u ∈ us, (dat u).depth ≤ 64) ∧
  ∀ p ys, H p = none → DenAll K H (us.mergeSort leW) ys → Q (.ref p) (upd H p (.lst ys))
theorem cr_sortedT {j : Nat} (hr : Room j X.A) : CallR X (.builtin "sorted") (rSortT X.K) := by
  intro pins s σ H vs us' Q I r ⟨a, xs, us, ev, hs, dx, pl, al, so, dp, q⟩
  subst ev
  cases r with
  | cons ra rn =>
  cases rn
  cases ra
  obtain ⟨its, rv, pT, hz⟩ := I.tuple hs
  have em : (xs.zip us).map (fun b => dat b.2) = dats us := by
    have := congrArg (List.map dat) (zip_snd dx)
    rw [List.map_map] at this
    rw [show dats us = us.map dat from by simpa using dats_mapD us]
    exact this
  have hlen : (xs.zip us).length = us.length := by rw [List.length_zip, ← dx.length]; omega
  have lz : us.length ≤ sizeLine := by rw [dx.length]; exact hz
  refine SortT.sorted_by (β := V × W) (enc := fun b => dat b.2) (R := fun u b => RelV b.1 u) (OK := fun vs s1 => vs = its ∧ ∃ h', s1 = { s with heap := h' } ∧ (∀ b o, s.heap.get? b = some o → h'.get? b = some o) ∧ s.heap.objs.size ≤ h'.objs.size)
    (fun h => SortT.collect_tup pT (by rw [← rv.length]; exact hz) fun h' k z => h _ _ ⟨rfl, h', rfl, k, z⟩) ?_
  rintro vs s1 ⟨rfl, h', rfl, k0, z0⟩
  have I1 : Inv X pins σ H { s with heap := h' } := I.kept (t' := s.toks) k0
  refine ⟨xs.zip us, each_zip dx rv, each_reads I1 pl dx rv, by rw [em]; exact al, by rw [em]; exact so, by rw [hlen]; exact lz, fun b hb => ?_, fun out c h2 hl he k2 hc => ?_⟩
  · have := dp b.2 (List.of_mem_zip hb).2
    have := hr.un
    omega
  · have hn : H h'.objs.size = none := I1.hok.fresh (Nat.le_refl _)
    have dn : DenAll X.K H (us.mergeSort leW) (((xs.zip us).mergeSort (PySem.W.dataLe false fun b => dat b.2)).map (·.1)) := by
      have h1 := denAll_of (K := X.K) (H := H) (bs := (xs.zip us).mergeSort (PySem.W.dataLe false fun b => dat b.2)) fun b hb => zip_den dx b ((List.mergeSort_perm _ _).mem_iff.mp hb)
      have h2 : ((xs.zip us).mergeSort (PySem.W.dataLe false fun b => dat b.2)).map (·.2) = us.mergeSort leW :=
        (PySem.W.sort_maps (r := PySem.W.dataLe false fun b : V × W => dat b.2) (s := leW) (l := xs.zip us) (fun b : V × W => b.2) fun a _ b _ => rfl).trans (by rw [zip_snd dx])
      rw [h2] at h1
      exact h1
    refine ⟨.ref h'.objs.size, upd H h'.objs.size (.lst _), I1.laid (t' := s.toks) k2 (Nat.le_refl _) ⟨?_, out, c, each_vals he, hc⟩, rfl, q _ _ hn dn⟩
    rw [List.length_map, List.length_mergeSort, hlen]
    exact lz
abbrev sortTW (ws : List W) (mu : Mu) (P : PW1) : Prop := ∃ us, ws = [.tup us] ∧ plsW us = true ∧ PySem.W.AllAlike (dats us) ∧ PySem.W.Sortable (dats us) ∧ (∀ u ∈ us, (dat u).depth ≤ 64) ∧ ∀ p, mu p = none → P (.m p) (setM mu p (.lst (us.mergeSort leW)))
theorem sortT_w : CallW X (rSortT X.K) sortTW := fun ws vs mu H P Q d m ⟨us, e, pl, al, so, dp, q⟩ k => by
  subst e
  obtain ⟨v, ev, a, xs, e2, sq, dx⟩ := d.one
  subst ev e2
  refine ⟨a, xs, us, rfl, sq, dx, pl, al, so, dp, fun p ys hp dy => ?_⟩
  obtain ⟨c2, m2⟩ := laidC (o := .lst ys) (c := .lst (us.mergeSort leW)) m hp (newLst dy)
  exact k _ _ _ _ (q p (m.dom hp)) c2 rfl m2
theorem se_sortT {j : Nat} (hr : Room j X.A) (h : SE X e G mu fun w mu1 => sortTW [w] mu1 P) (hm : X.mg "sorted" = none) (hg : Gl X "sorted" := by rfl) (he : starEach [e] X.env = [(false, eval e X.env)] := by rfl) (hpl : (backTo pos (starEach [] X.env)).any (·.1) = false := by rfl) :
    SE X (.Call (.Name "sorted" p) [e] [] pos) G mu P := se_blt (cr_sortedT hr) sortT_w hm (sa_one h he) (by decide +kernel) hg (by decide) (by decide) he hpl
/-- repr of data, where no repr is under way -/
def rReprD (K : PySem.W.Frag) : List V → Hp → VK → Prop := fun vs H Q => ∃ a d, vs = [.ref a] ∧ Dp K H (.ref a) d ∧ d.showable = true ∧ d.hasDict = false ∧ d.depth ≤ 60 ∧ d.shown.length ≤ sizeLine ∧ Q (.str d.shown) H
theorem cr_repr {j : Nat} (hr : Room j X.A) (hg : X.A.guards = some []) : CallR X (.builtin "repr") (rReprD X.K) := by
  intro pins s σ H vs us Q I r ⟨a, d, e, dp, hs, hd, hk, hz, q⟩
  subst e
  cases r with
  | cons ra rn =>
  cases rn
  cases ra
  obtain ⟨as, rd⟩ := Dp.reads I d (.ref a) _ dp rfl
  exact repr_of_reads' rd hs (fun e => by rw [hd] at e; cases e) hg (by have := hr.un; omega) (fun _ _ e => e) (fun h' u tk k => ⟨.str _, H, I.kept (h' := h') (t' := tk) k, ⟨_, rfl⟩, q⟩) hz
def isRef : W → Prop
  | .tup _ => True
  | .m _ => True
  | _ => False
abbrev reprW (ws : List W) (mu : Mu) (P : PW1) : Prop := ∃ w d, ws = [w] ∧ isRef w ∧ asD mu w = some d ∧ d.showable = true ∧ d.hasDict = false ∧ d.depth ≤ 60 ∧ d.shown.length ≤ sizeLine ∧ P (.str d.shown) mu
theorem repr_w : CallW X (rReprD X.K) reprW := fun ws vs mu H P Q d m ⟨w, dd, e, hi, ha, h1, h2, h3, h4, q⟩ k => by
  subst e
  obtain ⟨v, ev, dv⟩ := d.one
  subst ev
  have dp := asD_ok m dv ha
  have rf : ∃ a, v = .ref a := by
    cases w with
    | tup us => obtain ⟨a, _, e, _⟩ := dv; exact ⟨a, e⟩
    | m a => exact ⟨a, dv⟩
    | non => exact hi.elim
    | bl b => exact hi.elim
    | int i => exact hi.elim
    | str z => exact hi.elim
  obtain ⟨a, ea⟩ := rf
  subst ea
  exact ⟨a, dd, rfl, dp, h1, h2, h3, h4, k.now q rfl m⟩
theorem se_repr {j : Nat} (hr : Room j X.A) (hgd : X.A.guards = some []) (h : SE X e G mu fun w mu1 => reprW [w] mu1 P) (hm : X.mg "repr" = none) (hg : Gl X "repr" := by rfl) (he : starEach [e] X.env = [(false, eval e X.env)] := by rfl) (hpl : (backTo pos (starEach [] X.env)).any (·.1) = false := by rfl) :
    SE X (.Call (.Name "repr" p) [e] [] pos) G mu P := se_blt (cr_repr hr hgd) repr_w hm (sa_one h he) (by decide +kernel) hg (by decide) (by decide) he hpl
/-- isinstance(e, C), C a class of the text -/
abbrev isOwnW (C : Addr) (ws : List W) (mu : Mu) (P : PW1) : Prop := ∃ w, ws = [w, .m C] ∧ OthW C mu w ∧ ∀ b, isOwn w = some b → P (.bl b) mu
theorem isOwn_w {C : Addr} (Z : IsCls X.K C) : CallW X (rIsi X.K) (isOwnW C) := fun ws vs mu H P Q d m ⟨w, e, o, q⟩ k => by
  subst e
  obtain ⟨v, v2, ev, d1, d2⟩ := d.two
  have d2 : v2 = .ref C := d2
  subst ev d2
  obtain ⟨t, b, h1, h2, h3⟩ := isOwn_ok Z m d1 o
  exact ⟨v, .ref C, t, .ref C, b, rfl, .own C, h2, h3, k.now (q b h1) rfl m⟩
theorem se_isOwn {q : Pos} {x : Str} {C : Addr} (Z : IsCls X.K C) (hx : X.mg x = some (.ref C)) (h : SE X e G mu fun w mu1 => OthW C mu1 w ∧ ∀ b, isOwn w = some b → P (.bl b) mu1) (hm : X.mg "isinstance" = none)
    (hg : Gl X "isinstance" := by rfl) (hgx : Gl X x := by rfl) (hdx : (x == ("__debug__" : Str)) = false := by decide) (hs : starEach [e, .Name x q] X.env = (false, eval e X.env) :: starEach [.Name x q] X.env := by rfl)
    (hs2 : starEach [.Name x q] X.env = [(false, eval (.Name x q) X.env)] := by rfl) (hpl : (backTo pos (starEach [.Name x q] X.env)).any (·.1) = false := by rfl) : SE X (.Call (.Name "isinstance" p) [e, .Name x q] [] pos) G mu P :=
  se_blt call_isi (isOwn_w Z) hm (sa_two (h.imp fun w mu1 ⟨o, k⟩ => se_glob (w := .m C) (v := .ref C) hx rfl (fun _ _ => rfl) ⟨w, rfl, o, k⟩ hgx hdx) hs hs2) (by decide +kernel) hg (by decide) (by decide) hs hpl
end
end Dv
set_option Elab.async false
set_option linter.all false
set_option maxRecDepth 100000
/-! Data of names: shown, compared. World.__eq__. -/
namespace K1
open PySem L2 Dv
/-- names, and tuples of such, n deep -/
def Nm3 : Nat → W → Prop
  | _, .str x => NmOk x
  | n + 1, .tup ws => ∀ w ∈ ws, Nm3 n w
  | _, _ => False
mutual
def sz : W → Nat
  | .tup ws => szs ws + 1
  | _ => 1
def szs : List W → Nat
  | [] => 0
  | w :: ws => sz w + szs ws
end
theorem szs_map {α : Type} (f : α → W) (k : Nat) : ∀ {xs : List α}, (∀ x ∈ xs, sz (f x) ≤ k) → szs (xs.map f) ≤ xs.length * k
  | [], _ => by simp [szs]
  | x :: xs, h => by
    have h1 := h x (by simp)
    have h2 := szs_map f k (xs := xs) fun y hy => h y (by simp [hy])
    simp only [List.map_cons, szs, List.length_cons, Nat.succ_mul]
    omega
structure Shows (w : W) (n : Nat) : Prop where
  pl : plW w = true
  lay : (dat w).canLay0 = true
  dep : (dat w).depth ≤ n
  shw : (dat w).showable = true
  noD : (dat w).hasDict = false
  len : (dat w).shown.length + 2 ≤ 92 * sz w
theorem shows_all {n : Nat} : ∀ {ws : List W}, (∀ w ∈ ws, Shows w n) → plsW ws = true ∧ PyData.canLayAll0 (dats ws) = true ∧ PyData.depthAll (dats ws) ≤ n ∧ PyData.showableAll (dats ws) = true ∧ PyData.hasDictAll (dats ws) = false ∧ piled (PyData.shownAll (dats ws)) ≤ 92 * szs ws
  | [], _ => by simp [plsW, dats, PyData.canLayAll0, PyData.depthAll, PyData.showableAll, PyData.hasDictAll, PyData.shownAll, szs, piled]
  | w :: ws, h => by
    have a := h w (by simp)
    obtain ⟨b1, b2, b3, b4, b5, b6⟩ := shows_all (ws := ws) fun v hv => h v (by simp [hv])
    refine ⟨by simp [plsW, a.pl, b1], by simp [dats, PyData.canLayAll0, a.lay, b2], ?_, by simp [dats, PyData.showableAll, a.shw, b4], by simp [dats, PyData.hasDictAll, a.noD, b5], ?_⟩
    · simp only [dats, PyData.depthAll]
      have := a.dep
      omega
    · simp only [dats, PyData.shownAll, piled_cons, szs]
      have := a.len
      omega
theorem tupleText_le (ts : List Str) : (tupleText ts).length ≤ piled ts + 3 := by
  unfold tupleText
  rw [strLen_append, strLen_append]
  have e1 : (("(" : String) : Str).length = 1 := rfl
  have e3 : (((if ts.length == 1 then ",)" else ")" : String) : Str)).length ≤ 2 := by split <;> decide
  by_cases h : ts = []
  · subst h
    have : (Str.join ", " ([] : List Str)).length = 0 := rfl
    omega
  · have := join_length_add ts h
    omega
theorem shows_of : ∀ (n : Nat) (w : W), Nm3 n w → Shows w n
  | n, .str x, h => by
    have h : NmOk x := by cases n <;> exact h
    have h1 := StrLaws.reprText_len x fun c hc => Nat.lt_of_le_of_lt (h.2.2 c hc).2 (by decide)
    have h2 := h.2.1
    refine ⟨by simp [plW], by simpa [dat] using nm_ok h, by simp [dat, PyData.depth], by simp [dat, PyData.showable], by simp [dat, PyData.hasDict], ?_⟩
    show (reprText x).length + 2 ≤ 92 * 1
    omega
  | 0, .tup ws, h => h.elim
  | n + 1, .tup ws, h => by
    obtain ⟨b1, b2, b3, b4, b5, b6⟩ := shows_all (n := n) (ws := ws) fun w hw => shows_of n w (h w hw)
    refine ⟨by simpa [plW] using b1, by simpa [dat, PyData.canLay0] using b2, ?_, by simpa [dat, PyData.showable] using b4, by simpa [dat, PyData.hasDict] using b5, ?_⟩
    · simp only [dat, PyData.depth]
      omega
    · show (tupleText (PyData.shownAll (dats ws))).length + 2 ≤ 92 * (szs ws + 1)
      have := tupleText_le (PyData.shownAll (dats ws))
      omega
  | 0, .non, h => h.elim
  | 0, .bl _, h => h.elim
  | 0, .int _, h => h.elim
  | 0, .m _, h => h.elim
  | _ + 1, .non, h => h.elim
  | _ + 1, .bl _, h => h.elim
  | _ + 1, .int _, h => h.elim
  | _ + 1, .m _, h => h.elim
theorem Nm3.up : ∀ {n : Nat} {w : W}, Nm3 n w → Nm3 (n + 1) w
  | 0, .str x, h => h
  | n + 1, .str x, h => h
  | n + 1, .tup ws, h => fun w hw => Nm3.up (h w hw)
  | 0, .tup _, h => h.elim
  | 0, .non, h => h.elim
  | 0, .bl _, h => h.elim
  | 0, .int _, h => h.elim
  | 0, .m _, h => h.elim
  | _ + 1, .non, h => h.elim
  | _ + 1, .bl _, h => h.elim
  | _ + 1, .int _, h => h.elim
  | _ + 1, .m _, h => h.elim
theorem Shows.shaped {w : W} {n : Nat} (h : Shows w n) (hn : n ≤ 60) : SeqAt.shaped (dat w) = true := by
  unfold SeqAt.shaped
  rw [h.lay, decide_eq_true (Nat.le_trans h.dep (Nat.le_trans hn (by decide)))]
  rfl
theorem asD_pl {mu : Mu} {w : W} (h : plW w = true) : asD mu w = some (dat w) := by
  cases w with
  | m a => simp [plW] at h
  | tup ws => exact if_pos (e := none) h
  | non => exact if_pos (e := none) h
  | bl b => exact if_pos (e := none) h
  | int i => exact if_pos (e := none) h
  | str x => exact if_pos (e := none) h
theorem Shows.repr {w : W} {n : Nat} {mu : Mu} {P : PW1} (h : Shows w n) (hr : isRef w) (hn : n ≤ 60) (hz : sz w ≤ 100000) (k : P (.str (dat w).shown) mu) : reprW [w] mu P := by
  refine ⟨w, dat w, rfl, hr, asD_pl h.pl, h.shw, h.noD, Nat.le_trans h.dep hn, ?_, k⟩
  have := h.len
  show _ ≤ 2 ^ 24
  omega
/-! the five parts of a world -/
theorem nm3_nm {ns : List Str} (h : ∀ n ∈ ns, NmOk n) : Nm3 1 (nmW ns) := fun w hw => by
  obtain ⟨n, hn, rfl⟩ := List.mem_map.mp hw
  exact h n hn
theorem nm3_sl {s : Slot} (h : NmOk s.1 ∧ NmOk s.2.1 ∧ s.2.2.length ≤ 4 ∧ ∀ w ∈ s.2.2, NmOk w) : Nm3 2 (slW1 s) := fun w hw => by
  simp only [List.mem_cons, List.not_mem_nil, or_false] at hw
  rcases hw with rfl | rfl | rfl
  · exact h.1
  · exact h.2.1
  · exact nm3_nm h.2.2.2
theorem nm3_sls {ss : List Slot} (h : SsNm ss) : Nm3 3 (slsW ss) := fun w hw => by
  obtain ⟨s, hs, rfl⟩ := List.mem_map.mp hw
  exact nm3_sl (h.nm s hs)
theorem nm3_pt {p : Pat} (h : ∀ q ∈ p, NmOk q.1 ∧ NmOk q.2) : Nm3 2 (ptW p) := fun w hw => by
  obtain ⟨q, hq, rfl⟩ := List.mem_map.mp hw
  intro v hv
  simp only [List.mem_cons, List.not_mem_nil, or_false] at hv
  rcases hv with rfl | rfl
  · exact (h q hq).1
  · exact (h q hq).2
theorem nm3_pts {ps : List Pat} (h : ∀ p ∈ ps, ∀ q ∈ p, NmOk q.1 ∧ NmOk q.2) : Nm3 3 (ptsW ps) := fun w hw => by
  obtain ⟨p, hp, rfl⟩ := List.mem_map.mp hw
  exact nm3_pt (h p hp)
theorem nm3_lps {ss : List Slot} {ls : List Lap} (nm : SsNm ss) (h : ∀ l ∈ ls, LpOk ss l) : Nm3 4 (lpsW ls) := fun w hw => by
  obtain ⟨l, hl, rfl⟩ := List.mem_map.mp hw
  have ok := h l hl
  intro v hv
  simp only [List.mem_cons, List.not_mem_nil, or_false] at hv
  rcases hv with rfl | rfl | rfl
  · exact ok.ho
  · exact (nm3_pt (pt_names (nm.filter _) ok.needs.pr))
  · exact (nm3_pt (pt_names (nm.filter _) ok.makes.pr))
structure Five (v : Wd) : Prop where
  houses : Nm3 4 (nmW v.houses)
  slots : Nm3 4 (slsW v.slots)
  bears : Nm3 4 (ptsW v.bears)
  never : Nm3 4 (ptsW v.never)
  lapses : Nm3 4 (lpsW v.lapses)
theorem WdOk.five {v : Wd} (h : WdOk v) : Five v :=
  have nm := h.ss.nm h.hs
  { houses := (nm3_nm h.hs.nm).up.up.up
    slots := (nm3_sls nm).up
    bears := (nm3_pts fun p hp => pt_names nm (h.bears.each p hp).1.pr).up
    never := (nm3_pts fun p hp => pt_names nm (h.never.each p hp).1.pr).up
    lapses := nm3_lps nm h.each }
theorem Five.all {v : Wd} (h : Five v) : Nm3 5 (.tup (fiveW v)) := fun w hw => by
  simp only [fiveW, List.mem_cons, List.not_mem_nil, or_false] at hw
  rcases hw with rfl | rfl | rfl | rfl | rfl
  · exact h.houses
  · exact h.slots
  · exact h.bears
  · exact h.never
  · exact h.lapses
def eqD (w u : W) : Bool := PyData.eqv (dat w) (dat u)
theorem eqD_w {w u : W} {n : Nat} {mu : Mu} {P : PW1} (h1 : Nm3 n w) (h2 : Nm3 n u) (hn : n ≤ 60) (k : P (.bl (eqD w u)) mu) : eqW w u mu P := by
  have a := shows_of n w h1
  have b := shows_of n u h2
  exact ⟨dat w, dat u, asD_pl a.pl, asD_pl b.pl, a.shaped hn, b.shaped hn, k⟩
def eqWd (v u : Wd) : Bool := eqD (nmW v.houses) (nmW u.houses) && (eqD (slsW v.slots) (slsW u.slots) && (eqD (ptsW v.bears) (ptsW u.bears) && (eqD (ptsW v.never) (ptsW u.never) && eqD (lpsW v.lapses) (lpsW u.lapses))))
theorem eqWd_five (v u : Wd) : eqD (.tup (fiveW v)) (.tup (fiveW u)) = eqWd v u := by
  unfold eqD fiveW eqWd eqD
  simp only [dat, dats, PyData.eqv, PyData.eqvAll, Bool.and_true]
mutual
theorem eqv_refl : ∀ d : PyData, d.canLay0 = true → PyData.eqv d d = true
  | .none, _ => by simp [PyData.eqv]
  | .bool b, _ => by simp [PyData.eqv]
  | .int i, _ => by simp [PyData.eqv]
  | .str x, _ => by simp [PyData.eqv]
  | .list xs, h => by
    simp only [PyData.eqv]
    exact eqvAll_refl xs (by simpa [PyData.canLay0] using h)
  | .tuple xs, h => by
    simp only [PyData.eqv]
    exact eqvAll_refl xs (by simpa [PyData.canLay0] using h)
  | .dict _, h => by simp [PyData.canLay0] at h
theorem eqvAll_refl : ∀ ds : List PyData, PyData.canLayAll0 ds = true → PyData.eqvAll ds ds = true
  | [], _ => by simp [PyData.eqvAll]
  | d :: ds, h => by
    simp only [PyData.canLayAll0, Bool.and_eq_true] at h
    simp only [PyData.eqvAll, eqv_refl d h.1, eqvAll_refl ds h.2, Bool.and_self]
end
theorem eqWd_refl {v : Wd} (h : Five v) : eqWd v v = true := by
  rw [← eqWd_five]
  exact eqv_refl _ (shows_of 5 _ h.all).lay
section
variable {P : Program} {w : World} {K : PySem.W.Frag} {mg : Str → Option Value} {base : Heap} {Cl : Addr}
abbrev s_World_eq : Stmt := inClass (top 29) 1
theorem sc_World_eq : FnScope ["self", "other"] ["self", "other"] (defScope s_World_eq) := ⟨rfl, rfl, rfl, by decide +kernel, rfl, by decide +kernel, by decide +kernel⟩
def S_eq (Cl : Addr) : SpW := fun ws mu P => ∃ y v w2, ws = [.m y, w2] ∧ mu y = some (.ins Cl (wdFs v)) ∧ Five v ∧ ((∃ z u, w2 = .m z ∧ mu z = some (.ins Cl (wdFs u)) ∧ Five u ∧ P (.bl (eqWd v u)) mu) ∨ (BltW w2 ∧ P (.bl false) mu))
theorem d_World_eq (D : MDfn K Cl "__eq__" "World.__eq__" s_World_eq ["self", "other"]) (C : WCls K mg Cl) (Z : IsCls K Cl) (B : Bl mg) : MetOk P w K mg base Cl "__eq__" ["self", "other"] 1 (S_eq Cl) := by
  refine metOk D sc_World_eq (fun ws mu P ⟨y, v, w2, e, _⟩ => by rw [e]; rfl) (fun f cdv A outer s H E hr ws mu Pt ⟨y, v, w2, e, hy, fv, h⟩ => ?_)
  subst e
  refine sss_cons ?_
  refine ss_ret ?_
  refine se_and ?_
  refine se_isOwn Z C.glob ?_ B.isinstance
  refine se_var (i := 1) rfl ?_  -- other
  rcases h with ⟨z, u, rfl, hz, fu, h⟩ | ⟨hb, h⟩
  · refine ⟨⟨_, hz⟩, fun b hb => ?_⟩
    have hb : true = b := Option.some.inj hb
    subst hb
    have step : ∀ {bb : Bool} {A1 B1 : Prop}, (bb = true → A1) → (bb = false → B1) → bW (.bl bb) A1 B1 := fun h1 h2 => bW_split h1 h2
    have fin : ∀ {r : Bool}, r = eqWd v u → Pt (.bl r) mu := fun e => e ▸ h
    show SE _ _ _ _ _
    refine se_and ?_
    refine se_cmp (op_eqD hr.units) eq_w (nomark _) ?_  -- self.houses == other.houses
    refine se_fld (se_var (i := 0) rfl ⟨y, Cl, wdFs v, nmW v.houses, rfl, hy, C.cls, C.houses, rfl, ?_⟩)
    refine se_fld (se_var (i := 1) rfl ⟨z, Cl, wdFs u, nmW u.houses, rfl, hz, C.cls, C.houses, rfl, ?_⟩)
    refine eqD_w fv.houses fu.houses (by decide) (step (fun e1 => ?_) fun e1 => fin (by unfold eqWd; rw [e1]; rfl))
    refine se_and ?_
    refine se_cmp (op_eqD hr.units) eq_w (nomark _) ?_  -- self.slots == other.slots
    refine se_fld (se_var (i := 0) rfl ⟨y, Cl, wdFs v, slsW v.slots, rfl, hy, C.cls, C.slots, rfl, ?_⟩)
    refine se_fld (se_var (i := 1) rfl ⟨z, Cl, wdFs u, slsW u.slots, rfl, hz, C.cls, C.slots, rfl, ?_⟩)
    refine eqD_w fv.slots fu.slots (by decide) (step (fun e2 => ?_) fun e2 => fin (by unfold eqWd; rw [e1, e2]; rfl))
    refine se_and ?_
    refine se_cmp (op_eqD hr.units) eq_w (nomark _) ?_  -- self.bears == other.bears
    refine se_fld (se_var (i := 0) rfl ⟨y, Cl, wdFs v, ptsW v.bears, rfl, hy, C.cls, C.bears, rfl, ?_⟩)
    refine se_fld (se_var (i := 1) rfl ⟨z, Cl, wdFs u, ptsW u.bears, rfl, hz, C.cls, C.bears, rfl, ?_⟩)
    refine eqD_w fv.bears fu.bears (by decide) (step (fun e3 => ?_) fun e3 => fin (by unfold eqWd; rw [e1, e2, e3]; rfl))
    refine se_and ?_
    refine se_cmp (op_eqD hr.units) eq_w (nomark _) ?_  -- self.never == other.never
    refine se_fld (se_var (i := 0) rfl ⟨y, Cl, wdFs v, ptsW v.never, rfl, hy, C.cls, C.never, rfl, ?_⟩)
    refine se_fld (se_var (i := 1) rfl ⟨z, Cl, wdFs u, ptsW u.never, rfl, hz, C.cls, C.never, rfl, ?_⟩)
    refine eqD_w fv.never fu.never (by decide) (step (fun e4 => ?_) fun e4 => fin (by unfold eqWd; rw [e1, e2, e3, e4]; rfl))
    refine se_one ?_
    refine se_cmp (op_eqD hr.units) eq_w (nomark _) ?_  -- self.lapses == other.lapses
    refine se_fld (se_var (i := 0) rfl ⟨y, Cl, wdFs v, lpsW v.lapses, rfl, hy, C.cls, C.lapses, rfl, ?_⟩)
    refine se_fld (se_var (i := 1) rfl ⟨z, Cl, wdFs u, lpsW u.lapses, rfl, hz, C.cls, C.lapses, rfl, ?_⟩)
    exact eqD_w fv.lapses fu.lapses (by decide) (fin (by unfold eqWd; rw [e1, e2, e3, e4]; rfl))
  · have ow : OthW Cl mu w2 ∧ isOwn w2 = some false := by
      cases w2 with
      | bl b => exact hb.elim
      | m a => exact hb.elim
      | _ => exact ⟨trivial, rfl⟩
    refine ⟨ow.1, fun b hb2 => ?_⟩
    rw [ow.2] at hb2
    have hb2 := Option.some.inj hb2
    subst hb2
    exact h
end
end K1
set_option Elab.async false
set_option linter.all false
set_option maxRecDepth 100000
/-! Defs that ask for repr: their promise where no repr is under way. -/
namespace Dv
open PySem PySem.Spec PyProof.Rows L2
structure FnG (P : Program) (w : World) (K : PySem.W.Frag) (mg : Str → Option Value) (base : Heap) (k : Nat) (f : Addr) (fd : FuncData) (ps : List Str) (sp : Sp) : Prop where
  len : ∀ vs H Q E, sp vs H Q E → vs.length = ps.length
  run : ∀ (A : Around) (outer : List Env) (s : Shared) (H : Hp) (args : Args) (us : List Value) (vs : List V) (Q : VK) (E : XK), Room k A → A.guards = some [] → Env0 P w K mg base A outer s H → BindsTo s fd args (ps.zip us) → Vals vs us → sp vs H Q E → codeAny (model P w) A (.call (.ref f) args) (CR CX0 outer P w H s Q E) s
section
variable {P : Program} {w : World} {K : PySem.W.Frag} {mg : Str → Option Value} {base : Heap}
theorem okG {x qual : Str} {st : Stmt} {f : Addr} {fd : FuncData} {N ps : List Str} {k : Nat} {S : SpW} (F : Fun K x qual st f fd) (Sc : FnScope N ps (defScope st)) (len : ∀ ws mu P, S ws mu P → ws.length = ps.length)
    (body : ∀ (cdv : Value) (A : Around) (outer : List Env) (s : Shared) (H : Hp) (E : XK), Room k (A.deeper (envOfC qual (defScope st) s.heap.objs.size f cdv)) → A.guards = some [] → ∀ ws mu Pt, S ws mu Pt →
      SSs (cxOf CX0 P w K mg base N qual (defScope st) f cdv A outer s H E).nox (defBody st) (startW N ws) mu { nx := fun _ mu' => Pt .non mu', rt := Pt }) : FnG P w K mg base (k + 1) f fd ps (spW K S) := by
  obtain ⟨oc, od, kV, doc, pm, an, cdv, ct, osl, efd, lk, hcd⟩ := F.ex
  subst efd
  have lenV : ∀ vs H Q E, spW K S vs H Q E → vs.length = ps.length := fun vs H Q E ⟨ws, mu, Pt, h, d, _, _⟩ => d.length ▸ len ws mu Pt h
  refine ⟨lenV, fun A outer s H args us vs Q E hr hgd e0 hb r hsp => ?_⟩
  have kin : K.In s.heap := e0.mod.kin.keeps fun b o e => (e0.bs b o e).1
  have nol : s.heap.NoLimit := e0.mod.nolimit.keeps fun b o e => (e0.bs b o e).1
  have kinds : ∀ y ∈ ps.zip us, (defScope st).names.lookup y.1 = some .local ∨ ((defScope st).names.lookup y.1 = some .cell ∧ ((cellsFrom (s.heap.objs.size + 1) (defScope st).names []).lookup y.1).isSome = true) := by
    intro y hy
    obtain ⟨n, v⟩ := y
    exact (Sc.par n (List.of_mem_zip hy).1).imp id fun q => ⟨q, PySem.W.cellsFrom_some _ _ _ (.inl q)⟩
  refine codeAny_call_function hr.depth (kin _ _ lk) rfl Sc.co Sc.gen rfl (PySem.W.codeRec_of kin hcd) (hb _ _ _ _ (wpAny_newFunctionEnv_cells Sc.kind kinds fun env he s1 xx => ?_))
  subst he
  refine ⟨nol.keeps xx.toInCall.keep, codeAny_func ?_⟩
  have I := inv_start (CX := CX0) (E := E) Sc hr.hd e0 (lenV _ _ _ _ hsp) r xx
  obtain ⟨ws, mu, Pt, h, d, m, kk⟩ := hsp
  have said := body cdv A outer s H E (hr.deeper _) hgd ws mu Pt h _ _ { nx := fun _ H' => Q .non H', rt := Q } (start_den d) m ⟨fun σ G mu' H' h' c d' m' => kk .non .non mu' H' h' c rfl m', kk, fun _ _ _ _ h => h.elim, fun _ _ _ _ h => h.elim⟩
  have go := (pssS (X := (cxOf CX0 P w K mg base N qual (defScope st) f cdv A outer s H E).nox) (sts := defBody st)).nox.run [] s1 (start N vs) H _ I said
  refine wpAny_mono go (fun fl s' hs => ?_) fun e s' hs => hs
  have fin : ∀ {σ' : L2.St} {H' : Hp} {v : V} {u : Value}, Inv (cxOf CX0 P w K mg base N qual (defScope st) f cdv A outer s H E) [] σ' H' s' → RelV v u → Q v H' → CE outer P w H s Q u s' := fun {_ _ v _} J rv q => ⟨v, _, J.os, J.bare, J.base, J.hok, rv, q⟩
  cases fl with
  | ret u => obtain ⟨v, σ', H', J, rv, q⟩ := hs; exact fin J rv q
  | next => obtain ⟨σ', H', J, q⟩ := hs; exact fin (v := V.non) (u := Value.none) J rfl q
  | brk => obtain ⟨_, _, _, q⟩ := hs; exact q.elim
  | cont => obtain ⟨_, _, _, q⟩ := hs; exact q.elim
structure DefG (P : Program) (w : World) (K : PySem.W.Frag) (mg : Str → Option Value) (base : Heap) (x : Str) (ps : List Str) (k : Nat) (S : SpW) : Prop where
  ex : ∃ f fd, FnG P w K mg base k f fd ps (spW K S) ∧ mg x = some (.ref f) ∧ PySem.W.keepIn K (.ref f) = true ∧ Binds K fd ps []
theorem dfnG {x : Str} {st : Stmt} {N ps : List Str} {k : Nat} {S : SpW} (D : Dfn K mg x st ps) (Sc : FnScope N ps (defScope st)) (len : ∀ ws mu P, S ws mu P → ws.length = ps.length)
    (body : ∀ (f : Addr) (cdv : Value) (A : Around) (outer : List Env) (s : Shared) (H : Hp) (E : XK), Room k (A.deeper (envOfC x (defScope st) s.heap.objs.size f cdv)) → A.guards = some [] → ∀ ws mu Pt, S ws mu Pt →
      SSs (cxOf CX0 P w K mg base N x (defScope st) f cdv A outer s H E).nox (defBody st) (startW N ws) mu { nx := fun _ mu' => Pt .non mu', rt := Pt }) : DefG P w K mg base x ps (k + 1) S := by
  obtain ⟨f, fd, F, hm, hb⟩ := D.ex
  exact ⟨f, fd, okG F Sc len (body f), hm, F.kp, hb⟩
end
section
variable {X : Cx} {e : Expr} {es : List Expr} {G : Gs} {mu : Mu} {pos p : Pos} {P : PW1}
theorem se_callG {x : Str} {ps : List Str} {k : Nat} {S : SpW} (D : DefG X.prog X.w X.K X.mg X.base x ps k S) (hr : Room k X.A) (hgd : X.A.guards = some []) (h : SA X (e :: es) G mu fun ws mu1 => S ws mu1 P)
    (hg : Gl X x := by rfl) (hdb : (x == ("__debug__" : Str)) = false := by decide) (he : starEach (e :: es) X.env = (false, eval e X.env) :: starEach es X.env := by rfl) (hpl : (backTo pos (starEach es X.env)).any (·.1) = false := by rfl) : SE X (.Call (.Name x p) (e :: es) [] pos) G mu P := by
  obtain ⟨f, fd, F, hm, hk, hb⟩ := D.ex
  intro σ H Q d m kk pins s I
  refine wpAny_Call_Name_kw (ld_glob I hg hm ?_ hdb)
  refine PySem.W.callWith_K (h₀ := X.base) I.ok.mod.kin hk (thn (h σ H (fun vs H1 => spW X.K S vs H1 Q fun _ _ _ => False) d m (fun vs ws mu1 H1 h1 c1 d1 m1 => ⟨ws, mu1, P, h1, d1, m1, kk.step c1⟩) pos pins s I) fun us s1 ⟨vs, H1, I1, r, q⟩ => ⟨I1.kIn, ?_⟩) he hpl
  have hl : (us ++ []).length = ps.length := by rw [List.append_nil, ← r.length]; exact F.len _ _ _ _ q
  have bd := hb s1 us I1.kIn hl
  rw [List.append_nil] at bd
  refine wpAny_call (codeAny_mono (F.run X.A X.stack s1 H1 ⟨us, []⟩ us vs Q _ hr hgd I1.env0 bd r q) fun z s' hq => ?_)
  cases z with
  | error e => exact False.elim hq
  | ok fl => cases fl with
    | ret u => exact I1.after hq
    | next => exact False.elim hq
    | brk => exact False.elim hq
    | cont => exact False.elim hq
end
end Dv
namespace Dv
open PySem PySem.Spec PyProof.Rows L2
/-- != of texts -/
theorem neS_w {X : Cx} : OpW X rNe fun w1 w2 mu P => ∃ i j, w1 = .str i ∧ w2 = .str j ∧ ∀ b, b = (!decide (i = j)) → P (.bl b) mu := fun w1 w2 x y mu H P Q dx dy m ⟨i, j, e1, e2, q⟩ k => by
  subst e1 e2
  have dx : x = .str i := dx
  have dy : y = .str j := dy
  subst dx dy
  refine ⟨rfl, ?_⟩
  have : (!decide (V.str i = V.str j)) = !decide (i = j) := by
    congr 1
    rw [Bool.eq_iff_iff, decide_eq_true_iff, decide_eq_true_iff]
    exact ⟨fun e => by injection e, fun e => by rw [e]⟩
  rw [this]
  exact k.now (q _ rfl) rfl m
theorem ne_self (x : Str) : (!decide (x = x)) = false := by simp
/-- the script: a list of whole numbers among what stood before -/
structure Scr (base : Heap) (a : Addr) (ns : List Int) : Prop where
  ex : ∃ vs : List Value, base.get? a = some { cls := .type "list", data := .seq vs.toArray } ∧ IntsAre vs ns
  few : ns.length ≤ 63
section
variable {X : Cx} {e a b : Expr} {es : List Expr} {G : Gs} {mu : Mu} {pos p : Pos} {P : PW1}
theorem cr_lenB {ad : Addr} {ns : List Int} (S : Scr X.base ad ns) : CallR X (.builtin "len") (fun xs H Q => xs = [.ref ad] ∧ Q (.int (ns.length : Nat)) H) := by
  intro pins s σ H xs us Q I r ⟨e, q⟩
  subst e
  obtain ⟨u, eu, ru⟩ := vals1 r
  subst eu
  cases ru
  obtain ⟨vs, hv, hi⟩ := S.ex
  have e2 := hi.length
  have e3 := S.few
  have il : s.heap.IsList ad vs.toArray := ⟨_, I.bk _ _ hv, rfl, _, rfl⟩
  exact Calls.call_len_list il (by simp only [List.size_toArray]; omega) ⟨.int (ns.length : Nat), H, I.tok _, ⟨_, by simp only [List.size_toArray]; rw [e2]⟩, q⟩
theorem se_lenB {ad : Addr} {ns : List Int} (S : Scr X.base ad ns) (h : SE X e G mu fun w mu1 => w = .m ad ∧ P (.int (ns.length : Nat)) mu1) (hm : X.mg "len" = none) (hg : Gl X "len" := by rfl) (hs : starEach [e] X.env = [(false, eval e X.env)] := by rfl) (hpl : (backTo pos (starEach [] X.env)).any (·.1) = false := by rfl) : SE X (.Call (.Name "len" p) [e] [] pos) G mu P :=
  se_blt (f := fun ws mu P => ws = [.m ad] ∧ P (.int (ns.length : Nat)) mu) (cr_lenB S) (fun ws vs mu H P Q d m ⟨e, q⟩ k => by
    subst e
    obtain ⟨v, ev, dv⟩ := d.one
    have dv : v = .ref ad := dv
    subst ev dv
    exact ⟨rfl, k.now q rfl m⟩) hm (sa_one (h.imp fun w mu1 ⟨e, q⟩ => by subst e; exact ⟨rfl, q⟩) hs) (by decide +kernel) hg (by decide) (by decide) hs hpl
theorem se_ixB {ad : Addr} {ns : List Int} (S : Scr X.base ad ns) (h : SE X a G mu fun w1 mu1 => w1 = .m ad ∧ SE X b G mu1 fun w2 mu2 => ∃ (k : Nat) (i : Int), w2 = .int (k : Nat) ∧ ns[k]? = some i ∧ P (.int i) mu2) (hs : PlainIx b := by exact fun _ _ => rfl) : SE X (.Subscript a b pos) G mu P :=
  SE.mk (pe_ix (r := fun x y H Q => ∃ (k : Nat) (i : Int), x = .ref ad ∧ y = .int (k : Nat) ∧ ns[k]? = some i ∧ Q (.int i) H) (fun value slice pins s σ H x y v u Q I rx ry ⟨k, i, e1, e2, e3, q⟩ hs => by
    subst e1 e2
    cases rx
    obtain ⟨t, et⟩ := ry
    subst et
    obtain ⟨vs, hv, hi⟩ := S.ex
    have lt : k < ns.length := (List.getElem?_eq_some_iff.mp e3).1
    have l2 := hi.length
    have l3 := S.few
    obtain ⟨z, ez, rz⟩ := (vals_ints hi).get (i := k) (x := .int i) (by rw [List.getElem?_map, e3]; rfl)
    have il : s.heap.IsList ad vs.toArray := ⟨_, I.bk _ _ hv, rfl, _, rfl⟩
    exact item_listR il (Int.natCast_nonneg k) (by have : vs.toArray.size = vs.length := List.size_toArray; omega) (by rw [Int.toNat_natCast]; simpa using ez) ⟨.int i, H, I, rz, q⟩ hs) peE peE hs) fun σ H Q d m k => h σ H _ d m fun x w1 mu1 H1 ⟨e1, h1⟩ c1 d1 m1 => h1 σ H1 _ (c1.denG m d) m1 fun y w2 mu2 H2 ⟨kk, i, e2, e3, q⟩ c2 d2 m2 => by
      subst e1 e2
      have d1 : x = .ref ad := d1
      have d2 : y = .int (kk : Nat) := d2
      subst d1 d2
      exact ⟨kk, i, rfl, rfl, e3, (k.step (c1.trans c2)).now q rfl m2⟩
end
section
variable {P : Program} {w : World} {K : PySem.W.Frag} {mg mb : Str → Option Value} {k : Nat} {fa a : Addr} {fd : FuncData} {x : Str} {sp : Sp} {s1 : Shared} {vs : List Value} {ns : List Int}
theorem lawG (KX : K.In s1.heap) (hns : s1.heap.Ns mainGlobals mg) (hb : s1.heap.Ns builtinsNs mb) (hbb : ∀ x : Str, x ≠ "__name__" → mb x = bootBuiltins x) (hlim : s1.heap.NoLimit) (hg : s1.gens = #[])
    (ha : s1.heap.get? a = some { cls := .type "list", data := .seq vs.toArray }) (hi : IntsAre vs ns) (hl : ns.length ≤ 63) (hr : Room k callerA)
    (F : ∀ base : Heap, K.In base → base.Ns mainGlobals mg → Scr base a ns → FnG P w K mg base k fa fd [x] sp) (bd : ∀ (s : Shared) (u : Value), BindsTo s fd ⟨[u], []⟩ [(x, u)])
    (hsp : sp [.ref a] (fun _ => none) (fun v _ => v = .bl true) fun _ _ _ => False) :
    codeAny (model P w) callerA (.call (.ref fa) ⟨[.ref a], []⟩) (fun r s' => r = .ok (.ret (.bool true)) ∧ OldK s1.heap s'.heap ∧ s'.os = s1.os ∧ AllBare s'.gens) s1 := by
  have ok : HOk P w (fun _ => none) s1.heap := fun b u z => nomatch z
  have md : Mod K mg s1.heap := ⟨KX, hns, ⟨mb, hb, hbb⟩, hlim⟩
  have e0 : Env0 P w K mg s1.heap callerA [] s1 (fun _ => none) := { frames := rfl, mod := md, bs := fun b o e => ⟨e, rfl⟩, bsz := Nat.le_refl _, funs := trivial, frf := fun _ _ => rfl, hok := ok, bare := .of_eq hg }
  refine codeAny_mono ((F _ KX hns ⟨⟨vs, ha, hi⟩, hl⟩).run callerA [] s1 _ ⟨[.ref a], []⟩ [.ref a] [.ref a] _ _ hr rfl e0 (bd s1 (.ref a)) (.cons rfl .nil) hsp) fun r s' h => ?_
  cases r with
  | error e => exact False.elim h
  | ok fl => cases fl with
    | next => exact h.elim
    | brk => exact h.elim
    | cont => exact h.elim
    | ret u =>
      obtain ⟨v, H', os, bare, un, ok2, rr, q⟩ := h
      have q : v = .bl true := q
      subst q
      have rr : u = Value.bool true := rr
      subst rr
      exact ⟨rfl, OldK.of_keep fun b o e => un.keep b o e rfl (by intro q; exact absurd (show b ∈ ([] : List Addr) from q) (by simp)) (by simp), os, bare⟩
end
theorem walkG {l : PySem.W.OpenLaw} {k : Nat} {q : Program} {loose : List Str} {XP : (Str → Option Value) → Heap → Prop} {YP : World → Heap → Prop} {d : DefRec} {K : Params → PySem.W.Frag} {S : Addr → SpW} {x : Str}
    (hn : l.most = some 63) (hdf : d.params.defaults = []) (hr : Room k callerA) (hY : ∀ (w : World) (h : Heap), YP w h → (K w.params).In h)
    (F : ∀ (w : World) (mg : Str → Option Value) (fa : Addr) (h : Heap), (K w.params).In h → h.Ns mainGlobals mg → mg d.name = some (.ref fa) → ∃ fd : FuncData, (∀ (s : Shared) (u : Value), BindsTo s fd ⟨[u], []⟩ [(x, u)]) ∧
      ∀ (base : Heap) (a : Addr) (ns : List Int), (K w.params).In base → base.Ns mainGlobals mg → Scr base a ns → FnG l.prog w (K w.params) mg base k fa fd [x] (spW (K w.params) (S a)))
    (hS : ∀ (a : Addr) (P : PW1), (∀ mu', P (.bl true) mu') → S a [.m a] (fun _ => none) P) :
    PySem.W.WalkO q loose XP YP l.row.toRowW d [] (fun f vs => PySem.call f vs) := by
  refine Att.attach_call hn hdf fun w s0 s1 mg mb fa o pm cd doc a vs ns G Y ho hd hcd hmg hobj hints hlen hg => ?_
  have kx := hY w _ Y
  obtain ⟨fd, bd, hF⟩ := F w mg fa _ kx G.T.g hmg
  refine lawG kx G.T.g G.T.b G.T.builtins G.T.nolimit hg hobj hints hlen hr (fun base h1 h2 sc => hF base a ns h1 h2 sc) bd ?_
  refine ⟨[.m a], fun _ => none, fun w _ => w = .bl true, hS a _ fun _ => rfl, ⟨.ref a, [], rfl, rfl, rfl⟩, fun a c z => (nomatch z), fun v w mu' H' e c d m => ?_⟩
  subst e
  exact d
end Dv
set_option Elab.async false
set_option linter.all false
set_option maxRecDepth 100000
/-! Texts cut at a separator: for promises of texts that are read back. -/
namespace Dv
open PySem L2
section
variable {X : Cx} {e o : Expr} {G : Gs} {mu : Mu} {pos apos : Pos} {P : PW1}
/-- t.split(sep): a new list of texts -/
theorem se_split (h : SE X o G mu fun w mu1 => ∃ z, w = .str z ∧ SE X e G mu1 fun w2 mu2 => ∃ y, w2 = .str y ∧ (y.length == 0) = false ∧ z.length + 2 ≤ sizeLine ∧ ∀ l, mu2 l = none → P (.m l) (setM mu2 l (.lst ((Txt.split z y).map W.str))))
    (hs : starEach [e] X.env = [(false, eval e X.env)] := by rfl) (hbase : attributeBase o "split" X.env (eval o X.env) = eval o X.env := by rfl) (hline : (apos.endLine == pos.line) = true := by rfl) : SE X (.Call (.Attribute o "split" apos) [e] [] pos) G mu P :=
  SE.mk (pe_split peE peE hs hbase hline) fun σ H Q d m k => h σ H _ d m fun x w mu1 H1 ⟨z, e1, h1⟩ c1 d1 m1 => by
    subst e1
    have d1 : x = .str z := d1
    subst d1
    refine ⟨⟨z, rfl⟩, h1 σ H1 _ (c1.denG m d) m1 fun v w2 mu2 H2 ⟨y, e2, hy, hz, q⟩ c2 d2 m2 => ?_⟩
    subst e2
    have d2 : v = .str y := d2
    subst d2
    refine ⟨z, y, rfl, rfl, hy, hz, fun l hl => ?_⟩
    have dn : DenAll X.K H2 ((Txt.split z y).map W.str) ((Txt.split z y).map V.str) := by
      generalize Txt.split z y = ys
      induction ys with
      | nil => rfl
      | cons t ys ih => exact ⟨_, _, rfl, rfl, ih⟩
    obtain ⟨c3, m3⟩ := laidC (o := .lst ((Txt.split z y).map V.str)) (c := .lst ((Txt.split z y).map W.str)) m2 hl (newLst dn)
    exact (k.step (c1.trans c2)) _ _ _ _ (q l (m2.dom hl)) c3 rfl m3
/-- what was put together with one sign between, cut at it -/
theorem cut_put {s : Nat} (hs : s < 256) {ys : List Str} (ne : ys ≠ []) (h : ∀ y ∈ ys, s ∉ y.cps.toList) : Txt.split (Txt.join ⟨#[s]⟩ ys) ⟨#[s]⟩ = ys :=
  TL.split_join (y := ⟨#[s]⟩) (s := s) (S := []) rfl (by simp [hs]) ne h
end
end Dv
set_option Elab.async false
set_option linter.all false
set_option maxRecDepth 100000
/-! Lists put together; comprehensions of new cells. -/
namespace Dv
open PySem L2
section
variable {X : Cx} {e a b c : Expr} {es : List Expr} {st : Stmt} {sts : List Stmt} {G : Gs} {mu mu' : Mu} {pos : Pos} {P : PW1}
/-! ### as in Dv3, and the new list's own place is told to be free until the end -/
theorem lc_rdN {g : TG} {tt : TT} {te : TE} {tg iter : Expr} {vs : List Nat} {σ : St} {H : Hp} {Q : VK} {P : PW1} (d : DenG X.K H G σ) (m : HM X.K H mu) (k : Kont X.K mu H P Q)
    (h : SI X tg iter G mu fun ws Gm mu1 => ∀ D, mu1 D = none → ∃ I : Nat → List W → Mu → Prop, I 0 [] mu1 ∧ (∀ i acc mu', i ≤ ws.length → I i acc mu' → Gm mu') ∧
      (∀ i w acc mu', ws[i]? = some w → I i acc mu' → acc.length < sizeLine ∧ ∀ (σ' : St) (H' : Hp) (v : V) (R : Option V → Hp → Prop), DenG X.K H' (wipeG G vs) (wipe σ vs) → HM X.K H' mu' → Den X.K H' w v →
        (∀ r y mu4 H4, Chg mu' H' mu4 H4 → HM X.K H4 mu4 → Den X.K H4 r y → I (i + 1) (acc ++ [r]) mu4 → R (some y) H4) → (∀ mu4 H4, Chg mu' H' mu4 H4 → HM X.K H4 mu4 → I (i + 1) acc mu4 → R none H4) →
        g v (wipe σ vs) H' fun σ2 H2 => wipe σ2 vs = wipe σ vs ∧ tt σ2 H2 fun b H3 => if b = true then te σ2 H3 fun y H4 => R (some y) H4 else R none H3) ∧
      ∀ acc mu', I ws.length acc mu' → mu' D = none → P (.m D) (setM mu' D (.lst acc))) : tLc (tI X tg iter) g tt te vs σ H Q := by
  refine h σ H _ d m fun J ws Gm mu1 H1 hI c1 m1 ⟨Gh, Y, wk, hg, hy⟩ D hD => ?_
  obtain ⟨I, i0, ig, it, ie⟩ := hI D (m1.dom hD)
  obtain ⟨c0, m0⟩ := laid (o := .lst []) m1 hD
  have dne : ∀ mu' H', Chg mu1 H1 mu' H' → ∀ b o, H1 b = some o → b ≠ D := fun _ _ _ b o e => ne_of_none e hD
  refine lc_it wk (fun i H' => ∃ acc mu' xs, I i acc mu' ∧ H' D = some (.lst xs) ∧ DenAll X.K H' acc xs ∧ mu' D = none ∧ HM X.K H' mu' ∧ Chg mu1 H1 mu' H') ⟨[], mu1, [], i0, upd_same, rfl, m1.dom hD, m0, c0⟩
    (fun i H' hi ⟨acc, mu', xs, q, _, _, _, m2, c2⟩ => hg mu' H' c2 m2 (ig i acc mu' hi q)) (fun i x H' H'' hi ⟨acc, mu', xs, q, hx, dx, nD, m2, c2⟩ y => ?_) fun H' ⟨acc, mu', xs, q, hx, dx, nD, m2, c2⟩ => ?_
  · obtain ⟨w, hw, c3, m3, d3⟩ := hy i H' x H'' mu' hi c2 m2 (ig i acc mu' (Nat.le_of_lt hi) q) y
    obtain ⟨hl, hh⟩ := it i w acc mu' hw q
    have dw : DenG X.K H'' (wipeG G vs) (wipe σ vs) := c3.denG m2 (c2.denG m1 (c1.denG m (wipeG_den d vs)))
    refine hh σ H'' x (fun oy H4 => match oy with
      | some y => ∃ acc', H4 D = some (.lst acc') ∧ acc'.length < sizeLine ∧ ∃ acc mu' xs, I (i + 1) acc mu' ∧ (upd H4 D (.lst (acc' ++ [y]))) D = some (.lst xs) ∧ DenAll X.K (upd H4 D (.lst (acc' ++ [y]))) acc xs ∧ mu' D = none ∧ HM X.K (upd H4 D (.lst (acc' ++ [y]))) mu' ∧ Chg mu1 H1 mu' (upd H4 D (.lst (acc' ++ [y])))
      | none => ∃ acc mu' xs, I (i + 1) acc mu' ∧ H4 D = some (.lst xs) ∧ DenAll X.K H4 acc xs ∧ mu' D = none ∧ HM X.K H4 mu' ∧ Chg mu1 H1 mu' H4) dw m3 d3 (fun r y mu4 H4 c4 m4 d4 q4 => ?_) fun mu4 H4 c4 m4 q4 => ?_
    · have hx3 := c3.keep _ _ hx nD
      have nD3 := nD
      have hx4 := c4.keep _ _ hx3 nD
      have nD4 := c4.new _ _ hx3 nD
      have dx4 := c4.denAll m3 (c3.denAll m2 dx)
      have sq : ∀ a ys, SqT X.K H4 a ys → SqT X.K (upd H4 D (.lst (xs ++ [y]))) a ys := fun a ys s => by
        rcases s with (s | ⟨o, s⟩) | s
        · exact .inl (.inl (by rw [upd_ne (ne_of s hx4 (by intro z; cases z))]; exact s))
        · exact .inl (.inr ⟨o, by rw [upd_ne (ne_of s hx4 (by intro z; cases z))]; exact s⟩)
        · exact .inr s
      refine ⟨xs, hx4, by rw [← dx4.length]; exact hl, acc ++ [r], mu4, xs ++ [y], q4, upd_same, DenAll.append (DenAll.mono sq _ dx4) ⟨y, [], rfl, Den.mono sq _ d4, rfl⟩, nD4, fun a cc ha => CellOk.mono sq (m4 a cc ha) (upd_ne fun z => by subst z; rw [nD4] at ha; cases ha), ?_⟩
      have cc := (c2.trans c3).trans c4
      exact ⟨fun b o e n => by rw [upd_ne (ne_of_none e hD)]; exact cc.keep b o e n, cc.old, cc.new⟩
    · have hx3 := c3.keep _ _ hx nD
      have hx4 := c4.keep _ _ hx3 nD
      exact ⟨acc, mu4, xs, q4, hx4, c4.denAll m3 (c3.denAll m2 dx), c4.new _ _ hx3 nD, m4, (c2.trans c3).trans c4⟩
  · refine k (.ref D) (.m D) (setM mu' D (.lst acc)) H' (ie acc mu' q nD) (c1.trans ⟨c2.keep, fun b cc e => ?_, fun b o e n => ?_⟩) rfl fun a cc ha => ?_
    · by_cases z : b = D
      · subst z; exact ⟨_, setM_same⟩
      · rw [setM_ne z]; exact c2.old b cc e
    · rw [setM_ne (ne_of_none e hD)]
      exact c2.new b o e n
    · by_cases z : a = D
      · subst z
        rw [setM_same] at ha
        cases ha
        exact ⟨xs, hx, dx⟩
      · rw [setM_ne z] at ha
        exact m2 a cc ha
abbrev lcPostN (B : (Cx → Prop) → Prop) (T : Tg) (elt : Expr) (vs : List Nat) (G : Gs) (P : PW1) : List W → (Mu → Prop) → Mu → Prop := fun ws Gm mu1 => ∀ D, mu1 D = none → ∃ I : Nat → List W → Mu → Prop, I 0 [] mu1 ∧ (∀ i acc mu', i ≤ ws.length → I i acc mu' → Gm mu') ∧
  (∀ i w acc mu', ws[i]? = some w → I i acc mu' → acc.length < sizeLine ∧ ∃ G2, T.bind w (wipeG G vs) = some G2 ∧ B fun Y => SE Y elt G2 mu' fun r mu4 => I (i + 1) (acc ++ [r]) mu4) ∧ ∀ acc mu', I ws.length acc mu' → mu' D = none → P (.m D) (setM mu' D (.lst acc))
theorem lc_tur0N {scope : Scope} {own : List (Str × Nat)} {tg iter elt : Expr} (T : Tg) {P : PW1} {σ : St} {H : Hp} {Q : VK} (ha : T.all (fun i => decide (i ∈ own.map (·.2))) = true) (d : DenG X.K H G σ) (m : HM X.K H mu) (k : Kont X.K mu H P Q)
    (h : SI X tg iter G mu (lcPostN (InBlk X scope) T elt (own.map (·.2)) G P)) :
    tLc (tI X tg iter) (gT X.K T) tYes (fun σ2 H2 Q2 => ∀ (s : Shared) (H : Hp) (C : Addr) (cl : List (Str × Addr)) (fp : List Addr), tE (X.blk s H scope (compEnvC scope cl C X.env) fp) elt σ2 H2 Q2) (own.map (·.2)) σ H Q := by
  refine lc_rdN d m k (fun σ0 H0 R d0 m0 kk => h σ0 H0 R d0 m0 fun J ws Gm mu1 H1 hI c1 m1 iw => kk J ws Gm mu1 H1 (fun D hD => ?_) c1 m1 iw)
  obtain ⟨I, i0, ig, it, ie⟩ := hI D hD
  refine ⟨I, i0, ig, fun i w acc mu' hw q => ?_, ie⟩
  obtain ⟨hl, G2, hb, he⟩ := it i w acc mu' hw q
  refine ⟨hl, fun σ' H' v R dw m3 dv r1 r2 => gT_run T hb ha dw dv fun σ2 d2 e2 => ⟨e2.trans wipe_wipe, iteT (B := R none H') fun s Hs C cl fp => he s Hs C cl fp σ2 H' _ d2 m3 fun y r mu4 H4 q4 c4 d4 m4 => r1 r y mu4 H4 c4 m4 d4 q4⟩⟩
theorem se_lcN {scope : Scope} {own : List (Str × Nat)} {tg iter elt : Expr} (T : Tg) (hc : X.calm = true) (hN : X.N.Nodup) (ok : BlkOk X.N X.env.scope scope own) (ha : T.all (fun i => decide (i ∈ own.map (·.2))) = true)
    (hg : ∀ (s : Shared) (H : Hp) (C : Addr) (cl : List (Str × Addr)) (fp : List Addr), PG (X.blk s H scope (compEnvC scope cl C X.env) fp) tg (gT X.K T)) (hs : ∀ x, foldedSetIterable iter X.env x = pure x)
    (h : SI X tg iter G mu (lcPostN (InBlk X scope) T elt (own.map (·.2)) G P)) : SE X (.ListComp elt [⟨tg, iter, [], 0⟩] scope pos) G mu P :=
  SE.mk (pe_lc hc hN piI ok hg (fun _ _ _ _ _ => pts_nil) (fun s H C cl fp => ⟨fun pins s' σ H' Q I h => h s H C cl fp pins s' I⟩) hs) fun σ H Q d m k => lc_tur0N T ha d m k h

/-- a comprehension whose items are new lists, by a function of the items -/
theorem lc_rows {mu1 : Mu} {B : (Cx → Prop) → Prop} {T : Tg} {vs : List Nat} {elt : Expr} {ws : List W} {Gm : Mu → Prop} (g : W → List W) (hG : ∀ mu', Ext mu1 mu' → Gm mu') (hl : ws.length ≤ sizeLine)
    (hs : ∀ w mu', w ∈ ws → Ext mu1 mu' → ∃ G2, T.bind w (wipeG G vs) = some G2 ∧ B fun Y => SE Y elt G2 mu' fun r mu4 => Ext mu' mu4 ∧ ∃ a, r = .m a ∧ mu1 a = none ∧ mu4 a = some (.lst (g w)))
    (hB : ∀ {p q : Cx → Prop}, (∀ Y, p Y → q Y) → B p → B q)
    (hd : ∀ D mu' (rs : List (Addr × W)), mu1 D = none → mu' D = none → Ext mu1 mu' → rs.map (·.2) = ws → (∀ r ∈ rs, mu' r.1 = some (.lst (g r.2)) ∧ mu1 r.1 = none) → P (.m D) (setM mu' D (.lst (rs.map fun r => .m r.1)))) : lcPostN B T elt vs G P ws Gm mu1 := by
  intro D hD
  refine ⟨fun i acc mu' => ∃ rs : List (Addr × W), acc = rs.map (fun r => .m r.1) ∧ rs.map (·.2) = ws.take i ∧ (∀ r ∈ rs, mu' r.1 = some (.lst (g r.2)) ∧ mu1 r.1 = none) ∧ Ext mu1 mu', ⟨[], rfl, rfl, fun r hr => (by cases hr), Ext.refl⟩,
    fun i acc mu' _ ⟨rs, _, _, _, ex⟩ => hG mu' ex, fun i w acc mu' hw ⟨rs, ea, er, hr, ex⟩ => ?_, fun acc mu' ⟨rs, ea, er, hr, ex⟩ hn => ?_⟩
  · have hi : i < ws.length := (List.getElem?_eq_some_iff.mp hw).1
    have l1 : rs.length ≤ i := by
      have := congrArg List.length er
      rw [List.length_map, List.length_take] at this
      omega
    refine ⟨by rw [ea, List.length_map]; omega, ?_⟩
    obtain ⟨G2, h1, h2⟩ := hs w mu' (List.mem_of_getElem? hw) ex
    refine ⟨G2, h1, hB (fun Y hY => hY.imp fun r mu4 ⟨e4, a, e5, h6, h7⟩ => ?_) h2⟩
    refine ⟨rs ++ [(a, w)], by rw [ea, e5, List.map_append]; rfl, by rw [List.map_append, er, List.take_add_one, hw]; rfl, fun q hq => ?_, ex.trans e4⟩
    rcases List.mem_append.mp hq with hq | hq
    · exact ⟨e4 _ _ (hr q hq).1, (hr q hq).2⟩
    · rw [List.mem_singleton.mp hq]; exact ⟨h7, h6⟩
  · subst ea
    rw [List.take_length] at er
    exact hd D mu' rs hD hn ex er hr
abbrev catLV (w1 w2 : W) (mu : Mu) (P : PW1) : Prop := ∃ a b us zs, w1 = .m a ∧ w2 = .m b ∧ mu a = some (.lst us) ∧ mu b = some (.lst zs) ∧ us.length + zs.length ≤ sizeLine ∧ ∀ q, mu q = none → P (.m q) (setM mu q (.lst (us ++ zs)))
theorem catL_w : OpW X rCat catLV := fun w1 w2 x y mu H P Q dx dy m ⟨a, b, us, zs, e1, e2, h1, h2, hl, q⟩ k => by
  subst e1 e2
  have dx : x = .ref a := dx
  have dy : y = .ref b := dy
  subst dx dy
  obtain ⟨xs, hx, d1⟩ := m a _ h1
  obtain ⟨ys, hy, d2⟩ := m b _ h2
  refine ⟨a, b, xs, ys, rfl, rfl, hx, hy, by rw [← d1.length, ← d2.length]; exact hl, fun p hp => ?_⟩
  obtain ⟨c2, m2⟩ := laidC (o := .lst (xs ++ ys)) (c := .lst (us ++ zs)) m hp (newLst (DenAll.append d1 d2))
  exact k _ _ _ _ (q p (m.dom hp)) c2 rfl m2
end
end Dv
set_option Elab.async false
set_option linter.all false
set_option maxRecDepth 100000
/-! A def of one parameter, called by its name. -/
namespace Dv
open PySem PySem.Spec PyProof.Rows L2
structure DefKw (P : Program) (w : World) (K : PySem.W.Frag) (mg : Str → Option Value) (base : Heap) (x nm : Str) (k : Nat) (S : SpW) : Prop where
  ex : ∃ f fd, FnOk P w K mg base CX0 k f fd [nm] (spW K S) ∧ mg x = some (.ref f) ∧ PySem.W.keepIn K (.ref f) = true ∧ ∀ (s : Shared) (u : Value), BindsTo s fd ⟨[], [(nm, u)]⟩ [(nm, u)]
section
variable {X : Cx} {e : Expr} {G : Gs} {mu : Mu} {pos p kpos : Pos} {P : PW1}
theorem se_kw1 {x nm : Str} {k : Nat} {S : SpW} (D : DefKw X.prog X.w X.K X.mg X.base x nm k S) (hr : Room k X.A) (h : SE X e G mu fun w mu1 => S [w] mu1 P)
    (hg : Gl X x := by rfl) (hdb : (x == ("__debug__" : Str)) = false := by decide) (hall : (backToKw pos (keywordEach [⟨some nm, e, kpos⟩] X.env)).all (·.1.isSome) = true := by rfl) (hks : (backToKw pos (keywordEach [⟨some nm, e, kpos⟩] X.env)).filterMap (·.1) = [nm] := by rfl)
    (hpl : ((backTo pos (starEach [] X.env)).any (·.1) || (backToKw pos (keywordEach [⟨some nm, e, kpos⟩] X.env)).any (·.1.isNone)) = false := by rfl) : SE X (.Call (.Name x p) [] [⟨some nm, e, kpos⟩] pos) G mu P := by
  obtain ⟨f, fd, F, hm, hk, hb⟩ := D.ex
  intro σ H Q d m kk pins s I
  refine wpAny_Call_Name_kw (ld_glob I hg hm ?_ hdb)
  have pk : PK X [⟨some nm, e, kpos⟩] (tCons (tE X e) tNil) := pk_cons peE pk_nil
  refine PySem.W.callWith_KW0 (h₀ := X.base) I.ok.mod.kin hk hall (thn (pk.run pos pins s σ H (fun vs H1 => spW X.K S vs H1 Q fun _ _ _ => False) I ?_) fun us s1 ⟨vs, H1, I1, r, q⟩ => ⟨I1.kIn, ?_⟩) hpl
  · exact h σ H _ d m fun v w mu1 H1 h1 c1 d1 m1 => ⟨[w], mu1, P, h1, ⟨v, [], rfl, d1, rfl⟩, m1, kk.step c1⟩
  · rw [hks]
    have hl : us.length = 1 := by rw [← r.length]; exact F.len _ _ _ _ q
    obtain ⟨u, rfl⟩ : ∃ u, us = [u] := by
      match us, hl with
      | [u], _ => exact ⟨u, rfl⟩
    refine wpAny_call (codeAny_mono (F.run X.A X.stack s1 H1 ⟨[], [(nm, u)]⟩ [u] vs Q _ hr I1.env0 (hb s1 u) r q) fun z s' hq => ?_)
    cases z with
    | error e => exact False.elim hq
    | ok fl => cases fl with
      | ret u => exact I1.after hq
      | next => exact False.elim hq
      | brk => exact False.elim hq
      | cont => exact False.elim hq
end
end Dv
set_option Elab.async false
set_option linter.all false
set_option maxRecDepth 100000
/-! Stars over lists, f-strings, is None, bools compared, a global tuple of texts and its index, dict comprehensions of new cells. -/
namespace Dv
open PySem L2
section
variable {X : Cx} {e a b c : Expr} {es : List Expr} {st : Stmt} {sts : List Stmt} {G : Gs} {mu mu' : Mu} {pos p apos cpos : Pos} {P : PW1}
/-- a star over a list cell -/
theorem sa_starL {P : List W → Mu → Prop} {p : Pos} (h : SE X e G mu fun w mu1 => ∃ a us, w = .m a ∧ mu1 a = some (.lst us) ∧ SA X es G mu1 fun ws mu2 => P (us ++ ws) mu2) (hs : starEach (.Starred e p :: es) X.env = (true, eval e X.env) :: starEach es X.env := by rfl) : SA X (.Starred e p :: es) G mu P :=
  SA.mk (StX.pa_star peE paA hs) fun σ H Q d m k => h σ H _ d m fun v w mu1 H1 ⟨a, us, e1, e2, h1⟩ c1 d1 m1 => by
    subst e1
    have d1 : v = .ref a := d1
    obtain ⟨xs, hx, dx⟩ := m1 a _ e2
    exact ⟨a, xs, d1, .inr (SqL.of hx), h1 σ H1 _ (c1.denG m d) m1 fun vs ws mu2 H2 h2 c2 d2 m2 => k _ _ _ _ h2 (c1.trans c2) (DenAll.append (c2.denAll m1 dx) d2) m2⟩
/-! f-strings -/
theorem se_fmt (h : SE X e G mu fun w mu1 => (∃ y, w = .str y ∧ y.length ≤ sizeLine ∧ P (.str y) mu1) ∨ ∃ i : Int, w = .int i ∧ i.natAbs.log2 < 1920 ∧ P (.str (toString i)) mu1) : SE X (.FormattedValue e (-1) none pos) G mu P :=
  SE.mk (pe_fmt peE) fun σ H Q d m k => h σ H _ d m fun v w mu1 H1 h1 c1 d1 m1 => by
    rcases h1 with ⟨y, rfl, hl, q⟩ | ⟨i, rfl, hl, q⟩
    · exact .inl ⟨y, d1, hl, k _ _ _ _ q c1 rfl m1⟩
    · exact .inr ⟨i, d1, hl, k _ _ _ _ q c1 rfl m1⟩
def SJs (X : Cx) : List Expr → Str → Gs → Mu → (Str → Mu → Prop) → Prop
  | [], acc, _, mu, Post => Post acc mu
  | e :: es, acc, G, mu, Post => SE X e G mu fun w mu1 => ∃ y, w = .str y ∧ (acc ++ y).length ≤ sizeLine ∧ SJs X es (acc ++ y) G mu1 Post
theorem pj_all : ∀ es : List Expr, PJ X es (es.map fun e => tE X e)
  | [] => .nil
  | _ :: es => .cons peE (pj_all es)
theorem sjs_rd : ∀ (es : List Expr) {acc : Str} {mu : Mu} {σ : St} {H : Hp} {Post : Str → Mu → Prop} {Q : Str → Hp → Prop}, SJs X es acc G mu Post → DenG X.K H G σ → HM X.K H mu →
    (∀ y mu' H', Post y mu' → Chg mu H mu' H' → HM X.K H' mu' → Q y H') → tJs (es.map fun e => tE X e) acc σ H Q
  | [], acc, mu, σ, H, Post, Q, h, d, m, k => k acc mu H h Chg.refl m
  | e :: es, acc, mu, σ, H, Post, Q, h, d, m, k => by
    show tE X e σ H _
    refine (show SE X e G mu _ from h) σ H _ d m fun v w mu1 H1 ⟨y, e1, hl, h1⟩ c1 d1 m1 => ?_
    subst e1
    exact ⟨y, d1, hl, sjs_rd es h1 (c1.denG m d) m1 fun z mu2 H2 h2 c2 m2 => k z mu2 H2 h2 (c1.trans c2) m2⟩
theorem se_joined {v1 v2 : Expr} {rest : List Expr} (h : SJs X (v1 :: v2 :: rest) Str.empty G mu fun y mu1 => P (.str y) mu1) : SE X (.JoinedStr (v1 :: v2 :: rest) pos) G mu P :=
  SE.mk (pe_joined (pj_all _)) fun σ H Q d m k => sjs_rd _ h d m fun y mu1 H1 h1 c1 m1 => k _ _ _ _ h1 c1 rfl m1
/-! is None; bools and ints and texts compared -/
def isNo : W → Bool
  | .non => true
  | _ => false
theorem isNo_den {K : PySem.W.Frag} {H : Hp} {w : W} {x : V} (d : Den K H w x) : decide (x = V.non) = isNo w := by
  cases w with
  | non => have d : x = _ := d; subst d; rfl
  | bl b => have d : x = _ := d; subst d; rfl
  | int i => have d : x = _ := d; subst d; rfl
  | str z => have d : x = _ := d; subst d; rfl
  | m a => have d : x = _ := d; subst d; rfl
  | tup ws => obtain ⟨a, xs, e, _⟩ := d; subst e; rfl
theorem isN_w : OpW X (fun x y H Q => y = .non ∧ Q (.bl (decide (x = .non))) H) fun w1 w2 mu P => w2 = .non ∧ ∀ b, b = isNo w1 → P (.bl b) mu := fun w1 w2 x y mu H P Q dx dy m ⟨e, q⟩ k => by
  subst e
  have dy : y = .non := dy
  exact ⟨dy, by rw [isNo_den dx]; exact k.now (q _ rfl) rfl m⟩
theorem notN_w : OpW X (fun x y H Q => y = .non ∧ Q (.bl (!decide (x = .non))) H) fun w1 w2 mu P => w2 = .non ∧ ∀ b, b = (!isNo w1) → P (.bl b) mu := fun w1 w2 x y mu H P Q dx dy m ⟨e, q⟩ k => by
  subst e
  have dy : y = .non := dy
  exact ⟨dy, by rw [isNo_den dx]; exact k.now (q _ rfl) rfl m⟩
theorem neB_w : OpW X rNe fun w1 w2 mu P => ∃ i j, w1 = .bl i ∧ w2 = .bl j ∧ ∀ b, b = (i != j) → P (.bl b) mu := fun w1 w2 x y mu H P Q dx dy m ⟨i, j, e1, e2, q⟩ k => by
  subst e1 e2
  have dx : x = .bl i := dx
  have dy : y = .bl j := dy
  subst dx dy
  refine ⟨rfl, ?_⟩
  rw [dec_bl]
  exact k.now (q _ rfl) rfl m
theorem eqT_w : OpW X rEq fun w1 w2 mu P => ∃ i j, w1 = .str i ∧ w2 = .str j ∧ ∀ b, b = decide (i = j) → P (.bl b) mu := fun w1 w2 x y mu H P Q dx dy m ⟨i, j, e1, e2, q⟩ k => by
  subst e1 e2
  have dx : x = .str i := dx
  have dy : y = .str j := dy
  subst dx dy
  refine ⟨rfl, ?_⟩
  have : decide (V.str i = V.str j) = decide (i = j) := by
    rw [Bool.eq_iff_iff, decide_eq_true_iff, decide_eq_true_iff]
    exact ⟨fun e => by injection e, fun e => by rw [e]⟩
  rw [this]
  exact k.now (q _ rfl) rfl m
theorem eqN_w : OpW X rEq fun w1 w2 mu P => ∃ i j, w1 = .int i ∧ w2 = .int j ∧ ∀ b, b = (i == j) → P (.bl b) mu := fun w1 w2 x y mu H P Q dx dy m ⟨i, j, e1, e2, q⟩ k => by
  subst e1 e2
  have dx : x = .int i := dx
  have dy : y = .int j := dy
  subst dx dy
  refine ⟨rfl, ?_⟩
  rw [dec_int]
  exact k.now (q _ rfl) rfl m
theorem cmpN_w {g : Int → Int → Bool} : OpW X (rI0 fun i j => V.bl (g i j)) fun w1 w2 mu P => ∃ i j, w1 = .int i ∧ w2 = .int j ∧ ∀ b, b = g i j → P (.bl b) mu := fun w1 w2 x y mu H P Q dx dy m ⟨i, j, e1, e2, q⟩ k => by
  subst e1 e2
  exact cmpI_w (.int i) (.int j) x y mu H P Q dx dy m (q _ rfl) k
/-! a global tuple of texts -/
structure KTup (K : PySem.W.Frag) (mg : Str → Option Value) (x : Str) (ys : List Str) : Prop where
  ex : ∃ a o its n, mg x = some (.ref a) ∧ K.lookup a = some o ∧ o.cls = .type "tuple" ∧ o.dict = none ∧ o.data = .seq its n ∧ its.size ≤ sizeLine ∧ Vals (ys.map V.str) its.toList
theorem den_strs {K : PySem.W.Frag} {H : Hp} : ∀ ys : List Str, DenAll K H (ys.map W.str) (ys.map V.str)
  | [] => rfl
  | _ :: ys => ⟨_, _, rfl, rfl, den_strs ys⟩
theorem se_globT {x : Str} {ys : List Str} (T : KTup X.K X.mg x ys) (h : P (.tup (ys.map W.str)) mu) (hg : Gl X x := by rfl) (hd : (x == ("__debug__" : Str)) = false := by decide) : SE X (.Name x pos) G mu P := by
  obtain ⟨a, o, its, n, hm, hk, hc, _, hs, hz, r⟩ := T.ex
  exact SE.mk (pe_glob hg hm (v := .ref a) rfl hd) fun σ H Q d m k => k.now h ⟨a, _, rfl, .inr ⟨o, its, n, hk, hc, hs, hz, r⟩, den_strs ys⟩ m
theorem se_globIndex {x : Str} {ys : List Str} (T : KTup X.K X.mg x ys) (h : SE X e G mu fun w mu1 => ∃ z j, w = .str z ∧ ys[j]? = some z ∧ (∀ m, m < j → ys[m]? ≠ some z) ∧ P (.int (j : Nat)) mu1) (hg : Gl X x := by rfl) (hd : (x == ("__debug__" : Str)) = false := by decide)
    (hb : attributeBase (.Name x p) "index" X.env (eval (.Name x p) X.env) = eval (.Name x p) X.env := by rfl) (hq : (((backTo cpos (starEach [e] X.env)).all fun x => !x.1) && (backToKw cpos (keywordEach [] X.env)).all (fun x => x.1.isSome) && decide (([e].length + ([] : List Keyword).length + if ([] : List Keyword).isEmpty = true then 0 else 1) < 30)) = true := by rfl)
    (hl : (apos.endLine == cpos.line) = true := by rfl) (he : starEach [e] X.env = (false, eval e X.env) :: starEach [] X.env := by rfl) (hpl : (backTo cpos (starEach [] X.env)).any (·.1) = false := by rfl) : SE X (.Call (.Attribute (.Name x p) "index" apos) [e] [] cpos) G mu P := by
  obtain ⟨a, o, its, n, hm, hk, hc, hdc, hs, hz, r⟩ := T.ex
  refine SE.mk (pe_bm PySem.F.plainAttrs_tuple PySem.F.slot_tuple_index PySem.F.type_tuple_index mt_tup_index (pe_glob hg hm (v := .ref a) rfl hd) (pa_cons peE pa_nil he) hb hq hl he hpl) fun σ H Q d m k => ?_
  refine ⟨.inr (.inl ⟨rfl, o, hk, hc, hdc⟩), ?_⟩
  refine h σ H _ d m fun v w mu1 H1 ⟨z, j, e1, h1, h2, h3⟩ c1 d1 m1 => ?_
  subst e1
  have d1 : v = .str z := d1
  subst d1
  exact ⟨a, ys, z, j, rfl, rfl, .inr ⟨o, its, n, hk, hc, hs, hz, r⟩, h1, h2, k _ _ _ _ h3 c1 rfl m1⟩
/-! a dict comprehension, and the new dict's own place is told to be free until the end -/
abbrev dcPostN (B : (Cx → Prop) → Prop) (T : Tg) (kx vx : Expr) (vs : List Nat) (G : Gs) (P : PW1) : List W → (Mu → Prop) → Mu → Prop := fun ws Gm mu1 => ∀ D, mu1 D = none → ∃ I : Nat → List (Key × W) → Mu → Prop, I 0 [] mu1 ∧ (∀ i acc mu', i ≤ ws.length → I i acc mu' → Gm mu') ∧
  (∀ i w acc mu', ws[i]? = some w → I i acc mu' → acc.length < sizeLine ∧ (acc.map (·.1)).Nodup ∧ ∃ G2, T.bind w (wipeG G vs) = some G2 ∧ B fun Y => SE Y kx G2 mu' fun kw mu3 => ∃ k, keyOf kw = some k ∧ B fun Z => SE Z vx G2 mu3 fun r mu4 => I (i + 1) (putW acc k r) mu4) ∧
  ∀ acc mu', I ws.length acc mu' → mu' D = none → P (.m D) (setM mu' D (.dic acc))
theorem dc_rdN {scope : Scope} {own : List (Str × Nat)} {tg iter kx vx : Expr} (T : Tg) {P : PW1} {σ : St} {H : Hp} {Q : VK} (ha : T.all (fun i => decide (i ∈ own.map (·.2))) = true) (d : DenG X.K H G σ) (m : HM X.K H mu) (k : Kont X.K mu H P Q)
    (h : SI X tg iter G mu (dcPostN (InBlk X scope) T kx vx (own.map (·.2)) G P)) :
    tDc (tI X tg iter) (gT X.K T) tYes (fun σ2 H2 Q2 => ∀ (s : Shared) (H : Hp) (C : Addr) (cl : List (Str × Addr)) (fp : List Addr), tE (X.blk s H scope (compEnvC scope cl C X.env) fp) kx σ2 H2 Q2)
      (fun σ2 H2 Q2 => ∀ (s : Shared) (H : Hp) (C : Addr) (cl : List (Str × Addr)) (fp : List Addr), tE (X.blk s H scope (compEnvC scope cl C X.env) fp) vx σ2 H2 Q2) (own.map (·.2)) σ H Q := by
  refine h σ H _ d m fun J ws Gm mu1 H1 hI c1 m1 ⟨Gh, Y, wk, hg, hy⟩ D hD => ?_
  obtain ⟨I, i0, ig, it, ie⟩ := hI D (m1.dom hD)
  obtain ⟨c0, m0⟩ := laid (o := .dK []) m1 hD
  refine ⟨fun i n H' => n = ws.length - i ∧ i ≤ ws.length ∧ ∃ acc mu' xs, I i acc mu' ∧ H' D = some (.dK xs) ∧ DKV X.K H' acc xs ∧ mu' D = none ∧ HM X.K H' mu' ∧ Chg mu1 H1 mu' H',
    ⟨ws.length, by simp, Nat.zero_le _, [], mu1, [], i0, upd_same, ⟨rfl, rfl⟩, m1.dom hD, m0, c0⟩, ?_⟩
  rintro i n H' ⟨rfl, hi, acc, mu', xs, q, hx, dx, nD, m2, c2⟩
  have gh := hg mu' H' c2 m2 (ig i acc mu' hi q)
  by_cases hlt : i < ws.length
  · refine .inr ⟨wk.goes i H' hlt gh, fun H' => ∃ acc mu' xs, I (i + 1) acc mu' ∧ H' D = some (.dK xs) ∧ DKV X.K H' acc xs ∧ mu' D = none ∧ HM X.K H' mu' ∧ Chg mu1 H1 mu' H', fun H'' hN => ⟨ws.length - (i + 1), by omega, rfl, hlt, hN⟩, fun x H'' y => ?_⟩
    obtain ⟨w, hw, c3, m3, d3⟩ := hy i H' x H'' mu' hlt c2 m2 (ig i acc mu' hi q) (wk.yields i H' x H'' hlt gh y)
    obtain ⟨hl, hn, G2, hb, he⟩ := it i w acc mu' hw q
    have dw : DenG X.K H'' (wipeG G (own.map (·.2))) (wipe σ (own.map (·.2))) := c3.denG m2 (c2.denG m1 (c1.denG m (wipeG_den d _)))
    refine gT_run T hb ha dw d3 fun σ2 d2 e2 => ⟨e2.trans wipe_wipe, ?_⟩
    simp only [tYes, if_true]
    intro s Hs C cl fp
    refine he s Hs C cl fp σ2 H'' _ d2 m3 fun kv kw mu4 H4 h4 c4 d4 m4 s' Hs' C' cl' fp' => ?_
    obtain ⟨kk, hk, hv⟩ := h4
    refine hv s' Hs' C' cl' fp' σ2 H4 _ (c4.denG m3 d2) m4 fun v r mu5 H5 h5 c5 d5 m5 => ?_
    have hx5 := c5.keep _ _ (c4.keep _ _ (c3.keep _ _ hx nD) nD) (c4.new _ _ (c3.keep _ _ hx nD) nD)
    have nD5 := c5.new _ _ (c4.keep _ _ (c3.keep _ _ hx nD) nD) (c4.new _ _ (c3.keep _ _ hx nD) nD)
    have dx5 : DKV X.K H5 acc xs := ⟨dx.1, c5.denAll m4 (c4.denAll m3 (c3.denAll m2 dx.2))⟩
    have sq : ∀ a ys, SqT X.K H5 a ys → SqT X.K (upd H5 D (.dK (putK xs kk v))) a ys := fun a ys s => by
      rcases s with (s | ⟨o, s⟩) | s
      · exact .inl (.inl (by rw [upd_ne (ne_of s hx5 (by intro z; cases z))]; exact s))
      · exact .inl (.inr ⟨o, by rw [upd_ne (ne_of s hx5 (by intro z; cases z))]; exact s⟩)
      · exact .inr s
    have cc := ((c2.trans c3).trans c4).trans c5
    refine ⟨xs, kk, keyOf_den hk d4, hx5, ?_, putW acc kk r, mu5, putK xs kk v, h5, upd_same, ?_, nD5, fun a cc ha => CellOk.mono sq (m5 a cc ha) (upd_ne fun z => by subst z; rw [nD5] at ha; cases ha), ⟨fun b o e n => by rw [upd_ne (ne_of_none e hD)]; exact cc.keep b o e n, cc.old, cc.new⟩⟩
    · have := congrArg List.length dx.1
      simp only [List.length_map] at this
      omega
    · have := dx5.put hn d5 (k := kk)
      exact ⟨this.1, DenAll.mono sq _ this.2⟩
  · have ei : i = ws.length := by omega
    subst ei
    refine .inl ⟨wk.stops H' gh, k (.ref D) (.m D) (setM mu' D (.dic acc)) H' (ie acc mu' q nD) (c1.trans ⟨c2.keep, fun b cc e => ?_, fun b o e n => ?_⟩) rfl fun a cc ha => ?_⟩
    · by_cases z : b = D
      · subst z; exact ⟨_, setM_same⟩
      · rw [setM_ne z]; exact c2.old b cc e
    · rw [setM_ne (ne_of_none e hD)]
      exact c2.new b o e n
    · by_cases z : a = D
      · subst z
        rw [setM_same] at ha
        cases ha
        exact ⟨xs, hx, dx.1, dx.2⟩
      · rw [setM_ne z] at ha
        exact m2 a cc ha
theorem se_dcN {scope : Scope} {own : List (Str × Nat)} {tg iter kx vx : Expr} (T : Tg) (hc : X.calm = true) (hN : X.N.Nodup) (ok : BlkOk X.N X.env.scope scope own) (ha : T.all (fun i => decide (i ∈ own.map (·.2))) = true)
    (hg : ∀ (s : Shared) (H : Hp) (C : Addr) (cl : List (Str × Addr)) (fp : List Addr), PG (X.blk s H scope (compEnvC scope cl C X.env) fp) tg (gT X.K T)) (hs : ∀ x, foldedSetIterable iter X.env x = pure x)
    (h : SI X tg iter G mu (dcPostN (InBlk X scope) T kx vx (own.map (·.2)) G P)) : SE X (.DictComp kx vx [⟨tg, iter, [], 0⟩] scope pos) G mu P :=
  SE.mk (pe_dc hc hN piI ok hg (fun _ _ _ _ _ => pts_nil) (fun s H C cl fp => ⟨fun pins s' σ H' Q I h => h s H C cl fp pins s' I⟩) (fun s H C cl fp => ⟨fun pins s' σ H' Q I h => h s H C cl fp pins s' I⟩) hs) fun σ H Q d m k => dc_rdN T ha d m k h
open PySem.Spec PyProof PyProof.Rows in
/-- name = {..: ..} on one line, the name a local -/
theorem ps_setDc {i : Nat} {y : Str} {py : Pos} {kx vx tg iter : Expr} {ifs : List Expr} {scope : Scope} {own : List (Str × Nat)} {pos spos : Pos} {wi : TI} {g : TG} {tt : TT} {tk tv : TE} (hc : X.calm = true) (hN : X.N.Nodup) (hy : X.N[i]? = some y) (hyl : X.env.scope.names.lookup y = some .local)
    (hsw : swapsWith (.DictComp kx vx [⟨tg, iter, ifs, 0⟩] scope pos) (some (.Name y py)) spos.line X.env = pure true) (hi : PI X tg iter wi) (ok : BlkOk X.N X.env.scope scope own)
    (hg : ∀ (s : Shared) (H : Hp) (C : Addr) (cl : List (Str × Addr)) (fp : List Addr), PG (X.blk s H scope (compEnvC scope cl C X.env) fp) tg g) (ht : ∀ (s : Shared) (H : Hp) (C : Addr) (cl : List (Str × Addr)) (fp : List Addr), PTs (X.blk s H scope (compEnvC scope cl C X.env) fp) ifs tt)
    (hk : ∀ (s : Shared) (H : Hp) (C : Addr) (cl : List (Str × Addr)) (fp : List Addr), PE (X.blk s H scope (compEnvC scope cl C X.env) fp) kx tk)
    (he : ∀ (s : Shared) (H : Hp) (C : Addr) (cl : List (Str × Addr)) (fp : List Addr), PE (X.blk s H scope (compEnvC scope cl C X.env) fp) vx tv) (hs : ∀ x, foldedSetIterable iter X.env x = pure x := by intro _; rfl) :
    PS X (.Assign [.Name y py] (.DictComp kx vx [⟨tg, iter, ifs, 0⟩] scope pos) spos) (tAsg (tDc wi g tt tk tv (own.map (·.2))) (gName i)) := by
  refine ⟨fun pins s σ H D I h => ?_⟩
  rw [exec_Assign_Name_used _ _ _ _ hsw]
  refine wpAny_bind (wpAny_standAt (wpAny_bind ?_))
  show wpAny _ X.A (do let _ ← comprehension (.DictComp kx vx [⟨tg, iter, ifs, 0⟩] scope pos) scope X.env (firstIterPos [⟨tg, iter, ifs, 0⟩] pos) newDict false (eval iter X.env) (some (assign (.Name y py) X.env))) _ _ s
  have h : tDc wi g tt tk tv (own.map (·.2)) σ H (fun x H1 => gName i x σ H1 D.nx) := h
  refine wpAny_bind (thn (dc_core (Qf := fun _ s' => SP X pins D .next s') hc hN I hi ok hg ht hk he hs h fun L C s' m H' I' q hn f => ?_) fun _ s' hq => wpAny_pure (wpAny_pure hq))
  show wpAny _ _ (assign (.Name y py) X.env (.ref L)) _ _ _
  refine wpAny_assign_Name (store_ok2 (v := V.ref L) I' hN hy (.inl hyl) rfl (fun s2 I2 ⟨a, sb, ha⟩ => ?_) (.inr hyl))
  obtain ⟨f0, f1, f2, f3, f4, f5⟩ := f
  have haC : C ≠ a := by
    rcases ha with z | z
    · rw [z]; exact f1
    · exact fun e => f4 y a z e.symm
  refine ⟨m, hn.sameBut sb haC, fun h3 sb3 => ?_⟩
  exact ⟨_, H', I2.turned (t' := s2.toks) (fun b o hb e => (sb3.2 b hb).trans e) f0 f1 f3 f4 f5, q⟩
theorem sw_trueD {kx vx : Expr} {gs : List Comprehension} {scope : Scope} {pos py : Pos} {y : Str} {l : Nat} {env : Env} (hk : env.scope.kind = .function) (hy : env.scope.names.lookup y = some .local) (hl : (py.line == pos.line) = true)
    (ha : (scope.names.any fun (n, k) => n == y && (k == .local || k == .cell)) = false) : swapsWith (.DictComp kx vx gs scope pos) (some (.Name y py)) l env = pure true := by
  have ky : env.kindOf y = some .local := hy
  have hb : env.blockKind = .function := by unfold Env.blockKind; rw [hk]; rfl
  unfold swapsWith
  simp only [hb, ky, ha, Expr.pos, hl]
  rfl
theorem ss_setdc {E : WE} {i : Nat} {y : Str} {py spos : Pos} {scope : Scope} {own : List (Str × Nat)} {tg iter kx vx : Expr} (T : Tg) (hc : X.calm = true) (hN : X.N.Nodup) (hy : X.N[i]? = some y) (hyl : X.env.scope.names.lookup y = some .local)
    (hsw : swapsWith (.DictComp kx vx [⟨tg, iter, [], 0⟩] scope pos) (some (.Name y py)) spos.line X.env = pure true) (ok : BlkOk X.N X.env.scope scope own) (ha : T.all (fun i => decide (i ∈ own.map (·.2))) = true)
    (hg : ∀ (s : Shared) (H : Hp) (C : Addr) (cl : List (Str × Addr)) (fp : List Addr), PG (X.blk s H scope (compEnvC scope cl C X.env) fp) tg (gT X.K T)) (hs : ∀ x, foldedSetIterable iter X.env x = pure x)
    (h : SI X tg iter G mu (dcPostN (InBlk X scope) T kx vx (own.map (·.2)) G fun w mu1 => E.nx (G.set i (some w)) mu1)) : SS X (.Assign [.Name y py] (.DictComp kx vx [⟨tg, iter, [], 0⟩] scope pos) spos) G mu E :=
  SS.mk (ps_setDc hc hN hy hyl hsw piI ok hg (fun _ _ _ _ _ => pts_nil) (fun s H C cl fp => ⟨fun pins s' σ H' Q I h => h s H C cl fp pins s' I⟩) (fun s H C cl fp => ⟨fun pins s' σ H' Q I h => h s H C cl fp pins s' I⟩) hs) fun σ H D d m k =>
    dc_rdN (P := fun w mu1 => E.nx (G.set i (some w)) mu1) T ha d m (fun v w mu1 H1 h1 c1 d1 m1 => k.nx _ _ _ _ h1 c1 (DenG.set (c1.denG m d) d1) m1) h
end
end Dv
set_option Elab.async false
set_option linter.all false
set_option maxRecDepth 100000
/-! A def of one parameter: called by place and by name. -/
namespace Dv
open PySem PySem.Spec PyProof.Rows L2
section
variable {P : Program} {w : World} {K : PySem.W.Frag} {mg : Str → Option Value} {base : Heap}
theorem dfnBoth {x nm : Str} {st : Stmt} {N : List Str} {k : Nat} {S : SpW} (D : Dfn K mg x st [nm]) (Sc : FnScope N [nm] (defScope st))
    (hkw : ∀ (kV doc pm : Value) (an : Option Addr) (cdv ct : Value) (s : Shared) (u : Value), BindsTo s (PySem.W.fnOf x x (defArgs st) (defBody st) (defScope st) .none kV doc pm an cdv ct) ⟨[], [(nm, u)]⟩ [(nm, u)])
    (len : ∀ ws mu P, S ws mu P → ws.length = [nm].length)
    (body : ∀ (f : Addr) (cdv : Value) (A : Around) (outer : List Env) (s : Shared) (H : Hp) (E : XK), Room k (A.deeper (PyProof.Rows.envOfC x (defScope st) s.heap.objs.size f cdv)) → ∀ ws mu Pt, S ws mu Pt →
      SSs (cxOf CX0 P w K mg base N x (defScope st) f cdv A outer s H E).nox (defBody st) (startW N ws) mu { nx := fun _ mu' => Pt .non mu', rt := Pt }) : DefOk P w K mg base x [nm] (k + 1) S ∧ DefKw P w K mg base x nm (k + 1) S := by
  obtain ⟨f, fd, F, hm, hb⟩ := D.ex
  refine ⟨⟨f, fd, okW F Sc len (body f), hm, F.kp, hb⟩, ⟨f, fd, okW F Sc len (body f), hm, F.kp, ?_⟩⟩
  obtain ⟨oc, od, kV, doc, pm, an, cdv, ct, osl, efd, lk, hcd⟩ := F.ex
  subst efd
  exact fun s u => hkw _ _ _ _ _ _ s u
end
end Dv
set_option Elab.async false
set_option linter.all false
set_option maxRecDepth 100000
/-! sorted(set(xs)) of texts, any number. -/
namespace TO
open PySem PySem.Spec PyProof.Rows L2 PySem.Froz
/-- a set of texts whose places rise -/
structure TxR (pr : Program) (ww : World) (h : Heap) (a : Addr) (l : List Str) : Prop where
  ex : ∃ D : SD, h.get? a = some (sObj "set" D) ∧ TxOk pr ww D l ∧ Ris D.2.2.place.toList ∧ (ww.params.followText "set-order" = true ∨ D.2.2.led = true)
theorem TxR.keep {pr : Program} {ww : World} {h h' : Heap} {a : Addr} {l : List Str} (R : TxR pr ww h a l) (k : ∀ o, h.get? a = some o → h'.get? a = some o) : TxR pr ww h' a l := by
  obtain ⟨D, h1, h2⟩ := R.ex
  exact ⟨D, k _ h1, h2⟩
theorem tail_ris {ep : Nat} {es : Array (Int × Value)} {t : SetTable} {b : Bool} (r : Ris t.place.toList) : Ris (tailTx ep es t b).2.2.place.toList ∧ (tailTx ep es t b).2.2.led = t.led := by
  unfold tailTx
  by_cases c : (!b && t.tooFull) = true
  · rw [if_pos c]; exact ⟨relayAll_ris t es _, relayAll_led t es _⟩
  · rw [if_neg c]; exact ⟨r, rfl⟩
theorem add_ris {D : SD} {h : Int} {v : Value} (r : Ris D.2.2.place.toList) : Ris (addTx h v D).2.2.place.toList ∧ (addTx h v D).2.2.led = D.2.2.led := by
  have h1 := layNew_ris D.2.2 D.1 h v r
  have h2 := layNew_led D.2.2 D.1 h v
  unfold addTx
  by_cases c : (layNew D.2.2 D.1 h v).2.1.plain = true
  · rw [if_pos c]
    have q := tail_ris (ep := D.2.1) (es := (layNew D.2.2 D.1 h v).1) (t := { (layNew D.2.2 D.1 h v).2.1 with plain := false }) (b := (layNew D.2.2 D.1 h v).2.2.1) h1
    exact ⟨q.1, q.2.trans h2⟩
  · rw [if_neg c]
    have q := tail_ris (ep := D.2.1) (es := (layNew D.2.2 D.1 h v).1) (t := (layNew D.2.2 D.1 h v).2.1) (b := (layNew D.2.2 D.1 h v).2.2.1) h1
    exact ⟨q.1, q.2.trans h2⟩
section
variable {pr : Program} {ww : World} {A : Around} {E : Value → Shared → Prop} {s : Shared}
/-- a text that is a member already -/
theorem add_old {a : Addr} {D : SD} {l : List Str} {k : Str} {u : Tok} {Q : Bool → Shared → Prop} (ho : s.heap.get? a = some (sObj "set" D)) (F : TxOk pr ww D l) (hk : k ∈ l) (hb : l.length < scanBound) (h : Q false s) : wpAny (model pr ww) A (setAddHashed a (.str k u) (hashStr ww k)) Q E s := by
  obtain ⟨es, ep, t⟩ := D
  have hsz : es.size < scanBound := by have : es.size = l.length := F.sz; omega
  have key : (strKind pr ww).is k (.str k u) = true := is_str k u
  obtain ⟨e, he, hi⟩ := (F.mem k).mp hk
  have some1 : ∃ j, List.findIdx? (fun e => (strKind pr ww).is k e.2) es.toList = some j := by
    cases q : List.findIdx? (fun e => (strKind pr ww).is k e.2) es.toList with
    | some j => exact ⟨j, rfl⟩
    | none => exact absurd hi (by simpa using List.findIdx?_eq_none_iff.mp q e he)
  obtain ⟨j, hj⟩ := some1
  unfold setAddHashed
  refine wpAny_holding ?_
  unfold setAddHashedIn
  refine wpAny_bind (wpAny_setState_of (o := sObj "set" (es, ep, t)) ho rfl F.fit ?_)
  dsimp only
  rw [byScan_of (knd := strKind pr ww) rfl hsz F.el, if_pos rfl]
  unfold setAddByScan
  refine wpAny_bind (wpAny_bind (wpAny_rule (wpAny_bind ((show wpAny (model pr ww) A (setScan a (.str k u) ((strKind pr ww).hash k) true es) _ E s from wpAny_setScan_of (knd := strKind pr ww) key ho rfl F.fit F.el (by
    rw [hj]
    exact wpAny_pure (wpAny_pure h)))))))
theorem add_any {a : Addr} {l : List Str} {k : Str} {u : Tok} {Q : Bool → Shared → Prop} (R : TxR pr ww s.heap a l) (hb : l.length + 1 < scanBound)
    (h : ∀ b h' l', Heap.SameBut a s.heap h' → TxR pr ww h' a l' → (∀ y, y ∈ l' ↔ y = k ∨ y ∈ l) → l'.length ≤ l.length + 1 → Q b { s with heap := h' }) : wpAny (model pr ww) A (setAddHashed a (.str k u) (hashStr ww k)) Q E s := by
  obtain ⟨D, ho, F, r, lg⟩ := R.ex
  by_cases hk : k ∈ l
  · refine add_old ho F hk (by omega) ?_
    exact h false s.heap l ⟨rfl, fun b hb => rfl⟩ R (fun y => ⟨.inr, fun q => q.elim (fun e => e ▸ hk) id⟩) (Nat.le_succ _)
  · refine add_x ho F hk hb ?_
    have r2 := add_ris (h := hashStr ww k) (v := .str k u) r
    refine h true _ (k :: l) ?_ ⟨addTx (hashStr ww k) (.str k u) D, get_upd _ ho rfl, add_ok u F, r2.1, lg.imp id fun q => r2.2.trans q⟩ (fun y => List.mem_cons) (by simp)
    exact Heap.SameBut.update _ _ _
theorem fresh_r {h : Heap} {a : Addr} (ho : h.get? a = some (TxSet.bare (!ww.params.followText "set-order"))) : TxR pr ww h a [] :=
  ⟨(#[], 0, .fresh 0 0 (!ww.params.followText "set-order")), ho, .nil rfl, List.Pairwise.nil, by
    show _ ∨ (!ww.params.followText "set-order") = true
    cases ww.params.followText "set-order"
    · exact .inr rfl
    · exact .inl rfl⟩
/-- one text after another -/
theorem fillR {R : Result → Shared → Prop} {I D : Addr} {fp wr : List Addr} {G : Array GenState → Array GenState → Prop} {m : Nat} {Pv : Nat → Value → Prop} {St : Nat → Shared → Prop}
    (Wk : WalksS pr ww A.in1 I fp wr G m Pv St) (hD : D ∉ fp) (xs : List Str) (hm : xs.length = m) (few : m + 1 < scanBound) (hP : ∀ i v, Pv i v → ∃ x t, xs[i]? = some x ∧ v = .str x t) :
    ∀ (left i : Nat) (sh : Shared), m - i = left → i ≤ m → St i sh → (∃ l, TxR pr ww sh.heap D l ∧ l.length ≤ i ∧ ∀ y, y ∈ l ↔ y ∈ xs.take i) →
      (∀ sh2, Moved (D :: wr) G sh sh2 → (∃ l, TxR pr ww sh2.heap D l ∧ l.length ≤ m ∧ ∀ y, y ∈ l ↔ y ∈ xs) → R (.ok (.ret .none)) sh2) → codeAny (model pr ww) A (.builtin "set.update.loop" ⟨[.ref D, .ref I], []⟩) R sh := by
  have outw : D ∉ wr := fun z => hD (Wk.sub _ z)
  have more : ∀ b ∈ wr, b ∈ D :: wr := fun b z => List.mem_cons_of_mem _ z
  intro left
  induction left with
  | zero =>
    rintro i sh z0 hi st ⟨l, hS, ll, lm⟩ fin
    have e : i = m := by omega
    subst e
    (refine codeAny_builtin F.entry_set_update_loop ?_; rw [Around.under_plainId F.plain_set_update_loop _])
    show wpAny _ A.in1 (pyNext (.ref I) >>= _) _ _ sh
    refine wpAny_bind (Wk.done sh _ _ st fun sh2 mv => ?_)
    show wpAny _ A.in1 (ret Value.none) _ _ sh2
    rw [← hm, List.take_length] at lm
    exact wpAny_pure (fin sh2 (mv.mono more) ⟨l, hS.keep fun o e => mv.heap D o outw e, by omega, lm⟩)
  | succ left ih =>
    rintro i sh z0 hi st ⟨l, hS, ll, lm⟩ fin
    have lt : i < m := by omega
    (refine codeAny_builtin F.entry_set_update_loop ?_; rw [Around.under_plainId F.plain_set_update_loop _])
    show wpAny _ A.in1 (pyNext (.ref I) >>= _) _ _ sh
    refine wpAny_bind (Wk.item i sh _ _ lt st fun v sh2 hv st2 mv => ?_)
    obtain ⟨x, t, hx, rfl⟩ := hP i v hv
    have hS2 : TxR pr ww sh2.heap D l := hS.keep fun o e => mv.heap D o outw e
    show wpAny _ A.in1 (holding [Value.str x t] (setAdd D (.str x t)) >>= _) _ _ sh2
    (refine wpAny_bind (wpAny_holding ?_); unfold setAdd)
    refine wpAny_holding (wpAny_bind ((strKind pr ww).pyHash (k := x) (strKind_is _ _ _ _) ?_))
    refine add_any (s := { sh2 with toks := sh2.toks + 1 }) hS2 (by omega) fun b h3 l3 same hS3 hm3 hl3 => ?_
    refine wpAny_pure ⟨plainId_quiet F.plain_set_update_loop _, ih (i + 1) _ (by omega) lt (Wk.frame _ sh2 _ _ st2 (Nat.le_succ _) fun b z o e => (same.2 b fun q : b = D => hD (q ▸ z)).trans e) ⟨l3, hS3, by omega, fun y => ?_⟩
      fun sh3 mv3 hS5 => fin sh3 (Moved.trans Wk.gtrans ((mv.mono more).then_heap (Nat.le_succ _) fun b o z e => (same.2 b fun q : b = D => z (by rw [q]; exact List.mem_cons_self)).trans e) mv3) hS5⟩
    rw [hm3, List.take_add_one, hx, List.mem_append, lm]
    simp [or_comm]
end
section
variable {pr : Program} {ww : World} {A : Around} {E : Value → Shared → Prop} {sh : Shared}
set_option maxHeartbeats 3300000 in
theorem newR {ad : Addr} {its : Array Value} {xs : List Str} {Q : Value → Shared → Prop} (noExc : A.handled = none) (hseq : sh.heap.IsList ad its) (tx : StrsAre its.toList xs) (few : its.size + 1 < scanBound)
    (fin : ∀ (h2 : Heap) (t2 : Nat), (∃ l, TxR pr ww h2 sh.heap.objs.size l ∧ l.length ≤ xs.length ∧ ∀ y, y ∈ l ↔ y ∈ xs) → (∀ b o, b < sh.heap.objs.size → sh.heap.get? b = some o → h2.get? b = some o) → Q (.ref sh.heap.objs.size) { sh with heap := h2, toks := t2 }) : wpAny (model pr ww) A (call (.type "set") [.ref ad]) Q E sh := by
  obtain ⟨cc, rest, mro⟩ := F.called_set.mro
  have made := F.called_set.made
  have subS := F.called_set.sub
  (refine wpAny_call (codeAny_of_tree ?_); show wpAny _ _ (callAny (.type "set") _) _ _ sh; refine wpAny_pure ⟨Code.quiet_builtin _ (by decide +kernel), codeAny_builtin F.entry_type_call ?_⟩)
  rw [Around.under_plain (weight_type_call_type "set" [.ref ad] []) rfl]
  have n1 := F.called_set.notType
  have n2 := F.called_set.canCreate
  have n3 := F.typeCall_set_1 (.ref ad)
  repeat any_goals first | assumption | wp_step
  obtain ⟨ld, eld⟩ : ∃ ld, ld = !ww.params.followText "set-order" := ⟨_, rfl⟩
  refine codeAny_mono (code_set_led1 (.ref ad) (E := E) (Q₁ := fun ob sh1 => ob = .ref sh.heap.objs.size ∧ sh1 = { sh with heap := sh.heap.push (TxSet.bare ld) }) ⟨rfl, by rw [eld]⟩) fun r sh1 hr => ?_
  rcases r with ex | fl
  · exact hr
  cases fl with
  | ret ob =>
    obtain ⟨rfl, rfl⟩ := hr
    have at0 : (sh.heap.push (TxSet.bare ld)).get? sh.heap.objs.size = some (TxSet.bare ld) := Heap.get?_push_size _ rfl
    have ty0 : Shared.TypeIs { sh with heap := sh.heap.push (TxSet.bare ld) } (.ref sh.heap.objs.size) "set" := ⟨_, at0, rfl⟩
    have in1 := F.called_set.init.lookup
    have in2 := F.called_set.init.bind (.ref sh.heap.objs.size)
    repeat any_goals first | assumption | wp_step
    refine codeAny_mono (codeAny_call_builtin (R := wants (fun r sh2 => r = .none ∧ ∃ h2 t2, sh2 = { sh with heap := h2, toks := t2 } ∧ (∃ l, TxR pr ww h2 sh.heap.objs.size l ∧ l.length ≤ xs.length ∧ ∀ y, y ∈ l ↔ y ∈ xs) ∧ (∀ b o, b < sh.heap.objs.size → sh.heap.get? b = some o → h2.get? b = some o)) E) F.called_set.init.plain F.entry_set_init (check_set_init_1 ty0 ?_)) fun r2 sh2 hr2 => ?_
    · obtain ⟨⟨oc, odt, oda, osl⟩, hol, hcl, nl, hdl⟩ := hseq
      simp only at hcl hdl
      subst hcl hdl
      have hol2 : (sh.heap.push (TxSet.bare ld)).get? ad = some { cls := .type "list", dict := odt, data := .seq its nl, slots := osl } := Heap.get?_push_of_some _ hol
      have sub1 := PySem.F.sub_list_set
      have sub2 := PySem.F.sub_list_frozenset
      have neD : (Value.type "list" == Value.type "dict") = false := by decide
      have seq2 : (sh.heap.push (TxSet.bare ld)).IsList ad its := ⟨_, hol2, rfl, nl, rfl⟩
      (unfold Builtin.«set.__init__» noKeywords Builtin.Frozenset.updateFrom; generalize ePI : pyIter = PI)
      wp_walk
      subst ePI
      refine wpAny_pyIter_list seq2 (wpAny_bind (wpAny_runValue ?_))
      have adLt : ad < sh.heap.objs.size := Heap.lt_size hol
      have noExc3 : A.in1.in1.in1.handled = none := by simp [noExc]
      have apart : ad ≠ (sh.heap.push (TxSet.bare ld)).objs.size := by rw [Heap.size_push]; exact Nat.ne_of_lt (Nat.lt_succ_of_lt adLt)
      have out : sh.heap.objs.size ∉ [(sh.heap.push (TxSet.bare ld)).objs.size, ad] := by
        rw [Heap.size_push]
        simp only [List.mem_cons, List.mem_singleton, List.not_mem_nil, or_false, not_or]
        exact ⟨Nat.ne_of_lt (Nat.lt_succ_self _), Nat.ne_of_gt adLt⟩
      have lenX : xs.length = its.size := by rw [← StrsAre.len_eq tx, Array.length_toList]
      have each : ∀ (i : Nat) (v : Value), its[i]? = some v → ∃ x t, xs[i]? = some x ∧ v = .str x t := fun i v hv => by
        have il : i < xs.length := by rw [lenX]; exact (Array.getElem?_eq_some_iff.mp hv).1
        obtain ⟨t, e⟩ := SS.strs_at tx i v (by rw [Array.getElem?_toList]; exact hv)
        refine ⟨xs[i], t, List.getElem?_eq_getElem il, ?_⟩
        rw [e, List.getD_eq_getElem?_getD, List.getElem?_eq_getElem il]
        rfl
      refine fillR ((Walks.list noExc3 _ ad apart its).toS) out xs lenX few each (its.size - 0) 0 _ (by omega) (Nat.zero_le _) ⟨⟨_, Heap.get?_push_size _ rfl, rfl, rfl⟩, seq2.push _⟩ ?begin ?after
      case begin =>
        have at1 : ((sh.heap.push (TxSet.bare ld)).push { cls := .type "list_iterator", data := .fields #[.ref ad, .int 0 0] }).get? sh.heap.objs.size = some (TxSet.bare ld) := Heap.get?_push_of_some _ at0
        rw [eld] at at1 ⊢
        exact ⟨[], fresh_r at1, Nat.le_refl _, fun y => by simp⟩
      case after =>
        intro sh3 mv hS
        obtain ⟨h3, g3, d3, t3, o3⟩ := sh3
        have eg : g3 = sh.gens := mv.gens
        have ed : d3 = sh.drawn := mv.drawn
        have eo : o3 = sh.os := mv.os
        subst eg ed eo
        show wpAny _ _ _ _ _ _
        (refine wpAny_pure ?_; show wpAny _ _ (ret Value.none) _ _ _)
        refine wpAny_pure ⟨rfl, h3, t3, rfl, (by rw [lenX]; exact hS), fun b o hb e => mv.heap b o ?_ (Heap.get?_push_of_some _ (Heap.get?_push_of_some _ e))⟩
        have b1 : b ≠ sh.heap.objs.size := Nat.ne_of_lt hb
        have b2 : b ≠ (sh.heap.push (TxSet.bare ld)).objs.size := by rw [Heap.size_push]; exact Nat.ne_of_lt (Nat.lt_succ_of_lt hb)
        simp only [List.mem_cons, List.mem_singleton, List.not_mem_nil, or_false, not_or]
        exact ⟨b1, b2⟩
    · rcases r2 with ex | fl2
      · exact hr2
      cases fl2 with
      | ret r =>
        obtain ⟨rfl, h2, t2, rfl, hS, hk⟩ := hr2
        repeat any_goals first | assumption | wp_step
        exact fin _ _ hS hk
      | _ => exact hr2.elim
  | _ => exact hr.elim
end
end TO
set_option Elab.async false
set_option linter.all false
set_option maxRecDepth 100000
/-! sorted(set(xs)) of texts: the rule. -/
namespace TO
open PySem PySem.Spec PyProof.Rows L2 PySem.Froz
def txt : Value → Str
  | .str x _ => x
  | _ => Str.empty
theorem mem_txt {pr : Program} {ww : World} {D : SD} {l : List Str} (F : TxOk pr ww D l) {vs : List Value} (pm : vs.Perm (D.1.toList.map (·.2))) : (∀ v ∈ vs, ∃ t, v = .str (txt v) t ∧ txt v ∈ l) ∧ ∀ y ∈ l, y ∈ vs.map txt := by
  have one : ∀ k v, (strKind pr ww).is k v = true → ∃ t, v = .str k t := fun k v h => by
    have h : Value.isStrOf k v = true := h
    cases v with
    | str x t => exact ⟨t, by have := (show x = k from by simpa [Value.isStrOf] using h); rw [this]⟩
    | _ => simp [Value.isStrOf] at h
  refine ⟨fun v hv => ?_, fun y hy => ?_⟩
  · obtain ⟨e, he, rfl⟩ := List.mem_map.mp (pm.mem_iff.mp hv)
    obtain ⟨⟨k, hk, _⟩, _⟩ := F.el e he
    obtain ⟨t, ht⟩ := one k e.2 hk
    refine ⟨t, by rw [ht]; rfl, ?_⟩
    rw [ht]
    exact (F.mem k).mpr ⟨e, he, hk⟩
  · obtain ⟨e, he, hk⟩ := (F.mem y).mp hy
    obtain ⟨t, ht⟩ := one y e.2 hk
    refine List.mem_map.mpr ⟨e.2, pm.mem_iff.mpr (List.mem_map.mpr ⟨e, he, rfl⟩), ?_⟩
    rw [ht]
    rfl
theorem alike_txt (ys : List Str) : PySem.W.AllAlike (ys.map PyData.str) ∧ PySem.W.Sortable (ys.map PyData.str) := by
  have each : ∀ d ∈ ys.map PyData.str, ∃ x, d = .str x := fun d hd => by
    obtain ⟨x, _, rfl⟩ := List.mem_map.mp hd
    exact ⟨x, rfl⟩
  refine ⟨fun d hd d' hd' => ?_, .inr fun d hd => ?_⟩
  · obtain ⟨x, rfl⟩ := each d hd
    obtain ⟨y, rfl⟩ := each d' hd'
    simp [PySem.W.alike]
  · obtain ⟨x, rfl⟩ := each d hd
    exact ⟨by simp, by simp⟩
theorem each_txt {R : Value → Str → Prop} : ∀ {vs : List Value}, (∀ v ∈ vs, R v (txt v)) → PySem.W.EachIs R vs (vs.map txt)
  | [], _ => .nil
  | v :: vs, h => .cons (h v (by simp)) (each_txt fun u hu => h u (by simp [hu]))
theorem vals_txt : ∀ {vs : List Value} {ys : List Str}, PySem.W.EachIs (fun v y => ∃ t, v = Value.str y t) vs ys → Vals (ys.map V.str) vs
  | _, _, .nil => .nil
  | _, _, .cons h r => .cons h (vals_txt r)
def tSortTx (K : PySem.W.Frag) (ta : TE) : TE := fun σ H Q => ta σ H fun x H1 => ∃ (l : Addr) (xs : List Str), x = .ref l ∧ SqL K H1 l (xs.map V.str) ∧ xs.length ≤ 1000 ∧ ∀ (y : Addr) (ys : List Str), H1 y = none → (∀ z, z ∈ ys ↔ z ∈ xs) → ys.length ≤ xs.length → Q (.ref y) (upd H1 y (.lst (ys.map V.str)))
set_option maxHeartbeats 1000000 in
theorem pe_sortTx {X : Cx} {a : Expr} {ta : TE} {p p2 q pos : Pos} {j : Nat} (hr : Room j X.A) (hc : X.calm = true) (hg : Gl X "sorted") (hm : X.mg "sorted" = none) (hg2 : Gl X "set") (hm2 : X.mg "set" = none) (ha : PE X a ta) (na : starEach [a] X.env = (false, eval a X.env) :: starEach [] X.env := by rfl) :
    PE X (.Call (.Name "sorted" p) [.Call (.Name "set" p2) [a] [] q] [] pos) (tSortTx X.K ta) := by
  refine ⟨fun pins s σ H Q I h => Call_ (ld_blt I hg hm boot_sorted (PyProof.Rows.callWith_builtin1 (PyProof.Rows.args_cons (Call_ (ld_blt I hg2 hm2 boot_set (PyProof.Rows.callWith_type1 (PyProof.Rows.args_cons (thn (ha.run pins s σ H _ I h) fun v s1 ⟨x, H1, I1, r1, l, xs, ex, hq, l3, qq⟩ => PyProof.Rows.args_nil ?_) na) na rfl))) rfl) rfl rfl))⟩
  subst ex
  cases r1
  obtain ⟨itms, rv, pl, hz⟩ := I1.list hq
  have hl := rv.length
  rw [List.length_map] at hl
  have un := hr.un
  have noExc : X.A.handled = none := I1.ok.hd hc
  refine newR (xs := xs) noExc pl.isList (by simpa using strsAre_of rv) (by simp; unfold scanBound; omega) fun h' tk ⟨ls, R, ll, lm⟩ hk => ?_
  refine PyProof.Rows.args_nil ?_
  have J : L2.Inv X pins σ H1 { s1 with heap := h', toks := tk } := I1.kept fun b ob z => hk b ob (Heap.lt_size z) z
  obtain ⟨D, ho, F, ris, led⟩ := R.ex
  have sz : D.1.size = ls.length := F.sz
  refine SortT.sorted_by (β := Str) (enc := fun b => PyData.str b) (R := fun u b => ∃ t, u = Value.str b t) (OK := fun vs s2 => vs.Perm (D.1.toList.map (·.2)) ∧ (∀ b u, h'.get? b = some u → s2.heap.get? b = some u) ∧ h'.objs.size ≤ s2.heap.objs.size ∧ s2.gens = s1.gens ∧ s2.os = s1.os)
    (fun h => L2.collect_set (s := { s1 with heap := h', toks := tk }) (by simp [noExc]) ⟨_, ho, rfl, rfl⟩ F.fit (by rw [sz]; unfold scanBound; omega) ris led fun s2 vs k1 hz g1 o1 pm => h vs s2 ⟨pm, k1, hz, g1, o1⟩) ?_
  rintro vs s2 ⟨pm, k1, z1, g1, o1⟩
  obtain ⟨m1, m2⟩ := mem_txt F pm
  have vl : vs.length = ls.length := by rw [pm.length_eq, List.length_map, Array.length_toList, sz]
  have J2 : L2.Inv X pins σ H1 { s1 with heap := s2.heap, toks := tk } := J.kept (t' := tk) k1
  refine ⟨vs.map txt, each_txt fun v hv => ?_, each_txt fun v hv => ?_, (alike_txt _).1, (alike_txt _).2, by rw [List.length_map, vl, sizeLine_eq]; omega, fun b hb => ?_, fun out c h2 hlo he k2 hcc => ?_⟩
  · obtain ⟨t, e, _⟩ := m1 v hv
    exact ⟨t, e⟩
  · obtain ⟨t, e, _⟩ := m1 v hv
    exact Dp.reads J2 (.str (txt v)) (.str (txt v)) v (.str _) ⟨t, e⟩
  · show X.A.units + 2 + 0 < cLine
    omega
  · have hn : H1 s2.heap.objs.size = none := J.hok.fresh z1
    have prm := List.mergeSort_perm (vs.map txt) (PySem.W.dataLe false fun b => PyData.str b)
    generalize (vs.map txt).mergeSort (PySem.W.dataLe false fun b => PyData.str b) = cs at he prm
    have cl : cs.length = ls.length := by rw [prm.length_eq, List.length_map, vl]
    have kk : ∀ b u, h'.get? b = some u → h2.get? b = some u := fun b u e => k2 b u (k1 b u e)
    have JJ : L2.Inv X pins σ (upd H1 s2.heap.objs.size (.lst (cs.map V.str))) { s1 with heap := h2, gens := s2.gens, drawn := s2.drawn, toks := s2.toks } :=
      L2.Inv.call (s := { s1 with heap := h', toks := tk }) (ch := []) J (Un.laid kk z1 hn) (J.hok.laid kk z1 ⟨by rw [List.length_map, cl, sizeLine_eq]; omega, out, c, vals_txt he, hcc⟩) (by rw [g1]; exact I1.bare) (fun _ z => nomatch z)
    have e : { s2 with heap := h2 } = { s1 with heap := h2, gens := s2.gens, drawn := s2.drawn, toks := s2.toks } := by
      cases s2
      cases s1
      cases o1
      rfl
    rw [e]
    refine ⟨.ref s2.heap.objs.size, _, JJ, rfl, qq _ cs hn (fun z => ?_) (by omega)⟩
    rw [prm.mem_iff, ← lm z]
    exact ⟨fun hz => by obtain ⟨v, hv, rfl⟩ := List.mem_map.mp hz; exact (m1 v hv).choose_spec.2, m2 z⟩
end TO
namespace Dv
open PySem L2
theorem denAll_txt {K : PySem.W.Frag} {H : Hp} : ∀ {xs : List Str} {vs : List V}, DenAll K H (xs.map W.str) vs → vs = xs.map V.str
  | [], _, d => d
  | x :: xs, _, ⟨v, r, e, d1, d2⟩ => by
    have d1 : v = .str x := d1
    rw [e, d1, denAll_txt d2]
    rfl
theorem se_sortTx {X : Cx} {e : Expr} {G : Gs} {mu : Mu} {p p2 q pos : Pos} {P : PW1} {j : Nat} (hr : Room j X.A) (h : SE X e G mu fun w mu1 => ∃ a, ∃ xs : List Str, w = .m a ∧ mu1 a = some (.lst (xs.map W.str)) ∧ xs.length ≤ 1000 ∧
      ∀ y (ys : List Str), mu1 y = none → (∀ z, z ∈ ys ↔ z ∈ xs) → ys.length ≤ xs.length → P (.m y) (setM mu1 y (.lst (ys.map W.str))))
    (hm : X.mg "sorted" = none) (hm2 : X.mg "set" = none) (hc : X.calm = true := by rfl) (hg : Gl X "sorted" := by rfl) (hg2 : Gl X "set" := by rfl) (na : starEach [e] X.env = (false, eval e X.env) :: starEach [] X.env := by rfl) : SE X (.Call (.Name "sorted" p) [.Call (.Name "set" p2) [e] [] q] [] pos) G mu P :=
  SE.mk (TO.pe_sortTx hr hc hg hm hg2 hm2 peE na) fun σ H Q d m k => h σ H _ d m fun v w mu1 H1 h1 c1 d1 m1 => by
    obtain ⟨a, xs, hw, ha, l3, qq⟩ := h1
    subst hw
    have d1 : v = .ref a := d1
    subst d1
    obtain ⟨vs, hx, dx⟩ := m1 a _ ha
    have := denAll_txt dx
    subst this
    refine ⟨a, xs, rfl, SqL.of hx, l3, fun y ys hy h1 h2 => ?_⟩
    obtain ⟨c2, m2⟩ := laidC (o := .lst (ys.map V.str)) (c := .lst (ys.map W.str)) m1 hy (newLst (den_strs ys))
    exact (k.step c1) _ _ _ _ (qq y ys (m1.dom hy) h1 h2) c2 rfl m2
end Dv
set_option Elab.async false
set_option linter.all false
set_option maxRecDepth 100000
/-! Globals (ints, dicts of tuples), sets of ints, lists unpacked, is not True, d.get(k, x), str and int of texts, functions held by names. -/
namespace Dv
open PySem L2
section
variable {X : Cx} {e a b c o f : Expr} {es : List Expr} {G : Gs} {mu mu' : Mu} {pos p apos cpos : Pos} {P : PW1}
/-- a global whole number -/
structure KInt (mg : Str → Option Value) (x : Str) (n : Int) : Prop where
  ex : ∃ t, mg x = some (.int n t)
theorem se_globI {x : Str} {n : Int} (T : KInt X.mg x n) (h : P (.int n) mu) (hg : Gl X x := by rfl) (hd : (x == ("__debug__" : Str)) = false := by decide) : SE X (.Name x pos) G mu P := by
  obtain ⟨t, ht⟩ := T.ex
  exact se_glob (w := .int n) (v := .int n) ht ⟨t, rfl⟩ (fun _ _ => rfl) h hg hd
/-- a name that is none of the module's -/
structure KNo (mg : Str → Option Value) (x : Str) : Prop where
  no : mg x = none
/-- a global text -/
structure KStr (mg : Str → Option Value) (x : Str) (z : Str) : Prop where
  ex : ∃ t, mg x = some (.str z t)
theorem se_globS {x : Str} {z : Str} (T : KStr X.mg x z) (h : P (.str z) mu) (hg : Gl X x := by rfl) (hd : (x == ("__debug__" : Str)) = false := by decide) : SE X (.Name x pos) G mu P := by
  obtain ⟨t, ht⟩ := T.ex
  exact se_glob (w := .str z) (v := .str z) ht ⟨t, rfl⟩ (fun _ _ => rfl) h hg hd
/-- a global dict of tuples of texts -/
structure KDic (K : PySem.W.Frag) (w : World) (mg : Str → Option Value) (x : Str) (f : Str → Option (List Str)) : Prop where
  ex : ∃ p, mg x = some (.ref p) ∧ ∀ z ys, f z = some ys → ∃ a o its n, KDct K w p z (.ref a) ∧ K.lookup a = some o ∧ o.cls = .type "tuple" ∧ o.data = .seq its n ∧ its.size ≤ sizeLine ∧ Vals (ys.map V.str) its.toList
theorem se_globIx {x : Str} {f : Str → Option (List Str)} (T : KDic X.K X.w X.mg x f) (h : SE X b G mu fun w mu1 => ∃ z ys, w = .str z ∧ f z = some ys ∧ P (.tup (ys.map W.str)) mu1) (hg : Gl X x := by rfl) (hd : (x == ("__debug__" : Str)) = false := by decide) (hs : PlainIx b := by exact fun _ _ => rfl) : SE X (.Subscript (.Name x p) b pos) G mu P := by
  obtain ⟨q, hm, hf⟩ := T.ex
  refine SE.mk (pe_ix ix_kdict (pe_glob hg hm (v := .ref q) rfl hd) peE hs) fun σ H Q d m k => ?_
  refine h σ H _ d m fun v w mu1 H1 ⟨z, ys, e1, e2, h1⟩ c1 d1 m1 => ?_
  subst e1
  have d1 : v = .str z := d1
  subst d1
  obtain ⟨a, o, its, n, hk, hl, hc, hs', hz, r⟩ := hf z ys e2
  exact ⟨q, z, .ref a, rfl, rfl, hk, k _ _ _ _ h1 c1 ⟨a, _, rfl, .inr ⟨o, its, n, hl, hc, hs', hz, r⟩, den_strs ys⟩ m1⟩
/-- len(set(ns)), ns different whole numbers -/
theorem denAll_int {K : PySem.W.Frag} {H : Hp} : ∀ {xs : List Int} {vs : List V}, DenAll K H (xs.map W.int) vs → vs = xs.map V.int
  | [], _, d => d
  | x :: xs, _, ⟨v, r, e, d1, d2⟩ => by
    have d1 : v = .int x := d1
    rw [e, d1, denAll_int d2]
    rfl
theorem se_lenSetI {p2 q : Pos} (h : SE X a G mu fun w mu1 => ∃ l, ∃ ns : List Int, w = .m l ∧ mu1 l = some (.lst (ns.map W.int)) ∧ ns.Nodup ∧ ns.length ≤ 4000 ∧ P (.int (ns.length : Nat)) mu1)
    (hm : X.mg "len" = none) (hm2 : X.mg "set" = none) (hc : X.calm = true := by rfl) (hg : Gl X "len" := by rfl) (hg2 : Gl X "set" := by rfl) (na : starEach [a] X.env = (false, eval a X.env) :: starEach [] X.env := by rfl) : SE X (.Call (.Name "len" p) [.Call (.Name "set" p2) [a] [] q] [] pos) G mu P :=
  SE.mk (RZ.pe_lenSetI hg hm hg2 hm2 peE hc na) fun σ H Q d m k => h σ H _ d m fun v w mu1 H1 ⟨l, ns, e1, hl, nd, hn, q⟩ c1 d1 m1 => by
    subst e1
    have d1 : v = .ref l := d1
    subst d1
    obtain ⟨vs, hx, dx⟩ := m1 l _ hl
    have := denAll_int dx
    subst this
    exact ⟨l, ns, rfl, SqL.of hx, nd, hn, k _ _ _ _ q c1 rfl m1⟩
/-- a list unpacked into names -/
theorem sg_unl {n : Nat} {kk : Nat} {l : Addr} {ws : List W} {Post : Gs → Mu → Prop} (hl : mu l = some (.lst ws)) (h : SGs X es ws G mu Post) (hc : X.calm = true := by rfl) (hn : ws.length = n := by rfl)
    (ht : ∀ {t : TGs}, PGs X es t → PG X (.Tuple es kk pos) (gUnl X.K n t) := by exact fun h => pg_unl rfl h) : SG X (.Tuple es kk pos) (.m l) G mu Post :=
  SG.mk (ht pgsG) fun σ H v Q d m dv k => by
    have dv : v = .ref l := dv
    subst dv
    obtain ⟨xs, hx, dx⟩ := m l _ hl
    exact ⟨l, xs, rfl, SqL.of hx, by rw [← dx.length]; exact hn, h σ H xs Q d m dx k⟩
theorem notB_w : OpW X rNotB fun w1 w2 mu P => ∃ i j, w1 = .bl i ∧ w2 = .bl j ∧ ∀ b, b = (!decide (i = j)) → P (.bl b) mu := fun w1 w2 x y mu H P Q dx dy m ⟨i, j, e1, e2, q⟩ k => by
  subst e1 e2
  exact ⟨i, j, dx, dy, k.now (q _ rfl) rfl m⟩
/-- d.get(k, x) -/
theorem se_get2 (hu : X.A.units + 1 < cLine) (h : SE X o G mu fun w mu1 => ∃ a kvs0, w = .m a ∧ mu1 a = some (.dic kvs0) ∧ SE X e G mu1 fun w2 mu2 => SE X f G mu2 fun w3 mu3 => ∃ kvs k, mu3 a = some (.dic kvs) ∧ keyOf w2 = some k ∧ P ((valW kvs k).getD w3) mu3)
    (m2 : M2 X o "get" apos e f cpos := by exact ⟨rfl, rfl, rfl, rfl⟩) : SE X (.Call (.Attribute o "get" apos) [e, f] [] cpos) G mu P :=
  SE.mk (pe_dget2 hu peE peE peE m2) fun σ H Q d m k => h σ H _ d m fun v w mu1 H1 ⟨a, kvs0, e1, h0, h1⟩ c1 d1 m1 => by
    subst e1
    have d1 : v = .ref a := d1
    subst d1
    obtain ⟨vs0, hx0, _⟩ := m1 a _ h0
    refine ⟨a, rfl, .inl ⟨vs0, .inl hx0⟩, h1 σ H1 _ (c1.denG m d) m1 fun y w2 mu2 H2 h2 c2 d2 m2 => h2 σ H2 _ ((c1.trans c2).denG m d) m2 fun z w3 mu3 H3 ⟨kvs, kk, h3, hk, q⟩ c3 d3 m3 => ?_⟩
    obtain ⟨vs, hx, dk⟩ := m3 a _ h3
    have ey := keyOf_den hk (c3.den m2 d2)
    subst ey
    refine ⟨valV vs kk, DGet.k hx, k _ _ _ _ q ((c1.trans c2).trans c3) ?_ m3⟩
    cases hv : valW kvs kk with
    | none => rw [DKV.getN (K := X.K) (H := H3) dk hv]; exact d3
    | some u =>
      obtain ⟨v', q1, q2⟩ := DKV.get (K := X.K) (H := H3) dk hv
      rw [q1]
      exact q2
/-- str of a whole number, of a text -/
abbrev strIW (ws : List W) (mu : Mu) (P : PW1) : Prop := ∃ i : Int, ws = [.int i] ∧ i.natAbs.log2 < 1920 ∧ P (.str (toString i)) mu
theorem strI_w : CallW X (fun xs H Q => ∃ i : Int, xs = [.int i] ∧ i.natAbs.log2 < 1920 ∧ Q (.str (toString i)) H) strIW := fun ws vs mu H P Q d m ⟨i, e, hl, q⟩ k => by
  subst e
  obtain ⟨v, rfl, dv⟩ := d.one
  have dv : v = .int i := dv
  subst dv
  exact ⟨i, rfl, hl, k.now q rfl m⟩
theorem se_strI (h : SE X e G mu fun w mu1 => strIW [w] mu1 P) (hm : X.mg "str" = none) (hg : Gl X "str" := by rfl) (he : starEach [e] X.env = [(false, eval e X.env)] := by rfl) (hpl : (backTo pos (starEach [] X.env)).any (·.1) = false := by rfl) : SE X (.Call (.Name "str" p) [e] [] pos) G mu P :=
  se_bty call_str_int strI_w hm (sa_one h he) (by decide +kernel) hg (by decide) (by decide) he hpl
theorem strS_w : CallW X (fun xs H Q => ∃ a : Str, xs = [.str a] ∧ Q (.str a) H) fun ws mu P => ∃ z, ws = [.str z] ∧ P (.str z) mu := fun ws vs mu H P Q d m ⟨z, e, q⟩ k => by
  subst e
  obtain ⟨v, rfl, dv⟩ := d.one
  have dv : v = .str z := dv
  subst dv
  exact ⟨z, rfl, k.now q rfl m⟩
theorem se_strS (h : SE X e G mu fun w mu1 => ∃ z, [w] = [.str z] ∧ P (.str z) mu1) (hm : X.mg "str" = none) (hg : Gl X "str" := by rfl) (he : starEach [e] X.env = [(false, eval e X.env)] := by rfl) (hpl : (backTo pos (starEach [] X.env)).any (·.1) = false := by rfl) : SE X (.Call (.Name "str" p) [e] [] pos) G mu P :=
  se_bty SkE.call_str_str strS_w hm (sa_one h he) (by decide +kernel) hg (by decide) (by decide) he hpl
theorem intS_w : CallW X (fun xs H Q => ∃ a n, xs = [.str a] ∧ PySem.intText? a = some n ∧ a.length ≤ 640 ∧ Q (.int n) H) fun ws mu P => ∃ a n, ws = [.str a] ∧ PySem.intText? a = some n ∧ a.length ≤ 640 ∧ P (.int n) mu := fun ws vs mu H P Q d m ⟨a, n, e, h1, h2, q⟩ k => by
  subst e
  obtain ⟨v, rfl, dv⟩ := d.one
  have dv : v = .str a := dv
  subst dv
  exact ⟨a, n, rfl, h1, h2, k.now q rfl m⟩
theorem se_intS (h : SE X e G mu fun w mu1 => ∃ a n, [w] = [.str a] ∧ PySem.intText? a = some n ∧ a.length ≤ 640 ∧ P (.int n) mu1) (hm : X.mg "int" = none) (hg : Gl X "int" := by rfl) (he : starEach [e] X.env = [(false, eval e X.env)] := by rfl) (hpl : (backTo pos (starEach [] X.env)).any (·.1) = false := by rfl) : SE X (.Call (.Name "int" p) [e] [] pos) G mu P :=
  se_bty call_int_str intS_w hm (sa_one h he) (by decide +kernel) hg (by decide) (by decide) he hpl
end
/-! a function held by a name -/
structure DefVal (P : Program) (w : World) (K : PySem.W.Frag) (mg : Str → Option Value) (base : Heap) (f : Addr) (k : Nat) (S : SpW) : Prop where
  ex : ∃ fd ps, FnOk P w K mg base CX0 k f fd ps (spW K S) ∧ PySem.W.keepIn K (.ref f) = true ∧ Binds K fd ps []
section
variable {X : Cx} {e : Expr} {es : List Expr} {G : Gs} {mu : Mu} {pos p : Pos} {P : PW1}
theorem se_fun {x : Str} {ps : List Str} {k : Nat} {S : SpW} (D : DefOk X.prog X.w X.K X.mg X.base x ps k S) (h : ∀ f, DefVal X.prog X.w X.K X.mg X.base f k S → P (.m f) mu) (hg : Gl X x := by rfl) (hd : (x == ("__debug__" : Str)) = false := by decide) : SE X (.Name x pos) G mu P := by
  obtain ⟨f, fd, F, hm, hk, hb⟩ := D.ex
  exact SE.mk (pe_glob hg hm (v := .ref f) rfl hd) fun σ H Q d m kk => kk.now (h f ⟨fd, ps, F, hk, hb⟩) rfl m
theorem se_callV {x : Str} {i : Nat} {f : Addr} {k : Nat} {S : SpW} (D : DefVal X.prog X.w X.K X.mg X.base f k S) (hr : Room k X.A) (hG : G[i]? = some (some (.m f))) (h : SA X (e :: es) G mu fun ws mu1 => S ws mu1 P) (hN : X.N[i]? = some x := by rfl)
    (hv : Vis X.env.scope x := by first | exact Or.inl rfl | exact Or.inr (Or.inl rfl) | exact Or.inr (Or.inr rfl)) (hdb : (x == ("__debug__" : Str)) = false := by decide) (hcd : (x == ("__classdict__" : Str)) = false := by decide)
    (he : starEach (e :: es) X.env = (false, eval e X.env) :: starEach es X.env := by rfl) (hpl : (backTo pos (starEach es X.env)).any (·.1) = false := by rfl) : SE X (.Call (.Name x p) (e :: es) [] pos) G mu P := by
  obtain ⟨fd, ps, F, hk, hb⟩ := D.ex
  refine SE.mk (pe_callA (S := fun a => if a = f then some (spW X.K S) else none) (fun a sp hs => ?_) hr hN hv paA hdb hcd he hpl) fun σ H Q d m kk => ?_
  · by_cases ea : a = f
    · rw [if_pos ea] at hs
      cases hs
      subst ea
      exact ⟨fd, ps, F, hk, hb⟩
    · rw [if_neg ea] at hs
      cases hs
  · obtain ⟨v, e1, dv⟩ := d.2 i _ hG
    have dv : v = .ref f := dv
    subst dv
    exact ⟨f, spW X.K S, e1, if_pos rfl, h σ H _ d m fun vs ws mu1 H1 h1 c1 d1 m1 => ⟨ws, mu1, P, h1, d1, m1, kk.step c1⟩⟩
end
end Dv
set_option Elab.async false
set_option linter.all false
set_option maxRecDepth 100000
/-! insert, remove (of texts), update. -/
namespace Dv
open PySem L2 PySem.Spec PyProof.Rows
section
variable {X : Cx}
def isTxt (k : Str) : Value → Bool
  | .str x _ => x.cps.toList == k.cps.toList
  | _ => false
theorem txt_at {k : Str} {ns : List Str} {vs : List Value} (r : Vals (ns.map V.str) vs) : ∀ (i : Nat) (h : i < vs.length), (∃ x t, vs[i] = .str x t ∧ ns[i]? = some x) := fun i h => by
  have hl : i < (ns.map V.str).length := by rw [r.length]; exact h
  obtain ⟨x, hx⟩ : ∃ x, ns[i]? = some x := ⟨_, List.getElem?_eq_getElem (by rwa [List.length_map] at hl)⟩
  obtain ⟨v, h1, h2⟩ := r.get (i := i) (x := V.str x) (by rw [List.getElem?_map, hx]; rfl)
  rw [List.getElem?_eq_getElem h] at h1
  cases h1
  obtain ⟨t, ht⟩ := (show ∃ t, vs[i] = Value.str x t from h2)
  exact ⟨x, t, ht, hx⟩
theorem mt_removeT : MtR X "list.remove" (fun x vs H Q => ∃ (l : Addr) (ns : List Str) (k : Str) (j : Nat), x = .ref l ∧ vs = [.str k] ∧ H l = some (.lst (ns.map V.str)) ∧ ns[j]? = some k ∧ (∀ i, i < j → ns[i]? ≠ some k) ∧ Q .non (upd H l (.lst ((ns.eraseIdx j).map V.str)))) := by
  intro pins s σ H x v vs us Q I rx rv h
  obtain ⟨l, ns, k, j, rfl, rfl, hH, hj, hno, q⟩ := h
  cases rx
  obtain ⟨u, rfl, ru⟩ := vals1 rv
  obtain ⟨t, rfl⟩ := (show ∃ t, u = Value.str k t from ru)
  obtain ⟨z, its, n, r, hl, e0⟩ := I.lstM hH
  have hnl : ns.length = its.length := by rw [← hl, List.length_map]
  have hsz : its.toArray.size ≤ sizeLine := by rw [List.size_toArray, ← hl]; exact z
  have hj1 : j < its.length := by rw [← hnl]; exact (List.getElem?_eq_some_iff.mp hj).1
  have heq : ∀ y, y ∈ its → MeetsSeq.EqGives y (.str k t) (isTxt k y) := fun y hy => by
    obtain ⟨i, hi, e⟩ := List.getElem_of_mem hy
    obtain ⟨x, t', ht, hx⟩ := txt_at (k := k) r i hi
    rw [← e, ht]
    exact SeqRoads2.EqGives.str x k t' t
  have str_eq : ∀ x : Str, (x.cps.toList == k.cps.toList) = true → x = k := fun x e => by
    have e := eq_of_beq e
    cases x; cases k
    simp only [Str.mk.injEq]
    exact Array.toList_inj.mp e
  refine call_meets PySem.F.slot_list_remove ⟨_, e0, rfl⟩ PySem.F.entry_list_remove (PySem.F.args_list_remove_2 _ _)
    (MeetsSeq.list_remove l its.toArray n (.str k t) (isTxt k) (fun y hy => heq y (by simpa using hy)) j (by rw [List.size_toArray]; exact hj1) ?hit (fun i hi2 hlt => ?hno) hsz) ⟨e0, ?_⟩
  case hit =>
    show isTxt k its[j] = true
    obtain ⟨x, t', ht, hx⟩ := txt_at (k := k) r j hj1
    rw [hj] at hx
    cases hx
    rw [ht]
    exact beq_self_eq_true _
  case hno =>
    have hi3 : i < its.length := by rw [List.size_toArray] at hi2; exact hi2
    show isTxt k its[i] = false
    rw [Bool.eq_false_iff]
    intro w
    obtain ⟨x, t', ht, hx⟩ := txt_at (k := k) r i hi3
    rw [ht] at w
    rw [str_eq x w] at hx
    exact hno i hlt hx
  have r2 : Vals ((ns.eraseIdx j).map V.str) (its.eraseIdx j) := by
    have w := r.eraseIdx j
    have e : ∀ (ns : List Str) (j : Nat), (ns.map V.str).eraseIdx j = (ns.eraseIdx j).map V.str := fun ns => by
      induction ns with
      | nil => intro j; rfl
      | cons a b ih =>
        intro j
        cases j with
        | zero => rfl
        | succ j => simp only [List.map_cons, List.eraseIdx_cons_succ, ih]
    rwa [e] at w
  refine ⟨.non, _, I.lset (its' := its.eraseIdx j) hH e0 ?_ r2 ?_, rfl, q⟩
  · show its.toArray.eraseIdxIfInBounds j = (its.eraseIdx j).toArray
    rw [List.eraseIdxIfInBounds_toArray]
  · rw [List.length_map]
    have := List.length_eraseIdx_le ns j
    rw [List.length_map] at z
    omega
theorem mt_updD : MtR X "dict.update" (fun x vs H Q => ∃ (d o : Addr) (kvs more : List (Key × V)), x = .ref d ∧ vs = [.ref o] ∧ H d = some (.dK kvs) ∧ H o = some (.dK more) ∧ d ≠ o ∧ kvs.length + more.length ≤ sizeLine ∧ Q .non (upd H d (.dK (mergeK kvs more)))) := by
  intro pins s σ H x v vs us Q I rx rv h
  obtain ⟨d, o, kvs, more, rfl, rfl, hd, ho, hne, hsz, q⟩ := h
  cases rx
  obtain ⟨u, rfl, ru⟩ := vals1 rv
  cases ru
  obtain ⟨z1, l1, vs1, rel1, dd1⟩ := dk_of I.hok hd
  obtain ⟨z2, l2, vs2, rel2, dd2⟩ := dk_of I.hok ho
  refine call_meetsIn PySem.F.slot_dict_update dd1.typeIs PySem.F.entry_dict_update (PySem.F.args_dict_update_2 _ _) (meets_dict_update (mixKind X.prog X.w) d o hne l2)
    ⟨vs1, vs2, dd1, dd2, (by rw [← rel1.length, ← rel2.length]; exact hsz), fun h' hmm _ hs => ?_⟩
  have hl : (mergeK kvs more).length ≤ sizeLine := Nat.le_trans (length_mergeK more kvs) hsz
  have he : ∃ q, h'.get? d = some q := let ⟨q, _, _, hq, _⟩ := hmm; ⟨q, hq⟩
  exact ⟨.non, _, d_write I (by rw [hd]; exact True.intro) hs he (dk_new hl l1 (KV.merge rel2 rel1) hmm), rfl, q⟩
end
section
variable {X : Cx} {e a b c : Expr} {es : List Expr} {G : Gs} {mu mu' : Mu} {pos p apos cpos : Pos} {P : PW1}
abbrev insW (w : W) (ws : List W) (mu : Mu) (P : PW1) : Prop := match w, ws with | .m a, [.int i, y] => ∃ us, mu a = some (.lst us) ∧ us.length < sizeLine ∧ 0 ≤ i ∧ i < 2 ^ 63 ∧ P .non (setM mu a (.lst (us.take i.toNat ++ [y] ++ us.drop i.toNat))) | _, _ => False
theorem ins_w : MtW X (fun x vs H Q => ∃ (l : Addr) (xs : List V) (i : Int) (y : V), x = .ref l ∧ vs = [.int i, y] ∧ H l = some (.lst xs) ∧ xs.length < sizeLine ∧ 0 ≤ i ∧ i < 2 ^ 63 ∧ Q .non (upd H l (.lst (xs.take i.toNat ++ [y] ++ xs.drop i.toNat)))) insW := fun w ws v vs mu H P Q dv dvs m h k => by
  unfold insW at h
  split at h
  · rename_i aa i y
    obtain ⟨us, e, hl, h0, h1, q⟩ := h
    obtain ⟨i', y', rfl, di, dy⟩ := dvs.two
    have di : i' = .int i := di
    have dv : v = .ref aa := dv
    subst dv di
    obtain ⟨xs, hx, dx⟩ := m aa _ e
    obtain ⟨c2, m2⟩ := wrote (o := .lst (xs.take i.toNat ++ [y'] ++ xs.drop i.toNat)) (c := .lst (us.take i.toNat ++ [y] ++ us.drop i.toNat)) m e (newLst (DenAll.append (DenAll.append (DenAll.take _ dx) ⟨y', [], rfl, dy, rfl⟩) (DenAll.drop _ dx)))
    exact ⟨aa, xs, i, y', rfl, rfl, hx, by rw [← dx.length]; exact hl, h0, h1, k _ _ _ _ q c2 rfl m2⟩
  · exact h.elim
theorem se_insert (h : SE X a G mu fun w mu1 => match w with | .m aa => (∃ ws, mu1 aa = some (.lst ws)) ∧ SA X [e, b] G mu1 fun ws mu2 => insW (.m aa) ws mu2 P | _ => False)
    (hb : attributeBase a "insert" X.env (eval a X.env) = eval a X.env := by rfl) (hq : (((backTo cpos (starEach [e, b] X.env)).all fun x => !x.1) && (backToKw cpos (keywordEach [] X.env)).all (fun x => x.1.isSome) && decide (([e, b].length + ([] : List Keyword).length + if ([] : List Keyword).isEmpty = true then 0 else 1) < 30)) = true := by rfl)
    (hl : (apos.endLine == cpos.line) = true := by rfl) (he : starEach [e, b] X.env = (false, eval e X.env) :: starEach [b] X.env := by rfl) (hpl : (backTo cpos (starEach [b] X.env)).any (·.1) = false := by rfl) : SE X (.Call (.Attribute a "insert" apos) [e, b] [] cpos) G mu P :=
  se_lm PySem.F.slot_list_insert PySem.F.type_list_insert mt_insert ins_w h hb hq hl he hpl
abbrev remW (w : W) (ws : List W) (mu : Mu) (P : PW1) : Prop := match w, ws with | .m a, [.str k] => ∃ (ns : List Str) (j : Nat), mu a = some (.lst (ns.map W.str)) ∧ ns[j]? = some k ∧ (∀ i, i < j → ns[i]? ≠ some k) ∧ P .non (setM mu a (.lst ((ns.eraseIdx j).map W.str))) | _, _ => False
theorem rem_w : MtW X (fun x vs H Q => ∃ (l : Addr) (ns : List Str) (k : Str) (j : Nat), x = .ref l ∧ vs = [.str k] ∧ H l = some (.lst (ns.map V.str)) ∧ ns[j]? = some k ∧ (∀ i, i < j → ns[i]? ≠ some k) ∧ Q .non (upd H l (.lst ((ns.eraseIdx j).map V.str)))) remW := fun w ws v vs mu H P Q dv dvs m h k => by
  unfold remW at h
  split at h
  · rename_i aa y
    obtain ⟨ns, j, e, hj, hno, q⟩ := h
    obtain ⟨y', rfl, dy⟩ := dvs.one
    have dy : y' = .str y := dy
    have dv : v = .ref aa := dv
    subst dv dy
    obtain ⟨xs, hx, dx⟩ := m aa _ e
    have ex := denAll_txt dx
    subst ex
    obtain ⟨c2, m2⟩ := wrote (o := .lst ((ns.eraseIdx j).map V.str)) (c := .lst ((ns.eraseIdx j).map W.str)) m e (newLst (den_strs _))
    exact ⟨aa, ns, y, j, rfl, rfl, hx, hj, hno, k _ _ _ _ q c2 rfl m2⟩
  · exact h.elim
theorem se_remove (h : SE X a G mu fun w mu1 => match w with | .m aa => (∃ ws, mu1 aa = some (.lst ws)) ∧ SA X [e] G mu1 fun ws mu2 => remW (.m aa) ws mu2 P | _ => False)
    (hb : attributeBase a "remove" X.env (eval a X.env) = eval a X.env := by rfl) (hq : (((backTo cpos (starEach [e] X.env)).all fun x => !x.1) && (backToKw cpos (keywordEach [] X.env)).all (fun x => x.1.isSome) && decide (([e].length + ([] : List Keyword).length + if ([] : List Keyword).isEmpty = true then 0 else 1) < 30)) = true := by rfl)
    (hl : (apos.endLine == cpos.line) = true := by rfl) (he : starEach [e] X.env = (false, eval e X.env) :: starEach [] X.env := by rfl) (hpl : (backTo cpos (starEach [] X.env)).any (·.1) = false := by rfl) : SE X (.Call (.Attribute a "remove" apos) [e] [] cpos) G mu P :=
  se_lm PySem.F.slot_list_remove PySem.F.type_list_remove mt_removeT rem_w h hb hq hl he hpl
def mergeW (kvs more : List (Key × W)) : List (Key × W) := more.foldl (fun acc kv => putW acc kv.1 kv.2) kvs
theorem dkv_merge {K : PySem.W.Frag} {H : Hp} : ∀ {more : List (Key × W)} {ms : List (Key × V)} {kvs : List (Key × W)} {vs : List (Key × V)}, (kvs.map (·.1)).Nodup → DKV K H kvs vs → DKV K H more ms → DKV K H (mergeW kvs more) (mergeK vs ms) ∧ ((mergeW kvs more).map (·.1)).Nodup
  | [], ms, kvs, vs, hn, d, dm => by
    rw [dm.nil]
    exact ⟨d, hn⟩
  | (j, u) :: more, ms, kvs, vs, hn, d, dm => by
    obtain ⟨v, vs', rfl, d1, d2⟩ := dm.cons
    show DKV K H (mergeW (putW kvs j u) more) (mergeK (putK vs j v) vs') ∧ ((mergeW (putW kvs j u) more).map (·.1)).Nodup
    exact dkv_merge (putW_nodup hn) (d.put hn d1) d2
abbrev updW (w : W) (ws : List W) (mu : Mu) (P : PW1) : Prop := match w, ws with | .m a, [.m o] => ∃ kvs more, isDic mu a kvs ∧ mu o = some (.dic more) ∧ a ≠ o ∧ kvs.length + more.length ≤ sizeLine ∧ P .non (setM mu a (.dic (mergeW kvs more))) | _, _ => False
theorem upd_w : MtW X (fun x vs H Q => ∃ (d o : Addr) (kvs more : List (Key × V)), x = .ref d ∧ vs = [.ref o] ∧ H d = some (.dK kvs) ∧ H o = some (.dK more) ∧ d ≠ o ∧ kvs.length + more.length ≤ sizeLine ∧ Q .non (upd H d (.dK (mergeK kvs more)))) updW := fun w ws v vs mu H P Q dv dvs m h k => by
  unfold updW at h
  split at h
  · rename_i aa oo
    obtain ⟨kvs, more, ⟨e, hn⟩, e2, hne, hl, q⟩ := h
    obtain ⟨y', rfl, dy⟩ := dvs.one
    have dy : y' = .ref oo := dy
    have dv : v = .ref aa := dv
    subst dv dy
    obtain ⟨vs, hx, dk⟩ := m aa _ e
    obtain ⟨ms, hy, dm⟩ := m oo _ e2
    have dk : DKV X.K H kvs vs := dk
    have dm : DKV X.K H more ms := dm
    have l1 := congrArg List.length dk.1
    have l2 := congrArg List.length dm.1
    simp only [List.length_map] at l1 l2
    obtain ⟨c2, m2⟩ := wrote (o := .dK (mergeK vs ms)) (c := .dic (mergeW kvs more)) m e (newDic (dkv_merge hn dk dm).1)
    exact ⟨aa, oo, vs, ms, rfl, rfl, hx, hy, hne, by omega, k _ _ _ _ q c2 rfl m2⟩
  · exact h.elim
theorem se_update (h : SE X a G mu fun w mu1 => match w with | .m aa => (∃ kvs, mu1 aa = some (.dic kvs)) ∧ SA X [e] G mu1 fun ws mu2 => updW (.m aa) ws mu2 P | _ => False)
    (hb : attributeBase a "update" X.env (eval a X.env) = eval a X.env := by rfl) (hq : (((backTo cpos (starEach [e] X.env)).all fun x => !x.1) && (backToKw cpos (keywordEach [] X.env)).all (fun x => x.1.isSome) && decide (([e].length + ([] : List Keyword).length + if ([] : List Keyword).isEmpty = true then 0 else 1) < 30)) = true := by rfl)
    (hl : (apos.endLine == cpos.line) = true := by rfl) (he : starEach [e] X.env = (false, eval e X.env) :: starEach [] X.env := by rfl) (hpl : (backTo cpos (starEach [] X.env)).any (·.1) = false := by rfl) : SE X (.Call (.Attribute a "update" apos) [e] [] cpos) G mu P :=
  SE.mk (pe_bm PySem.F.plainAttrs_dict PySem.F.slot_dict_update PySem.F.type_dict_update mt_updD peE paA hb hq hl he hpl) fun σ H Q d m k => h σ H _ d m fun v w mu1 H1 h1 c1 d1 m1 => by
    cases w with
    | m aa =>
      obtain ⟨⟨kvs, e0⟩, h2⟩ := h1
      have d1 : v = .ref aa := d1
      subst d1
      obtain ⟨xs, hx, dx⟩ := m1 aa _ e0
      exact ⟨.inr (.inr (.inl ⟨rfl, .inl ⟨xs, hx⟩⟩)), h2 σ H1 _ (c1.denG m d) m1 fun vs ws' mu2 H2 h3 c2 d2 m2 => upd_w (.m aa) _ _ _ _ _ _ _ rfl d2 m2 h3 (k.step (c1.trans c2))⟩
    | _ => exact False.elim h1
theorem ss_par3 {i j l : Nat} {x y z : Str} {px py pz pt : Pos} {kt k2 : Nat} {pt2 : Pos} {E : WE} (h : SE X a G mu fun w mu1 => SE X b G mu1 fun w2 mu2 => SE X c G mu2 fun w3 mu3 => E.nx (((G.set i (some w)).set j (some w2)).set l (some w3)) mu3) (hc : X.calm = true) (hN : X.N.Nodup) (hij : i ≠ j) (hil : i ≠ l) (hjl : j ≠ l)
    (hsw : swappedStores [.Tuple [.Name x px, .Name y py, .Name z pz] kt pt] (.Tuple [a, b, c] k2 pt2) X.env = pure (some [x, y, z])) (hi : X.N[i]? = some x := by rfl) (hj : X.N[j]? = some y := by rfl) (hl : X.N[l]? = some z := by rfl) (hx : X.env.scope.names.lookup x = some .local := by rfl) (hy : X.env.scope.names.lookup y = some .local := by rfl) (hz : X.env.scope.names.lookup z = some .local := by rfl)
    (hs : starEach [a, b, c] X.env = (false, eval a X.env) :: starEach [b, c] X.env := by rfl) (hs2 : starEach [b, c] X.env = (false, eval b X.env) :: starEach [c] X.env := by rfl) (hs3 : starEach [c] X.env = [(false, eval c X.env)] := by rfl) (hso : swapsWithSole [.Tuple [.Name x px, .Name y py, .Name z pz] kt pt] (.Tuple [a, b, c] k2 pt2) pos.line X.env = pure false := by rfl) :
    SS X (.Assign [.Tuple [.Name x px, .Name y py, .Name z pz] kt pt] (.Tuple [a, b, c] k2 pt2) pos) G mu E :=
  SS.mk (ps_par3 hc hN hi hj hl hij hil hjl hx hy hz (pa_cons peE (pa_cons peE (pa_cons peE pa_nil hs3) hs2) hs) hsw hso) fun σ H D d m k => h σ H _ d m fun v w mu1 H1 h1 c1 d1 m1 => h1 σ H1 _ (c1.denG m d) m1 fun v2 w2 mu2 H2 h2 c2 d2 m2 => h2 σ H2 _ ((c1.trans c2).denG m d) m2 fun v3 w3 mu3 H3 h3 c3 d3 m3 =>
    ⟨v, v2, v3, rfl, k.nx _ _ _ _ h3 ((c1.trans c2).trans c3) (DenG.set (DenG.set (DenG.set (((c1.trans c2).trans c3).denG m d) ((c2.trans c3).den m1 d1)) (c3.den m2 d2)) d3) m3⟩
end
end Dv
set_option Elab.async false
set_option linter.all false
set_option maxRecDepth 100000
/-! k10: cells that are followed; facts. -/
namespace K1
open PySem L2 Dv PySem.W PyProof.Rows
theorem se_neg {X : Cx} {a : Expr} {G : Gs} {mu : Mu} {pos : Pos} {P : PW1} (h : SE X a G mu fun w mu1 => match w with | .int i => P (.int (-i)) mu1 | _ => False) : SE X (.UnaryOp .USub a pos) G mu P :=
  SE.mk (pe_un un_neg peE) fun σ H Q d m k => h σ H _ d m fun v w mu1 H1 h1 c1 d1 m1 => by
    cases w with
    | int i => exact ⟨i, d1, k _ _ _ _ h1 c1 rfl m1⟩
    | _ => exact False.elim h1
/-- cells made since mu0, none of them the jar -/
structure Live (mu0 mu : Mu) (p : Addr) (c : Nat) (l : List (Addr × C)) : Prop where
  jar : JarOk mu p c
  cell : ∀ q ∈ l, mu q.1 = some q.2 ∧ q.1 ≠ p ∧ mu0 q.1 = none
  nd : (l.map (·.1)).Nodup
  ex : ExtBut p mu0 mu
theorem Live.zero {mu0 : Mu} {p : Addr} {c : Nat} (j : JarOk mu0 p c) : Live mu0 mu0 p c [] := ⟨j, fun q hq => (by cases hq), by simp, ExtBut.refl⟩
section
variable {mu0 mu mu' : Mu} {p a : Addr} {c c' : Nat} {l : List (Addr × C)} {x y : C}
theorem Live.at (L : Live mu0 mu p c l) (i : Nat) (h : l[i]? = some (a, x)) : mu a = some x := (L.cell _ (List.mem_of_getElem? h)).1
theorem Live.ne (L : Live mu0 mu p c l) (i : Nat) (h : l[i]? = some (a, x)) : a ≠ p := (L.cell _ (List.mem_of_getElem? h)).2.1
theorem Live.fresh (L : Live mu0 mu p c l) (h : mu a = none) : mu0 a = none ∧ a ≠ p := by
  have ap : a ≠ p := Ne.symm (L.jar.ne h)
  refine ⟨?_, ap⟩
  cases e : mu0 a with
  | none => rfl
  | some z => rw [L.ex _ _ ap e] at h; cases h
theorem Live.new (L : Live mu0 mu p c l) (h : mu a = none) (x : C) : Live mu0 (setM mu a x) p c (l ++ [(a, x)]) := by
  obtain ⟨f0, ap⟩ := L.fresh h
  have na : ∀ q ∈ l, q.1 ≠ a := fun q hq z => by rw [← z, (L.cell q hq).1] at h; cases h
  refine ⟨L.jar.set (Ne.symm ap), fun q hq => ?_, ?_, L.ex.setNew h⟩
  · rcases List.mem_append.mp hq with z | z
    · rw [setM_ne (na q z)]
      exact L.cell q z
    · rw [List.mem_singleton.mp z]
      exact ⟨setM_same, ap, f0⟩
  · rw [List.map_append, List.nodup_append]
    refine ⟨L.nd, by simp, fun b hb d hd e => ?_⟩
    obtain ⟨q, hq, rfl⟩ := List.mem_map.mp hb
    rw [List.map_cons, List.map_nil, List.mem_singleton] at hd
    exact na q hq (e.trans hd)
theorem Live.step (L : Live mu0 mu p c l) (e : ExtBut p mu mu') (j : JarOk mu' p c') : Live mu0 mu' p c' l :=
  ⟨j, fun q hq => ⟨e _ _ (L.cell q hq).2.1 (L.cell q hq).1, (L.cell q hq).2⟩, L.nd, L.ex.trans e⟩
theorem Live.ext (L : Live mu0 mu p c l) (e : Ext mu mu') : Live mu0 mu' p c l := L.step (Ext.but e) (L.jar.ext e)
theorem Live.mono (L : Live mu0 mu p c l) (h : c ≤ c') : Live mu0 mu p c' l := ⟨L.jar.mono h, L.cell, L.nd, L.ex⟩
theorem Live.sub {l' : List (Addr × C)} (L : Live mu0 mu p c l) (h : l'.Sublist l) : Live mu0 mu p c l' := ⟨L.jar, fun q hq => L.cell q (h.subset hq), (h.map _).nodup L.nd, L.ex⟩
theorem set_map {l : List (Addr × C)} {i : Nat} (h : l[i]? = some (a, x)) (y : C) : (l.set i (a, y)).map (·.1) = l.map (·.1) := by
  rw [List.map_set]
  have : (l.map (·.1))[i]? = some a := by rw [List.getElem?_map, h]; rfl
  exact List.ext_getElem? fun j => by
    rw [List.getElem?_set]
    by_cases z : i = j
    · subst z
      rw [if_pos rfl, if_pos (List.getElem?_eq_some_iff.mp this).1, this]
    · rw [if_neg z]
theorem Live.put (L : Live mu0 mu p c l) (i : Nat) (h : l[i]? = some (a, x)) (y : C) : Live mu0 (setM mu a y) p c (l.set i (a, y)) := by
  have ha := L.cell _ (List.mem_of_getElem? h)
  have sm := set_map h y
  refine ⟨L.jar.set (Ne.symm ha.2.1), fun q hq => ?_, by rw [sm]; exact L.nd, L.ex.own ha.2.2⟩
  obtain ⟨j, hj⟩ := List.getElem?_of_mem hq
  rw [List.getElem?_set] at hj
  by_cases z : i = j
  · subst z
    rw [if_pos rfl, if_pos (List.getElem?_eq_some_iff.mp h).1] at hj
    cases hj
    exact ⟨setM_same, ha.2⟩
  · rw [if_neg z] at hj
    have hq2 := L.cell q (List.mem_of_getElem? hj)
    have ne : q.1 ≠ a := fun e => by
      have h1 : (l.map (·.1))[j]? = some a := by rw [List.getElem?_map, hj]; exact congrArg some e
      have h2 : (l.map (·.1))[i]? = some a := by rw [List.getElem?_map, h]; rfl
      exact z ((List.getElem?_inj (List.getElem?_eq_some_iff.mp h2).1 L.nd).mp (h2.trans h1.symm))
    rw [setM_ne ne]
    exact hq2
end
theorem setM_none {mu : Mu} {a b : Addr} {c : C} (h : setM mu a c b = none) : b ≠ a ∧ mu b = none := by
  by_cases z : b = a
  · rw [z, setM_same] at h; cases h
  · exact ⟨z, by rwa [setM_ne z] at h⟩
/-- of two patterns that differ one is less -/
theorem toks_pr (q : Str × Str) : PySem.W.keyToks (dat (prW q)) = [.inl 1, .inr q.1.cps.toList, .inl 1, .inr q.2.cps.toList, .inl 0] := by
  simp [prW, dat, dats, PySem.W.keyToks, PySem.W.keyToksAll]
theorem toks_inj : ∀ {p q : Pat}, PySem.W.keyToksAll (dats (p.map prW)) = PySem.W.keyToksAll (dats (q.map prW)) → p = q
  | [], [], _ => rfl
  | [], y :: q, h => by simp [dats, PySem.W.keyToksAll] at h
  | x :: p, [], h => by simp [dats, PySem.W.keyToksAll] at h
  | x :: p, y :: q, h => by
    simp only [List.map_cons, dats, PySem.W.keyToksAll, toks_pr, List.cons_append, List.nil_append, List.cons.injEq, Sum.inr.injEq, true_and] at h
    obtain ⟨h1, h2, h3⟩ := h
    rw [toks_inj h3, Prod.ext (PySem.W.str_of_cps h1) (PySem.W.str_of_cps h2)]
theorem pt_apart {p q : Pat} (h : p ≠ q) : ltD (ptW p, ptW q) = true ∨ ltD (ptW q, ptW p) = true := by
  show PySem.W.dataLt (dat (ptW p)) (dat (ptW q)) = true ∨ PySem.W.dataLt (dat (ptW q)) (dat (ptW p)) = true
  unfold ptW
  simp only [dat]
  rw [PySem.W.dataLt_tuple, PySem.W.dataLt_tuple]
  rcases hb : PyProof.Rows.lexLt itemOrd (PySem.W.keyToksAll (dats (p.map prW))) (PySem.W.keyToksAll (dats (q.map prW))) with _ | _
  · rcases hc : PyProof.Rows.lexLt itemOrd (PySem.W.keyToksAll (dats (q.map prW))) (PySem.W.keyToksAll (dats (p.map prW))) with _ | _
    · exact absurd (toks_inj (lex_total (O := itemOrd) _ _ hb hc)) h
    · exact .inr rfl
  · exact .inl rfl
theorem sort_pts {ps : List Pat} (h : ∀ p ∈ ps, p ≠ []) : PySem.W.AllAlike (ps.map fun p => dat (ptW p)) ∧ PySem.W.Sortable (ps.map fun p => dat (ptW p)) := by
  refine ⟨fun d hd d' hd' => ?_, .inl fun d hd => ?_⟩
  · obtain ⟨p, _, rfl⟩ := List.mem_map.mp hd
    obtain ⟨q, _, rfl⟩ := List.mem_map.mp hd'
    exact alike_pt p q
  · obtain ⟨p, hp, rfl⟩ := List.mem_map.mp hd
    have := h p hp
    cases p with
    | nil => exact absurd rfl this
    | cons q p => exact ⟨_, _, rfl⟩
theorem put_same {kvs : List (Key × W)} {k : Key} {w : W} : valW (putW kvs k w) k = some w := by rw [valW_put, if_pos rfl]
theorem put_ne {kvs : List (Key × W)} {k j : Key} {w : W} {u : Option W} (hne : ¬ k = j) (h : valW kvs j = u) : valW (putW kvs k w) j = u := by rw [valW_put, if_neg hne]; exact h
theorem val_hit {kvs : List (Key × W)} {k : Key} {w : W} : valW ((k, w) :: kvs) k = some w := if_pos rfl
theorem val_miss {kvs : List (Key × W)} {k j : Key} {w : W} {u : Option W} (h : ¬ j = k) (e : valW kvs k = u) : valW ((j, w) :: kvs) k = u := (if_neg h).trans e
theorem sort_sts {ns : List Str} : plsW (stW ns) = true ∧ PySem.W.AllAlike (dats (stW ns)) ∧ PySem.W.Sortable (dats (stW ns)) ∧ ∀ u ∈ stW ns, (dat u).depth ≤ 64 := by
  have each : ∀ d ∈ dats (stW ns), ∃ x, d = .str x := fun d hd => by
    obtain ⟨u, hu, rfl⟩ := mem_dats.mp hd
    obtain ⟨x, _, rfl⟩ := List.mem_map.mp hu
    exact ⟨x, rfl⟩
  refine ⟨plains_map _ plain_str ns, fun d hd d' hd' => ?_, .inr fun d hd => ?_, fun u hu => ?_⟩
  · obtain ⟨x, rfl⟩ := each d hd
    obtain ⟨y, rfl⟩ := each d' hd'
    simp [PySem.W.alike]
  · obtain ⟨x, rfl⟩ := each d hd
    exact ⟨by simp, by simp⟩
  · obtain ⟨x, _, rfl⟩ := List.mem_map.mp hu
    simp [dat, PyData.depth]
theorem sIx_pos {n d : Nat} {i : Int} (h : 0 ≤ i) : HT.sIx n d (some i) = min i.toNat n := by
  obtain ⟨k, rfl⟩ : ∃ k : Nat, i = k := ⟨i.toNat, by omega⟩
  rw [HT.sIx_nat, Int.toNat_natCast]
theorem cut_to {us : List W} {i : Int} (h : 0 ≤ i) : cutW us none (some i) = us.take i.toNat := by
  unfold cutW
  rw [sIx_pos h, HT.sIx_none, Nat.sub_zero, List.drop_zero]
  exact (List.take_eq_take_min ..).symm
theorem cut_mid {us : List W} {i j : Int} (hi : 0 ≤ i) (hl : i.toNat ≤ us.length) (hj : 0 ≤ j) : cutW us (some i) (some j) = (us.drop i.toNat).take (j.toNat - i.toNat) := by
  unfold cutW
  rw [sIx_pos hi, sIx_pos hj, Nat.min_eq_left hl]
  rw [List.take_eq_take_min (i := j.toNat - i.toNat), List.length_drop]
  congr 1
  omega
theorem st_take (ns : List Str) (n : Nat) : (stW ns).take n = stW (ns.take n) := by unfold stW; rw [List.map_take]
theorem st_drop (ns : List Str) (n : Nat) : (stW ns).drop n = stW (ns.drop n) := by unfold stW; rw [List.map_drop]
end K1
set_option Elab.async false
set_option linter.all false
set_option maxRecDepth 100000
/-! k10: the law's world, as data. -/
namespace K1
open PySem L2 Dv
/-- patterns in ascending order -/
def asPts (ps : List Pat) : List Pat := ps.mergeSort fun a b => leW (ptW a) (ptW b)
theorem asPts_perm (ps : List Pat) : (asPts ps).Perm ps := List.mergeSort_perm _ _
theorem asPts_sort (ps : List Pat) : (ps.map ptW).mergeSort leW = (asPts ps).map ptW := sorted_map ptW ps
theorem asPts_up {ps : List Pat} (nd : ps.Nodup) : rising ((asPts ps).map ptW) = true := by
  have h1 := sorted_up ptW (l := ps) (List.Pairwise.imp (fun {a b} hne => pt_apart hne) nd)
  refine rising_of ?_
  rw [List.pairwise_map]
  exact h1
theorem asPat_sort (p : Pat) : (p.map prW).mergeSort leW = (asPat p).map prW := sorted_map prW p
structure SW (hs : List Str) (ss : List Slot) (a3 a4 a8 a9 : Str) : Prop where
  ok : SsOk hs ss
  one : ∃ h, (a8, h, [a3, a4]) ∈ ss
  two : ∃ h, (a9, h, [a3, a4]) ∈ ss
  ne : a8 ≠ a9
  nw : a3 ≠ a4
  three : ss.length ≤ 3
def twoS (h0 h1 a3 a4 a8 a9 : Str) : List Slot := [(a8, h0, [a3, a4]), (a9, h1, [a3, a4])]
def threeS (i : Nat) (h0 h1 a3 a4 a8 a9 a10 h3 : Str) (fr : List Str) : List Slot := (twoS h0 h1 a3 a4 a8 a9).take i ++ [(a10, h3, fr)] ++ (twoS h0 h1 a3 a4 a8 a9).drop i
theorem slok_two {hs : List Str} {h a3 a4 a : Str} (hh : h ∈ hs) (n3 : NmOk a3) (n4 : NmOk a4) (n : NmOk a) (ne : a3 ≠ a4) : SlOk hs (a, h, [a3, a4]) :=
  ⟨n, hh, by show 2 ≤ 2; decide, by show 2 ≤ 4; decide, fun w hw => by
    simp only [List.mem_cons, List.not_mem_nil, or_false] at hw
    rcases hw with rfl | rfl <;> assumption, by simp [ne]⟩
theorem sw_two {hs : List Str} {h0 h1 a3 a4 a8 a9 : Str} (m0 : h0 ∈ hs) (m1 : h1 ∈ hs) (n3 : NmOk a3) (n4 : NmOk a4) (n8 : NmOk a8) (n9 : NmOk a9) (ne : a8 ≠ a9) (nw : a3 ≠ a4) : SW hs (twoS h0 h1 a3 a4 a8 a9) a3 a4 a8 a9 where
  ok := ⟨by show 1 ≤ 2; decide, by show 2 ≤ 6; decide, fun s hs' => by
    unfold twoS at hs'
    simp only [List.mem_cons, List.not_mem_nil, or_false] at hs'
    rcases hs' with rfl | rfl
    · exact slok_two m0 n3 n4 n8 nw
    · exact slok_two m1 n3 n4 n9 nw, by simp [twoS, ne], by show 4 ≤ 32; decide⟩
  one := ⟨h0, by simp [twoS]⟩
  two := ⟨h1, by simp [twoS]⟩
  ne := ne
  nw := nw
  three := by show 2 ≤ 3; decide
theorem many_app (a b : List Slot) : manyS (a ++ b) = manyS a * manyS b := by
  induction a with
  | nil => simp [manyS]
  | cons x a ih => simp only [List.cons_append, manyS, ih, Nat.mul_assoc]
theorem sw_three {hs : List Str} {i : Nat} {h0 h1 a3 a4 a8 a9 a10 h3 : Str} {fr : List Str} (hi : i ≤ 2) (W0 : SW hs (twoS h0 h1 a3 a4 a8 a9) a3 a4 a8 a9) (k : SlOk hs (a10, h3, fr)) (e8 : a10 ≠ a8) (e9 : a10 ≠ a9) : SW hs (threeS i h0 h1 a3 a4 a8 a9 a10 h3 fr) a3 a4 a8 a9 := by
  have f4 := k.hi
  have f4 : fr.length ≤ 4 := f4
  have hi' : i = 0 ∨ i = 1 ∨ i = 2 := by omega
  have e8' := Ne.symm e8
  have e9' := Ne.symm e9
  have ne := W0.ne
  have mem : ∀ s, s ∈ threeS i h0 h1 a3 a4 a8 a9 a10 h3 fr ↔ s = (a10, h3, fr) ∨ s ∈ twoS h0 h1 a3 a4 a8 a9 := fun s => by
    rcases hi' with rfl | rfl | rfl <;> simp [threeS, twoS, or_comm, or_assoc, or_left_comm]
  refine ⟨⟨?_, ?_, fun s hs' => ?_, ?_, ?_⟩, ?_, ?_, W0.ne, W0.nw, by rcases hi' with rfl | rfl | rfl <;> (show 3 ≤ 3; decide)⟩
  · rcases hi' with rfl | rfl | rfl <;> (show 1 ≤ 3; decide)
  · rcases hi' with rfl | rfl | rfl <;> (show 3 ≤ 6; decide)
  · rcases (mem s).mp hs' with rfl | z
    · exact k
    · exact W0.ok.each s z
  · rcases hi' with rfl | rfl | rfl <;> simp [threeS, twoS, ne, e8, e9, e8', e9']
  · have : manyS (threeS i h0 h1 a3 a4 a8 a9 a10 h3 fr) = 4 * fr.length := by
      rcases hi' with rfl | rfl | rfl <;> simp [threeS, twoS, manyS] <;> omega
    omega
  · obtain ⟨h, z⟩ := W0.one
    exact ⟨h, (mem _).mpr (.inr z)⟩
  · obtain ⟨h, z⟩ := W0.two
    exact ⟨h, (mem _).mpr (.inr z)⟩
def bearsW (a4 a8 a9 : Str) : List Pat := asPts [[(a8, a4)], [(a9, a4)]]
def neverW (a4 a8 a9 : Str) : List Pat := [asPat [(a8, a4), (a9, a4)]]
theorem rising_one (u : W) : rising [u] = true := rfl
theorem sw_world {hs : List Str} {ss : List Slot} {a3 a4 a8 a9 : Str} {ls : List Lap} (ho : HsOk hs) (S : SW hs ss a3 a4 a8 a9) (hl : ls.length ≤ 4) (each : ∀ l ∈ ls, LpOk ss l) : WdOk ⟨hs, ss, bearsW a4 a8 a9, neverW a4 a8 a9, ls⟩ := by
  obtain ⟨h0, m0⟩ := S.one
  obtain ⟨h1, m1⟩ := S.two
  have p8 : PrOk ss (a8, a4) := ⟨_, m0, rfl, by simp⟩
  have p9 : PrOk ss (a9, a4) := ⟨_, m1, rfl, by simp⟩
  have aw8 : ∀ fs : Pat, (a8, a4) ∈ fs → Away ss fs := fun fs h => ⟨(a8, a4), h, _, m0, rfl, by simp⟩
  have aw9 : ∀ fs : Pat, (a9, a4) ∈ fs → Away ss fs := fun fs h => ⟨(a9, a4), h, _, m1, rfl, by simp⟩
  have bp := asPts_perm [[(a8, a4)], [(a9, a4)]]
  refine ⟨ho, S.ok, psOk_of S.ok (fun p hp => ?_) ?_ ?_, ?_, psOk_of S.ok (fun p hp => ?_) ?_ ?_, hl, each⟩
  · have := bp.mem_iff.mp hp
    simp only [List.mem_cons, List.not_mem_nil, or_false] at this
    rcases this with rfl | rfl
    · exact ⟨⟨fun q hq => by rw [List.mem_singleton.mp hq]; exact p8, rfl, by show 1 ≤ 6; decide⟩, aw8 _ (by simp)⟩
    · exact ⟨⟨fun q hq => by rw [List.mem_singleton.mp hq]; exact p9, rfl, by show 1 ≤ 6; decide⟩, aw9 _ (by simp)⟩
  · exact asPts_up (by simp [S.ne])
  · show (asPts _).length ≤ 10
    rw [bp.length_eq]
    show 2 ≤ 10
    decide
  · show asPts _ ≠ []
    intro z
    have := bp.length_eq
    rw [z] at this
    simp at this
  · have hp : p = asPat [(a8, a4), (a9, a4)] := List.mem_singleton.mp hp
    subst hp
    have pp := asPat_perm [(a8, a4), (a9, a4)]
    refine ⟨⟨fun q hq => ?_, asPat_up (by simp [S.ne]), by rw [pp.length_eq]; show 2 ≤ 6; decide⟩, aw8 _ (pp.mem_iff.mpr (by simp))⟩
    have := pp.mem_iff.mp hq
    simp only [List.mem_cons, List.not_mem_nil, or_false] at this
    rcases this with rfl | rfl
    · exact p8
    · exact p9
  · exact rising_one _
  · show 1 ≤ 10
    decide
theorem pt_one {ss : List Slot} {s : Slot} {x : Str} (hs : s ∈ ss) (hx : x ∈ s.2.2) : PtOk (ss.filter (atHome s.2.1)) [(s.1, x)] :=
  ⟨fun q hq => by
    rw [List.mem_singleton.mp hq]
    exact ⟨s, List.mem_filter.mpr ⟨hs, decide_eq_true rfl⟩, rfl, hx⟩, rfl, by show 1 ≤ 6; decide⟩
theorem pt_nil (ss : List Slot) : PtOk ss [] := ⟨fun q hq => (by cases hq), rfl, by show 0 ≤ 6; decide⟩
end K1
set_option Elab.async false
set_option linter.all false
set_option maxRecDepth 100000
namespace K1
open PySem L2 Dv
theorem bit01 (b : Bool) : (if b = true then (1 : Int) else 0).natAbs < 2 ^ 1 := by cases b <;> decide
theorem bitmul (b : Bool) {m A : Int} (h0 : 0 ≤ m) (h1 : m < A) : 0 ≤ m * (if b = true then (1 : Int) else 0) ∧ m * (if b = true then (1 : Int) else 0) < A := by
  cases b
  · simp; omega
  · simp; exact ⟨h0, h1⟩
section
variable {P : Program} {w : World} {K : PySem.W.Frag} {mg : Str → Option Value} {base : Heap}
abbrev s_Ljar : Stmt := top 68
theorem sc_Ljar : FnScope ["_law_script", "_law_k", "_law_cell", "_law_mine"] ["_law_script", "_law_k"] (defScope s_Ljar) := ⟨rfl, rfl, rfl, by decide +kernel, rfl, by decide +kernel, by decide +kernel⟩
def S_jar (a : Addr) : SpW := fun ws mu P => ∃ (k : Nat), ws = [.m a, .int ((k : Nat) : Int)] ∧ k ≤ 3 ∧ ∀ y mu', mu y = none → JarOk mu' y 0 → Ext mu mu' → P (.m y) mu'
theorem d_Ljar {a : Addr} {cells : List Int} (sc : Scr base a cells) (D : Dfn K mg "_law_jar" s_Ljar ["_law_script", "_law_k"]) (B : Bl mg) : DefOk P w K mg base "_law_jar" ["_law_script", "_law_k"] 1 (S_jar a) := by
  refine dfnOk D sc_Ljar (fun ws mu P ⟨k, e, _⟩ => by rw [e]; rfl) (fun f cdv A outer s H E hr ws mu Pt ⟨k, e, k3, h⟩ => ?_)
  subst e
  refine sss_cons ?_
  refine ss_asg ?_
  refine se_if ?_
  refine st_cmp op_lt cmpI_w (nomark _) ?_  -- _law_k < len(_law_script)
  refine se_var (i := 1) rfl ?_  -- _law_k
  refine se_lenB sc ?_ B.len
  refine se_var (i := 0) rfl ?_  -- _law_script
  refine ⟨rfl, ?_⟩
  have body : ∀ cell : Int, SSs (cxOf CX0 P w K mg base ["_law_script", "_law_k", "_law_cell", "_law_mine"] "_law_jar" (defScope s_Ljar) f cdv A outer s H E).nox ((defBody s_Ljar).tail) [some (.m a), some (.int (k : Int)), some (.int cell), none] mu { nx := fun _ mu' => Pt .non mu', rt := Pt } := fun cell => by
    refine sss_cons ?_
    refine ss_asg ?_
    refine se_bin op_Mult Mult_w ?_
    refine se_bin op_Mod Mod_w ?_
    refine se_intC ?_ B.int
    refine se_absC ?_ B.abs
    refine se_var (i := 2) rfl ?_  -- _law_cell
    refine ⟨cell, rfl, ?_⟩
    have hc : ∃ c, c = (if cell < 0 then -cell else cell) := ⟨_, rfl⟩
    obtain ⟨c, hc⟩ := hc
    rw [← hc]
    refine se_bin op_powW PowW_w ?_
    refine se_bin op_Pow Pow_w ?_
    refine se_int ?_  -- 10
    refine se_int ?_  -- 60
    refine ⟨⟨by decide, by decide, by decide⟩, ?_⟩
    refine se_int ?_  -- 5
    refine ⟨⟨by decide, by decide +kernel⟩, ?_⟩
    have e300 : (((10 : Int) ^ (60 : Int).toNat) ^ (5 : Int).toNat) = 10 ^ 300 := by decide +kernel
    rw [e300]
    have p300 : (0 : Int) < 10 ^ 300 := by decide +kernel
    refine ⟨p300, ?_⟩
    have m0 := Int.emod_nonneg c (Int.ne_of_gt p300)
    have m1 := Int.emod_lt_of_pos c p300
    have hm : ∃ m, m = c % 10 ^ 300 := ⟨_, rfl⟩
    obtain ⟨m, hm⟩ := hm
    rw [← hm] at m0 m1 ⊢
    refine se_intC ?_ B.int
    refine se_cmp op_ge cmpI_w (nomark _) ?_  -- abs(_law_cell) >= 10 ** 18
    refine se_absC ?_ B.abs
    refine se_var (i := 2) rfl ?_  -- _law_cell
    refine ⟨cell, rfl, ?_⟩
    refine se_bin op_Pow Pow_w ?_
    refine se_int ?_  -- 10
    refine se_int ?_  -- 18
    refine ⟨⟨by decide, by decide, by decide⟩, ?_⟩
    refine ⟨?_, ?_⟩
    · obtain ⟨n, rfl⟩ : ∃ n : Nat, m = n := ⟨m.toNat, by omega⟩
      have n1 : n < 10 ^ 300 := by
        have e : ((10 ^ 300 : Nat) : Int) = 10 ^ 300 := by decide +kernel
        rw [← e] at m1
        exact Int.ofNat_lt.mp m1
      have n2 : (10 : Nat) ^ 300 ≤ 2 ^ 1000 := by decide +kernel
      exact cmulW 1000 1 (by rw [Int.natAbs_natCast]; exact Nat.lt_of_lt_of_le n1 n2) (bit01 _) (by decide) (by decide) (by decide)
    · refine sg_name (i := 3) ?_ sc_Ljar.nd  -- _law_mine =
      have hmine : ∃ mn, mn = m * (if (decide ((if cell < 0 then -cell else cell) ≥ (10 : Int) ^ (18 : Int).toNat)) = true then 1 else 0) := ⟨_, rfl⟩
      obtain ⟨mn, hmn⟩ := hmine
      rw [← hmn]
      have mn0 : 0 ≤ mn ∧ mn < 10 ^ 300 := by
        rw [hmn]
        exact bitmul _ m0 m1
      refine sss_cons ?_
      refine ss_ret ?_
      refine se_lst ?_
      refine sa_cons ?_
      refine se_var (i := 3) rfl ?_  -- _law_mine
      refine sa_cons ?_
      refine se_bin op_Mod Mod_w ?_
      refine se_intC ?_ B.int
      refine se_bin op_Add Add_w ?_
      refine se_bin op_Add Add_w ?_
      refine se_bin op_Mult Mult_w ?_
      refine se_bin op_Mod Mod_w ?_
      refine se_intC ?_ B.int
      refine se_var (i := 2) rfl ?_  -- _law_cell
      refine se_int ?_  -- 2305843009213693951
      refine ⟨by decide, ?_⟩
      refine se_int ?_  -- 70843
      have r0 := Int.emod_nonneg cell (show (2305843009213693951 : Int) ≠ 0 by decide)
      have r1 := Int.emod_lt_of_pos cell (show (0 : Int) < 2305843009213693951 by decide)
      refine ⟨cmulW 61 17 (by omega) (by decide) (by decide) (by decide) (by decide), ?_⟩
      refine se_bin op_Mult Mult_w ?_
      refine se_bin op_Mult Mult_w ?_
      refine se_int ?_  -- 8521
      refine se_var (i := 1) rfl ?_  -- _law_k
      refine ⟨cmulW 14 2 (by decide) (by omega) (by decide) (by decide) (by decide), ?_⟩
      refine se_var (i := 1) rfl ?_  -- _law_k
      refine ⟨cmulW 16 2 (by omega) (by omega) (by decide) (by decide) (by decide), ?_⟩
      refine se_int ?_  -- 41
      refine se_int ?_  -- 2305843009213693921
      refine ⟨by decide, ?_⟩
      refine sa_cons ?_
      refine se_int ?_  -- 0
      refine sa_nil ?_
      refine ⟨by show 3 ≤ sizeLine; decide, fun y ny => ?_⟩
      have q1 := Int.emod_lt_of_pos (cell % 2305843009213693951 * 70843 + 8521 * (k : Int) * (k : Int) + 41) (show (0 : Int) < 2305843009213693921 by decide)
      have q0 := Int.emod_nonneg (cell % 2305843009213693951 * 70843 + 8521 * (k : Int) * (k : Int) + 41) (show (2305843009213693921 : Int) ≠ 0 by decide)
      exact h y _ ny ⟨_, _, _, setM_same, mn0.1, mn0.2, q0, Int.lt_trans q1 (by decide), Int.le_refl _, Int.le_refl _⟩ (Ext.refl.set ny)
  by_cases hk : (k : Int) < (cells.length : Nat)
  · show if2 (decide ((k : Int) < (cells.length : Nat))) _ _
    rw [decide_eq_true hk]
    refine se_ixB sc ?_  -- _law_script[_law_k]
    refine se_var (i := 0) rfl ?_  -- _law_script
    refine ⟨rfl, ?_⟩
    refine se_var (i := 1) rfl ?_  -- _law_k
    have hk' : k < cells.length := by omega
    refine ⟨k, cells[k], rfl, List.getElem?_eq_getElem hk', ?_⟩
    exact sg_name (i := 2) (body _) sc_Ljar.nd
  · show if2 (decide ((k : Int) < (cells.length : Nat))) _ _
    rw [decide_eq_false hk]
    refine se_bin op_Add Add_w ?_
    refine se_bin op_Mult Mult_w ?_
    refine se_int ?_  -- 29
    refine se_var (i := 1) rfl ?_  -- _law_k
    refine ⟨cmulW 5 2 (by decide) (by omega) (by decide) (by decide) (by decide), ?_⟩
    refine se_int ?_  -- 11
    exact sg_name (i := 2) (body _) sc_Ljar.nd
end
end K1
set_option Elab.async false
set_option linter.all false
set_option maxRecDepth 100000
/-! k10: _law_world. -/
namespace K1
open PySem L2 Dv
theorem Live.made {mu0 mu mu' : Mu} {p a : Addr} {c c' : Nat} {l : List (Addr × C)} {x : C} (L : Live mu0 mu p c l) (e : ExtBut p mu mu') (j : JarOk mu' p c') (n : mu a = none) (h : mu' a = some x) : Live mu0 mu' p c' (l ++ [(a, x)]) := by
  obtain ⟨f0, ap⟩ := L.fresh n
  have na : ∀ q ∈ l, q.1 ≠ a := fun q hq z => by rw [← z, (L.cell q hq).1] at n; cases n
  refine ⟨j, fun q hq => ?_, ?_, L.ex.trans e⟩
  · rcases List.mem_append.mp hq with z | z
    · exact ⟨e _ _ (L.cell q z).2.1 (L.cell q z).1, (L.cell q z).2⟩
    · rw [List.mem_singleton.mp z]
      exact ⟨h, ap, f0⟩
  · rw [List.map_append, List.nodup_append]
    refine ⟨L.nd, by simp, fun b hb d hd e => ?_⟩
    obtain ⟨q, hq, rfl⟩ := List.mem_map.mp hb
    rw [List.map_cons, List.map_nil, List.mem_singleton] at hd
    exact na q hq (e.trans hd)
theorem Live.tmp {mu0 mu : Mu} {p a : Addr} {c : Nat} {l : List (Addr × C)} (L : Live mu0 mu p c l) (h : mu a = none) (x : C) : Live mu0 (setM mu a x) p c l := L.ext (Ext.refl.set h)
theorem len13 {ns : List Str} (h : ns.length = 13) : ∃ a0 a1 a2 a3 a4 a5 a6 a7 a8 a9 a10 a11 a12, ns = [a0, a1, a2, a3, a4, a5, a6, a7, a8, a9, a10, a11, a12] := by
  match ns, h with
  | [a0, a1, a2, a3, a4, a5, a6, a7, a8, a9, a10, a11, a12], _ => exact ⟨_, _, _, _, _, _, _, _, _, _, _, _, _, rfl⟩
theorem two_of {hs : List Str} (h : 2 ≤ hs.length) : ∃ h0 h1 r, hs = h0 :: h1 :: r := by
  match hs, h with
  | h0 :: h1 :: r, _ => exact ⟨_, _, _, rfl⟩
theorem atI_last {α : Type} {xs : List α} (h : xs ≠ []) : ∃ x ∈ xs, atI xs (-1) = some x := by
  have hl : 0 < xs.length := List.length_pos_iff.mpr h
  have h2 : xs.length - 1 < xs.length := by omega
  refine ⟨xs[xs.length - 1], List.getElem_mem h2, ?_⟩
  unfold atI ixN
  rw [if_neg (by decide), if_pos (by omega)]
  have : ((-1 : Int) + (xs.length : Int)).toNat = xs.length - 1 := by omega
  rw [this]
  exact List.getElem?_eq_getElem h2
theorem cut_from {us : List W} {i : Int} (h : 0 ≤ i) (hl : i.toNat ≤ us.length) : cutW us (some i) none = us.drop i.toNat := by
  have h1 : cutW us (some i) none = (us.drop (HT.sIx us.length 0 (some i))).take (HT.sIx us.length us.length none - HT.sIx us.length 0 (some i)) := rfl
  rw [h1, sIx_pos h, Nat.min_eq_left hl]
  show (us.drop i.toNat).take (us.length - i.toNat) = us.drop i.toNat
  rw [List.take_of_length_le]
  rw [List.length_drop]
  omega
theorem merge_old {k : Key} : ∀ {more : List (Key × W)}, k ∉ more.map (·.1) → ∀ {kvs : List (Key × W)}, valW (mergeW kvs more) k = valW kvs k
  | [], _, kvs => rfl
  | (j, u) :: more, h, kvs => by
    show valW (mergeW (putW kvs j u) more) k = _
    rw [merge_old (more := more) (fun z => h (by simp [z])), valW_put, if_neg (fun z => h (by simp [z]))]
theorem merge_new {k : Key} {w : W} : ∀ {more : List (Key × W)}, (more.map (·.1)).Nodup → (k, w) ∈ more → ∀ {kvs : List (Key × W)}, valW (mergeW kvs more) k = some w
  | [], _, h, kvs => by cases h
  | (j, u) :: more, nd, h, kvs => by
    rw [List.map_cons, List.nodup_cons] at nd
    show valW (mergeW (putW kvs j u) more) k = _
    rcases List.mem_cons.mp h with z | z
    · cases z
      rw [merge_old nd.1, valW_put, if_pos rfl]
    · exact merge_new nd.2 z
theorem sort_ptsW {ps : List Pat} (h : ∀ p ∈ ps, p ≠ []) : plsW (ps.map ptW) = true ∧ PySem.W.AllAlike (dats (ps.map ptW)) ∧ PySem.W.Sortable (dats (ps.map ptW)) ∧ ∀ u ∈ ps.map ptW, (dat u).depth ≤ 64 := by
  obtain ⟨h1, h2⟩ := sort_pts h
  refine ⟨plains_map _ plain_pt ps, by rw [dats_map]; exact h1, by rw [dats_map]; exact h2, fun u hu => ?_⟩
  obtain ⟨p, _, rfl⟩ := List.mem_map.mp hu
  exact Nat.le_trans (depth_pt p) (by decide)
theorem merge_nodup : ∀ {more kvs : List (Key × W)}, (kvs.map (·.1)).Nodup → ((mergeW kvs more).map (·.1)).Nodup
  | [], kvs, h => h
  | (j, u) :: more, kvs, h => by
    show ((mergeW (putW kvs j u) more).map (·.1)).Nodup
    exact merge_nodup (putW_nodup h)
theorem kn1 : ([(.inr "houses" : Key), .inr "slots", .inr "bears", .inr "never", .inr "lapses"]).Nodup := by decide +kernel
theorem kn2 : ([(.inr "no" : Key), .inr "row", .inr "rows", .inr "lock", .inr "names"]).Nodup := by decide +kernel
theorem kn_h : (.inr "houses" : Key) ∉ ([(.inr "no" : Key), .inr "row", .inr "rows", .inr "lock", .inr "names"]) := (List.nodup_cons.mp (show ([(.inr "houses" : Key), .inr "no", .inr "row", .inr "rows", .inr "lock", .inr "names"]).Nodup by decide +kernel)).1
theorem kn_s : (.inr "slots" : Key) ∉ ([(.inr "no" : Key), .inr "row", .inr "rows", .inr "lock", .inr "names"]) := (List.nodup_cons.mp (show ([(.inr "slots" : Key), .inr "no", .inr "row", .inr "rows", .inr "lock", .inr "names"]).Nodup by decide +kernel)).1
theorem kn_b : (.inr "bears" : Key) ∉ ([(.inr "no" : Key), .inr "row", .inr "rows", .inr "lock", .inr "names"]) := (List.nodup_cons.mp (show ([(.inr "bears" : Key), .inr "no", .inr "row", .inr "rows", .inr "lock", .inr "names"]).Nodup by decide +kernel)).1
theorem kn_n : (.inr "never" : Key) ∉ ([(.inr "no" : Key), .inr "row", .inr "rows", .inr "lock", .inr "names"]) := (List.nodup_cons.mp (show ([(.inr "never" : Key), .inr "no", .inr "row", .inr "rows", .inr "lock", .inr "names"]).Nodup by decide +kernel)).1
theorem kn_l : (.inr "lapses" : Key) ∉ ([(.inr "no" : Key), .inr "row", .inr "rows", .inr "lock", .inr "names"]) := (List.nodup_cons.mp (show ([(.inr "lapses" : Key), .inr "no", .inr "row", .inr "rows", .inr "lock", .inr "names"]).Nodup by decide +kernel)).1
structure LX where
  no : Str
  row : Str
  r1 : Str
  r2 : Str
  lock : Str
  n1 : Str
  n2 : Str
structure LxOk (v : Wd) (x : LX) : Prop where
  one : ∃ h, (x.r1, h, [x.no, x.row]) ∈ v.slots
  two : ∃ h, (x.r2, h, [x.no, x.row]) ∈ v.slots
  ne : x.r1 ≠ x.r2
  nm1 : NmOk x.n1
  nm2 : NmOk x.n2
  nml : NmOk x.lock
  d12 : x.n1 ≠ x.n2
  dl1 : x.lock ≠ x.n1
  dl2 : x.lock ≠ x.n2
structure LwV (kvs : List (Key × W)) (Nm : Addr) (v : Wd) (x : LX) : Prop where
  houses : valW kvs (.inr "houses") = some (nmW v.houses)
  slots : valW kvs (.inr "slots") = some (slsW v.slots)
  bears : valW kvs (.inr "bears") = some (ptsW v.bears)
  never : valW kvs (.inr "never") = some (ptsW v.never)
  lapses : valW kvs (.inr "lapses") = some (lpsW v.lapses)
  no : valW kvs (.inr "no") = some (.str x.no)
  row : valW kvs (.inr "row") = some (.str x.row)
  rows : valW kvs (.inr "rows") = some (.tup [.str x.r1, .str x.r2])
  lock : valW kvs (.inr "lock") = some (.str x.lock)
  names : valW kvs (.inr "names") = some (.m Nm)
structure Lw (mu : Mu) (Lo Nm : Addr) (v : Wd) (x : LX) : Prop where
  ex : ∃ kvs, isDic mu Lo kvs ∧ LwV kvs Nm v x
  nms : mu Nm = some (.lst (stW [x.n1, x.n2]))
theorem Lw.ext {mu mu' : Mu} {Lo Nm : Addr} {v : Wd} {x : LX} (h : Lw mu Lo Nm v x) (e : Ext mu mu') : Lw mu' Lo Nm v x := by
  obtain ⟨kvs, d, V⟩ := h.ex
  exact ⟨⟨kvs, ⟨e _ _ d.1, d.2⟩, V⟩, e _ _ h.nms⟩
theorem Lw.but {mu mu' : Mu} {p Lo Nm : Addr} {v : Wd} {x : LX} (h : Lw mu Lo Nm v x) (e : ExtBut p mu mu') (h1 : Lo ≠ p) (h2 : Nm ≠ p) : Lw mu' Lo Nm v x := by
  obtain ⟨kvs, d, V⟩ := h.ex
  exact ⟨⟨kvs, ⟨e _ _ h1 d.1, d.2⟩, V⟩, e _ _ h2 h.nms⟩
theorem Lw.lore {mu : Mu} {Lo Nm : Addr} {v : Wd} {x : LX} (h : Lw mu Lo Nm v x) : Lore mu Lo v := by
  obtain ⟨kvs, d, V⟩ := h.ex
  exact ⟨kvs, d, V.houses, V.slots, V.bears, V.never, V.lapses⟩
section
variable {P : Program} {w : World} {K : PySem.W.Frag} {mg : Str → Option Value} {base : Heap}
abbrev N_Lworld : List Str := ["_law_jar_here", "_law_names_here", "_law_houses", "_law_no", "_law_row_here", "_law_more", "_law_slots", "_law_loose", "_law_bears", "_law_never", "_law_lapses", "_law_name", "_law_house_here", "_law_words", "_law_found"]
abbrev s_Lworld : Stmt := top 72
theorem sc_Lworld : FnScope N_Lworld ["_law_jar_here"] (defScope s_Lworld) := ⟨rfl, rfl, rfl, by decide +kernel, rfl, by decide +kernel, by decide +kernel⟩
def S_lworld : SpW := fun ws mu P => ∃ p c, ws = [.m p] ∧ JarOk mu p c ∧ c + 100 < 10000 ∧ ∀ Lo Nm v x mu', Lw mu' Lo Nm v x → WdOk v → LxOk v x → Lo ≠ p → Nm ≠ p → JarOk mu' p (c + 60) → ExtBut p mu mu' → P (.m Lo) mu'
set_option maxHeartbeats 4000000 in
theorem d_Lworld (D : Dfn K mg "_law_world" s_Lworld ["_law_jar_here"]) (B : Bl mg) (D_take : DTake P w K mg base) (D_of : DOf P w K mg base) (D_names : DefOk P w K mg base "_law_names" ["_law_jar_here", "_law_many"] 3 S_names) : DefOk P w K mg base "_law_world" ["_law_jar_here"] 4 S_lworld := by
  refine dfnOk D sc_Lworld (fun ws mu P ⟨_, _, e, _⟩ => by rw [e]; rfl) (fun f cdv A outer s H E hr ws mu Pt ⟨p, c, e, jar, c1, h⟩ => ?_)
  subst e
  refine sss_cons (ss_asg (se_callD D_names (hr.mono (by decide)) (sa_cons (se_var (i := 0) rfl (sa_cons (se_int (sa_nil ?_)))))))
  refine ⟨p, 13, c, rfl, by decide, jar, by omega, fun N ns mu1 nN hN nl nd nm j1 e1 => ?_⟩
  refine sg_name (i := 1) ?_ sc_Lworld.nd
  obtain ⟨a0, a1, a2, a3, a4, a5, a6, a7, a8, a9, a10, a11, a12, rfl⟩ := len13 nl
  have L1 := (Live.zero jar).made e1 j1 nN hN
  have n3 : NmOk a3 := nm _ (by simp)
  have n4 : NmOk a4 := nm _ (by simp)
  have n8 : NmOk a8 := nm _ (by simp)
  have n9 : NmOk a9 := nm _ (by simp)
  have n10 : NmOk a10 := nm _ (by simp)
  have n11 : NmOk a11 := nm _ (by simp)
  have n12 : NmOk a12 := nm _ (by simp)
  have d89 : a8 ≠ a9 := fun z => by subst z; simp at nd
  have d34 : a3 ≠ a4 := fun z => by subst z; simp at nd
  have d108 : a10 ≠ a8 := fun z => by subst z; simp at nd
  have d109 : a10 ≠ a9 := fun z => by subst z; simp at nd
  have d1112 : a11 ≠ a12 := fun z => by subst z; simp at nd
  have d1011 : a10 ≠ a11 := fun z => by subst z; simp at nd
  have d1012 : a10 ≠ a12 := fun z => by subst z; simp at nd
  have nd57 : ([a5, a6, a7] : List Str).Nodup := (show [a5, a6, a7].Sublist ([a0, a1, a2, a3, a4, a5, a6, a7, a8, a9, a10, a11, a12].drop 5) from (List.take_sublist 3 [a5, a6, a7, a8, a9, a10, a11, a12])).nodup ((List.drop_sublist 5 _).nodup nd)
  have nm57 : ∀ x ∈ ([a5, a6, a7] : List Str), NmOk x := fun x hx => nm x (by
    simp only [List.mem_cons, List.not_mem_nil, or_false] at hx ⊢
    rcases hx with z | z | z <;> simp [z])
  -- houses
  refine sss_cons (ss_asg (se_tupleC (se_sorted hr (se_slTo (se_var (i := 1) rfl (se_bin op_Add Add_w (se_int (se_callD D_take (hr.mono (by decide)) (sa_cons (se_var (i := 0) rfl (sa_cons (se_int (sa_nil ?_))))))))) ) B.sorted) B.tuple))
  refine ⟨p, 2, _, rfl, by decide, by decide, L1.jar, by omega, fun r mu2 r0 r1 j2 e2 => ?_⟩
  have L2 := L1.step e2 j2
  refine ⟨_, L2.at 0 rfl, fun q nq => ?_⟩
  rw [cut_to (by omega), st_take]
  obtain ⟨hc, ehc⟩ : ∃ hc, hc = (2 + r).toNat := ⟨_, rfl⟩
  rw [← ehc]
  have hc2 : 2 ≤ hc := by omega
  have hc3 : hc ≤ 3 := by omega
  have hlen : (([a0, a1, a2, a3, a4, a5, a6, a7, a8, a9, a10, a11, a12] : List Str).take hc).length = hc := by
    rw [List.length_take]
    exact Nat.min_eq_left (Nat.le_trans hc3 (by show 3 ≤ 13; decide))
  obtain ⟨s1, s2, s3, s4⟩ := sort_sts (ns := ([a0, a1, a2, a3, a4, a5, a6, a7, a8, a9, a10, a11, a12] : List Str).take hc)
  refine ⟨_, setM_same, s1, s2, s3, by rw [show (stW (([a0, a1, a2, a3, a4, a5, a6, a7, a8, a9, a10, a11, a12] : List Str).take hc)).length = hc from by unfold stW; rw [List.length_map, hlen]]; exact Nat.le_trans hc3 (by decide), s4, fun q2 nq2 => ?_⟩
  refine ⟨_, setM_same, ?_⟩
  rw [asTx_sort]
  have hok : HsOk (asTx (([a0, a1, a2, a3, a4, a5, a6, a7, a8, a9, a10, a11, a12] : List Str).take hc)) := by
    have pl := (asTx_perm (([a0, a1, a2, a3, a4, a5, a6, a7, a8, a9, a10, a11, a12] : List Str).take hc)).length_eq
    rw [hlen] at pl
    exact ⟨by omega, by omega, fun x hx => nm x (List.mem_of_mem_take ((asTx_perm _).mem_iff.mp hx)), asTx_up ((List.take_sublist ..).nodup nd)⟩
  have hs2 : 2 ≤ (asTx (([a0, a1, a2, a3, a4, a5, a6, a7, a8, a9, a10, a11, a12] : List Str).take hc)).length := by
    have pl := (asTx_perm (([a0, a1, a2, a3, a4, a5, a6, a7, a8, a9, a10, a11, a12] : List Str).take hc)).length_eq
    rw [hlen] at pl
    omega
  have L3 := (L2.tmp nq (.lst (stW (([a0, a1, a2, a3, a4, a5, a6, a7, a8, a9, a10, a11, a12] : List Str).take hc)))).tmp nq2 (.lst (stW (asTx (([a0, a1, a2, a3, a4, a5, a6, a7, a8, a9, a10, a11, a12] : List Str).take hc))))
  generalize setM (setM mu2 q _) q2 _ = mu3 at L3 ⊢
  generalize asTx (([a0, a1, a2, a3, a4, a5, a6, a7, a8, a9, a10, a11, a12] : List Str).take hc) = hs at hok hs2
  clear s1 s2 s3 s4
  obtain ⟨h0, h1, hsr, rfl⟩ := two_of hs2
  refine sg_name (i := 2) ?_ sc_Lworld.nd
  -- no, row, more
  refine sss_cons (ss_par3 (i := 3) (j := 4) (l := 5) ?_ rfl sc_Lworld.nd (by decide) (by decide) (by decide) (by rfl))
  refine se_ix (se_var (i := 1) rfl (se_int ⟨_, .str a3, L3.at 0 rfl, atI_nat' (i := 3) rfl, ?_⟩))
  refine se_ix (se_var (i := 1) rfl (se_int ⟨_, .str a4, L3.at 0 rfl, atI_nat' (i := 4) rfl, ?_⟩))
  refine se_slMid (se_var (i := 1) rfl (se_int (se_int ⟨_, L3.at 0 rfl, fun M nM => ?_⟩)))
  rw [cut_mid (by decide) (by show 5 ≤ 13; decide) (by decide)]
  have L4 := L3.new nM (.lst (stW [a5, a6, a7]))
  change SSs _ _ _ (setM mu3 M (.lst (stW [a5, a6, a7]))) _
  generalize setM mu3 M (.lst (stW [a5, a6, a7])) = mu4 at L4 ⊢
  -- slots
  refine sss_cons (ss_asg (se_lst ?_))
  refine sa_cons (se_tup (sa_cons (se_ix (se_var (i := 1) rfl (se_int ⟨_, .str a8, L4.at 0 rfl, atI_nat' (i := 8) rfl, ?_⟩)))))
  refine sa_cons (se_ix (se_var (i := 2) rfl (se_int ⟨.str h0, atI_nat' (i := 0) rfl, ?_⟩)))
  refine sa_cons (se_tup (sa_cons (se_var (i := 3) rfl (sa_cons (se_var (i := 4) rfl (sa_nil ⟨by show 2 ≤ sizeLine; decide, sa_nil ⟨by show 3 ≤ sizeLine; decide, ?_⟩⟩))))))
  refine sa_cons (se_tup (sa_cons (se_ix (se_var (i := 1) rfl (se_int ⟨_, .str a9, L4.at 0 rfl, atI_nat' (i := 9) rfl, ?_⟩)))))
  refine sa_cons (se_ix (se_var (i := 2) rfl (se_int ⟨.str h1, atI_nat' (i := 1) rfl, ?_⟩)))
  refine sa_cons (se_tup (sa_cons (se_var (i := 3) rfl (sa_cons (se_var (i := 4) rfl (sa_nil ⟨by show 2 ≤ sizeLine; decide, sa_nil ⟨by show 3 ≤ sizeLine; decide, ?_⟩⟩))))))
  refine sa_nil ⟨by show 2 ≤ sizeLine; decide, fun S nS => ?_⟩
  have L5 := L4.new nS (.lst ((twoS h0 h1 a3 a4 a8 a9).map slW1))
  refine sg_name (i := 6) ?_ sc_Lworld.nd
  change SSs _ _ _ (setM mu4 S (.lst ((twoS h0 h1 a3 a4 a8 a9).map slW1))) _
  generalize setM mu4 S (.lst ((twoS h0 h1 a3 a4 a8 a9).map slW1)) = mu5 at L5 ⊢
  -- loose
  refine sss_cons (ss_asg (se_slTo (se_var (i := 5) rfl (se_bin op_Add Add_w (se_int (se_callD D_take (hr.mono (by decide)) (sa_cons (se_var (i := 0) rfl (sa_cons (se_int (sa_nil ?_)))))))))))
  refine ⟨p, 2, _, rfl, by decide, by decide, L5.jar, by omega, fun t mu6 t0 t1 j6 e6 => ?_⟩
  have L6 := L5.step e6 j6
  refine ⟨_, L6.at 1 rfl, fun F nF => ?_⟩
  rw [cut_to (by omega), st_take]
  obtain ⟨fr, efr⟩ : ∃ fr, fr = ([a5, a6, a7] : List Str).take (2 + t).toNat := ⟨_, rfl⟩
  rw [← efr]
  have frl : 2 ≤ fr.length ∧ fr.length ≤ 3 := by
    rw [efr, List.length_take]
    show 2 ≤ min _ 3 ∧ min _ 3 ≤ 3
    omega
  have frn : fr.Nodup := by rw [efr]; exact (List.take_sublist ..).nodup nd57
  have frm : ∀ x ∈ fr, NmOk x := fun x hx => nm57 x (by rw [efr] at hx; exact List.mem_of_mem_take hx)
  have L7 := L6.new nF (.lst (stW fr))
  refine sg_name (i := 7) ?_ sc_Lworld.nd
  change SSs _ _ _ (setM mu6 F (.lst (stW fr))) _
  generalize setM mu6 F (.lst (stW fr)) = mu7 at L7 ⊢
  have hh0 : h0 ∈ h0 :: h1 :: hsr := by simp
  have hh1 : h1 ∈ h0 :: h1 :: hsr := by simp
  have W0 := sw_two hh0 hh1 n3 n4 n8 n9 d89 d34
  have rest : ∀ ss mu9, SW (h0 :: h1 :: hsr) ss a3 a4 a8 a9 → Live mu mu9 p (c + 10 + 1 + 1 + 3) [(N, .lst (stW [a0, a1, a2, a3, a4, a5, a6, a7, a8, a9, a10, a11, a12])), (M, .lst (stW [a5, a6, a7])), (S, .lst (ss.map slW1)), (F, .lst (stW fr))] →
      SSs (cxOf CX0 P w K mg base N_Lworld "_law_world" (defScope s_Lworld) f cdv A outer s H E).nox ((defBody s_Lworld).drop 6) [some (.m p), some (.m N), some (nmW (h0 :: h1 :: hsr)), some (.str a3), some (.str a4), some (.m M), some (.m S), some (.m F), none, none, none, none, none, none, none] mu9 { nx := fun _ mu' => Pt .non mu', rt := Pt } := fun ss mu9 SS L9 => by
    -- bears
    refine sss_cons (ss_asg (se_tupleC (se_sorted hr (se_lst ?_) B.sorted) B.tuple))
    refine sa_cons (se_tup (sa_cons (se_tup (sa_cons (se_ix (se_var (i := 1) rfl (se_int ⟨_, .str a8, L9.at 0 rfl, atI_nat' (i := 8) rfl, ?_⟩)))))))
    refine sa_cons (se_var (i := 4) rfl (sa_nil ⟨by show 2 ≤ sizeLine; decide, sa_nil ⟨by show 1 ≤ sizeLine; decide, ?_⟩⟩))
    refine sa_cons (se_tup (sa_cons (se_tup (sa_cons (se_ix (se_var (i := 1) rfl (se_int ⟨_, .str a9, L9.at 0 rfl, atI_nat' (i := 9) rfl, ?_⟩)))))))
    refine sa_cons (se_var (i := 4) rfl (sa_nil ⟨by show 2 ≤ sizeLine; decide, sa_nil ⟨by show 1 ≤ sizeLine; decide, ?_⟩⟩))
    refine sa_nil ⟨by show 2 ≤ sizeLine; decide, fun q nq => ?_⟩
    obtain ⟨s1, s2, s3, s4⟩ := sort_ptsW (ps := [[(a8, a4)], [(a9, a4)]]) (by simp)
    refine ⟨([[(a8, a4)], [(a9, a4)]] : List Pat).map ptW, setM_same, s1, s2, s3, by show 2 ≤ sizeLine; decide, s4, fun q2 nq2 => ?_⟩
    rw [asPts_sort]
    refine ⟨_, setM_same, ?_⟩
    have L10 := (L9.tmp nq (.lst (([[(a8, a4)], [(a9, a4)]] : List Pat).map ptW))).tmp nq2 (.lst ((asPts [[(a8, a4)], [(a9, a4)]]).map ptW))
    refine sg_name (i := 8) ?_ sc_Lworld.nd
    change SSs _ _ _ (setM (setM mu9 q (.lst (([[(a8, a4)], [(a9, a4)]] : List Pat).map ptW))) q2 (.lst ((asPts [[(a8, a4)], [(a9, a4)]]).map ptW))) _
    generalize setM (setM mu9 q (.lst (([[(a8, a4)], [(a9, a4)]] : List Pat).map ptW))) q2 (.lst ((asPts [[(a8, a4)], [(a9, a4)]]).map ptW)) = mu10 at L10 ⊢
    -- never
    refine sss_cons (ss_asg (se_tup (sa_cons (se_tupleC (se_sorted hr (se_lst ?_) B.sorted) B.tuple))))
    refine sa_cons (se_tup (sa_cons (se_ix (se_var (i := 1) rfl (se_int ⟨_, .str a8, L10.at 0 rfl, atI_nat' (i := 8) rfl, ?_⟩)))))
    refine sa_cons (se_var (i := 4) rfl (sa_nil ⟨by show 2 ≤ sizeLine; decide, ?_⟩))
    refine sa_cons (se_tup (sa_cons (se_ix (se_var (i := 1) rfl (se_int ⟨_, .str a9, L10.at 0 rfl, atI_nat' (i := 9) rfl, ?_⟩)))))
    refine sa_cons (se_var (i := 4) rfl (sa_nil ⟨by show 2 ≤ sizeLine; decide, ?_⟩))
    refine sa_nil ⟨by show 2 ≤ sizeLine; decide, fun q nq => ?_⟩
    obtain ⟨s1, s2, s3, s4⟩ := sort_prs (fs := [(a8, a4), (a9, a4)])
    refine ⟨([(a8, a4), (a9, a4)] : Pat).map prW, setM_same, s1, s2, s3, by show 2 ≤ sizeLine; decide, s4, fun q2 nq2 => ?_⟩
    rw [asPat_sort]
    refine ⟨_, setM_same, sa_nil ⟨by show 1 ≤ sizeLine; decide, ?_⟩⟩
    have L11 := (L10.tmp nq (.lst (([(a8, a4), (a9, a4)] : Pat).map prW))).tmp nq2 (.lst ((asPat [(a8, a4), (a9, a4)]).map prW))
    refine sg_name (i := 9) ?_ sc_Lworld.nd
    change SSs _ _ _ (setM (setM mu10 q (.lst (([(a8, a4), (a9, a4)] : Pat).map prW))) q2 (.lst ((asPat [(a8, a4), (a9, a4)]).map prW))) _
    generalize setM (setM mu10 q (.lst (([(a8, a4), (a9, a4)] : Pat).map prW))) q2 (.lst ((asPat [(a8, a4), (a9, a4)]).map prW)) = mu11 at L11 ⊢
    -- lapses
    refine sss_cons (ss_asg (se_lst (sa_nil ⟨by decide, fun T nT => ?_⟩)))
    have L12 := L11.new nT (.lst [])
    refine sg_name (i := 10) ?_ sc_Lworld.nd
    change SSs _ _ _ (setM mu11 T (.lst [])) _
    generalize setM mu11 T (.lst []) = mu12 at L12 ⊢
    refine sss_cons ?_
    refine ss_for PassesOwn.never rfl (by intro _; rfl) ?_
    refine si_lst (se_var (i := 6) rfl ⟨_, L12.at 2 rfl, ?_⟩)
    refine ⟨fun i G' mu' => ∃ y1 y2 y3, ∃ ls : List Lap, G' = [some (.m p), some (.m N), some (nmW (h0 :: h1 :: hsr)), some (.str a3), some (.str a4), some (.m M), some (.m S), some (.m F), some (ptsW (bearsW a4 a8 a9)), some (ptsW (neverW a4 a8 a9)), some (.m T), y1, y2, y3, none] ∧ ls.length ≤ i ∧ (∀ l ∈ ls, LpOk ss l) ∧
        Live mu mu' p (c + 15 + 3 * i) [(N, .lst (stW [a0, a1, a2, a3, a4, a5, a6, a7, a8, a9, a10, a11, a12])), (M, .lst (stW [a5, a6, a7])), (S, .lst (ss.map slW1)), (F, .lst (stW fr)), (T, .lst (ls.map lpW))],
      ⟨none, none, none, [], rfl, Nat.le_refl _, by simp, L12⟩, fun i G' mu' _ ⟨y1, y2, y3, ls, eG, ll, lok, LL⟩ => LL.at 2 rfl, fun i u G' mu' hu ⟨y1, y2, y3, ls, eG, ll, lok, LL⟩ => ?_, fun G' mu' ⟨y1, y2, y3, ls, eG, ll, lok, LL⟩ => ?_⟩
    · subst eG
      rw [List.getElem?_map] at hu
      cases ht : ss[i]? with
      | none => rw [ht] at hu; cases hu
      | some sl =>
      rw [ht] at hu
      cases hu
      have sm := List.mem_of_getElem? ht
      have i6 : i < 6 := Nat.lt_of_lt_of_le (List.getElem?_eq_some_iff.mp ht).1 SS.ok.hi
      have sk := SS.ok.each sl sm
      refine sg_tup (ws := [.str sl.1, .str sl.2.1, nmW sl.2.2]) (sgs_cons (sg_name (i := 11) (sgs_cons (sg_name (i := 12) (sgs_cons (sg_name (i := 13) (sgs_nil ?_) sc_Lworld.nd)) sc_Lworld.nd)) sc_Lworld.nd))
      refine sss_cons (ss_if (st_of_w (sw_and (st_cmp op_eq eqT_w (nomark _) (se_var (i := 11) rfl (se_ix (se_var (i := 1) rfl (se_int ⟨_, .str a10, LL.at 0 rfl, atI_nat' (i := 10) rfl, ?_⟩))))))))
      refine ⟨_, _, rfl, rfl, fun b hb => ?_⟩
      refine if2_split (fun _ => ?_) (fun _ => sss_nil (sss_nil ⟨_, _, _, ls, rfl, by omega, lok, LL.mono (by omega)⟩))
      refine sw_and1 (st_cmp op_eq eqN_w (nomark _) ?_)
      refine se_callD D_take (hr.mono (by decide)) (sa_cons (se_var (i := 0) rfl (sa_cons (se_int (sa_nil ?_)))))
      refine ⟨p, 2, _, rfl, by decide, by decide, LL.jar, by omega, fun z mu13 z0 z1 j13 e13 => ?_⟩
      have LM := LL.step e13 j13
      refine se_int ⟨_, _, rfl, rfl, fun b2 hb2 => ?_⟩
      refine if2_split (fun _ => ?_) (fun _ => sss_nil (sss_nil ⟨_, _, _, ls, rfl, by omega, lok, LM.mono (by omega)⟩))
      have wne : sl.2.2 ≠ [] := fun q => by have := sk.lo; rw [q] at this; simp at this
      obtain ⟨xl, xlm, exl⟩ := atI_last (xs := stW sl.2.2) (fun q => wne (List.map_eq_nil_iff.mp q))
      obtain ⟨xl, xlk, rfl⟩ := List.mem_map.mp xlm
      obtain ⟨x0, x0m, ex0⟩ := atI_lt (xs := stW sl.2.2) (r := 0) (Int.le_refl _) (by have := sk.lo; unfold stW; rw [List.length_map]; omega)
      obtain ⟨x0, x0k, rfl⟩ := List.mem_map.mp x0m
      refine sss_cons (ss_expr (se_append (se_var (i := 10) rfl ⟨⟨_, LM.at 4 rfl⟩, sa_one (se_tup ?_)⟩)))
      refine sa_cons (se_var (i := 12) rfl (sa_cons (se_callD D_of (hr.mono (by decide)) ?_)))
      refine sa_cons (se_var (i := 0) rfl (sa_cons (se_lst (sa_cons (se_tup (sa_nil ⟨by decide, sa_cons (se_tup (sa_cons (se_tup ?_)))⟩))))))
      refine sa_cons (se_var (i := 11) rfl (sa_cons (se_ix (se_var (i := 13) rfl (se_neg (se_int ⟨_, exl, ?_⟩))))))
      refine sa_nil ⟨by show 2 ≤ sizeLine; decide, sa_nil ⟨by show 1 ≤ sizeLine; decide, sa_nil ⟨by show 2 ≤ sizeLine; decide, fun q nq => sa_nil ?_⟩⟩⟩
      have LN := LM.tmp nq (.lst [.tup [], .tup [.tup [.str sl.1, .str xl]]])
      refine ⟨p, _, _, _, rfl, .inr (.inl ⟨q, rfl, Ne.symm (LM.jar.ne nq), setM_same⟩), by simp, by simp, LN.jar, by omega, fun u mu14 hu j14 e14 => ?_⟩
      have LO := LN.step e14 j14
      have hnd : ∃ pn : Pat, u = ptW pn ∧ PtOk (ss.filter (atHome sl.2.1)) pn := by
        simp only [List.mem_cons, List.not_mem_nil, or_false] at hu
        rcases hu with rfl | rfl
        · exact ⟨[], rfl, pt_nil _⟩
        · exact ⟨[(sl.1, xl)], rfl, pt_one sm xlk⟩
      obtain ⟨pn, rfl, pnk⟩ := hnd
      refine sa_cons (se_tup (sa_cons (se_tup (sa_cons (se_var (i := 11) rfl (sa_cons (se_ix (se_var (i := 13) rfl (se_int ⟨_, ex0, ?_⟩)))))))))
      refine sa_nil ⟨by show 2 ≤ sizeLine; decide, sa_nil ⟨by show 1 ≤ sizeLine; decide, sa_nil ⟨by show 3 ≤ sizeLine; decide, ?_⟩⟩⟩
      refine ⟨_, LO.at 4 rfl, by rw [List.length_map]; exact Nat.lt_of_le_of_lt (Nat.le_trans ll (Nat.le_of_lt i6)) (by decide), sss_nil (sss_nil ?_)⟩
      have em : ls.map lpW ++ [W.tup [.str sl.2.1, ptW pn, .tup [.tup [.str sl.1, .str x0]]]] = (ls ++ [(sl.2.1, pn, [(sl.1, x0)])]).map lpW := by rw [List.map_append]; rfl
      have LP := (LO.put 4 rfl (.lst ((ls ++ [(sl.2.1, pn, [(sl.1, x0)])]).map lpW)))
      refine ⟨some (.str sl.1), some (.str sl.2.1), some (nmW sl.2.2), ls ++ [(sl.2.1, pn, [(sl.1, x0)])], rfl, by rw [List.length_append, List.length_singleton]; omega, fun l hl => ?_, ?_⟩
      · rcases List.mem_append.mp hl with z | z
        · exact lok l z
        · rw [List.mem_singleton.mp z]
          exact ⟨hok.nm _ sk.home, pnk, pt_one sm x0k, by simp⟩
      · have LQ := LP.mono (c' := c + 15 + 3 * (i + 1)) (by omega)
        rw [← em] at LQ
        rw [← em]
        exact LQ
    · subst eG
      rw [List.length_map] at ll LL
      have wd := fun l3 => sw_world (ls := ls) hok SS l3 lok
      have s6 := SS.three
      have WD := wd (by omega)
      refine sss_cons (ss_asg ?_)
      refine se_disp ?_ ?_ ?_ ?_ ?_
      case refine_2 => rfl
      case refine_3 => rfl
      case refine_4 => exact List.cons_ne_nil _ _
      case refine_5 => show 5 ≤ 15; decide
      unfold SPs
      refine se_str (se_var (i := 2) rfl ?_)
      unfold SPs
      refine se_str (se_tupleC (se_var (i := 6) rfl ⟨_, LL.at 2 rfl, ?_⟩) B.tuple)
      unfold SPs
      refine se_str (se_var (i := 8) rfl ?_)
      unfold SPs
      refine se_str (se_var (i := 9) rfl ?_)
      unfold SPs
      refine se_str (se_tupleC (se_var (i := 10) rfl ⟨_, LL.at 4 rfl, ?_⟩) B.tuple)
      unfold SPs
      obtain ⟨kv1, ekv1⟩ : ∃ kv1, kv1 = [((.inr "houses" : Key), nmW (h0 :: h1 :: hsr)), (.inr "slots", slsW ss), (.inr "bears", ptsW (bearsW a4 a8 a9)), (.inr "never", ptsW (neverW a4 a8 a9)), (.inr "lapses", lpsW ls)] := ⟨_, rfl⟩
      refine ⟨kv1, by rw [ekv1]; rfl, by rw [ekv1]; exact kn1, by rw [ekv1]; show 5 ≤ 15; decide, fun d nd => ?_⟩
      have L13 := LL.new nd (.dic kv1)
      refine sg_name (i := 14) ?_ sc_Lworld.nd
      change SSs _ _ _ (setM mu' d (.dic kv1)) _
      generalize setM mu' d (.dic kv1) = mu13 at L13 ⊢
      refine sss_cons (ss_expr (se_update (se_var (i := 14) rfl ⟨⟨_, L13.at 5 rfl⟩, sa_one ?_⟩)))
      refine se_disp ?_ ?_ ?_ ?_ ?_
      case refine_2 => rfl
      case refine_3 => rfl
      case refine_4 => exact List.cons_ne_nil _ _
      case refine_5 => show 5 ≤ 15; decide
      unfold SPs
      refine se_str (se_var (i := 3) rfl ?_)
      unfold SPs
      refine se_str (se_var (i := 4) rfl ?_)
      unfold SPs
      refine se_str (se_tup ?_)
      refine sa_cons (se_ix (se_var (i := 1) rfl (se_int ⟨_, .str a8, L13.at 0 rfl, atI_nat' (i := 8) rfl, ?_⟩)))
      refine sa_cons (se_ix (se_var (i := 1) rfl (se_int ⟨_, .str a9, L13.at 0 rfl, atI_nat' (i := 9) rfl, ?_⟩)))
      refine sa_nil ⟨by show 2 ≤ sizeLine; decide, ?_⟩
      unfold SPs
      refine se_str (se_ix (se_var (i := 1) rfl (se_int ⟨_, .str a10, L13.at 0 rfl, atI_nat' (i := 10) rfl, ?_⟩)))
      unfold SPs
      refine se_str (se_slFrom (se_var (i := 1) rfl (se_int ⟨_, L13.at 0 rfl, fun Nm nNm => ?_⟩)))
      rw [cut_from (by decide) (by show 11 ≤ 13; decide)]
      have L14 := L13.new nNm (.lst (stW [a11, a12]))
      unfold SPs
      obtain ⟨kv2, ekv2⟩ : ∃ kv2, kv2 = [((.inr "no" : Key), W.str a3), (.inr "row", .str a4), (.inr "rows", .tup [.str a8, .str a9]), (.inr "lock", .str a10), (.inr "names", .m Nm)] := ⟨_, rfl⟩
      refine ⟨kv2, by rw [ekv2]; rfl, by rw [ekv2]; exact kn2, by rw [ekv2]; show 5 ≤ 15; decide, fun o no => ?_⟩
      have L15 := L14.new no (.dic kv2)
      have od : d ≠ o := fun z => by
        have := L14.at 5 rfl
        rw [z] at this
        have no : (setM mu13 Nm (.lst (stW [a11, a12]))) o = none := no
        rw [no] at this
        cases this
      refine ⟨kv1, kv2, ⟨L15.at 5 rfl, by rw [ekv1]; exact kn1⟩, setM_same, od, by rw [ekv1, ekv2]; show 10 ≤ sizeLine; decide, ?_⟩
      have L16 := L15.put 5 rfl (.dic (mergeW kv1 kv2))
      refine sss_cons (ss_ret (se_var (i := 14) rfl ?_))
      refine h d Nm ⟨h0 :: h1 :: hsr, ss, bearsW a4 a8 a9, neverW a4 a8 a9, ls⟩ ⟨a3, a4, a8, a9, a10, a11, a12⟩ _ ⟨⟨_, ⟨L16.at 5 rfl, merge_nodup (by rw [ekv1]; exact kn1)⟩, ?_⟩, L16.at 6 rfl⟩ WD ⟨SS.one, SS.two, d89, n11, n12, n10, d1112, d1011, d1012⟩ (L16.ne 5 rfl) (L16.ne 6 rfl) (L16.jar.mono (by omega)) L16.ex
      have k2 : (kv2.map (·.1)).Nodup := by rw [ekv2]; exact kn2
      have old : ∀ k : Key, k ∉ ([(.inr "no" : Key), .inr "row", .inr "rows", .inr "lock", .inr "names"]) → ∀ w, valW kv1 k = some w → valW (mergeW kv1 kv2) k = some w := fun k hk w hw => (merge_old (by rw [ekv2]; exact hk)).trans hw
      exact ⟨old _ kn_h _ (by rw [ekv1]; rfl), old _ kn_s _ (by rw [ekv1]; rfl), old _ kn_b _ (by rw [ekv1]; rfl), old _ kn_n _ (by rw [ekv1]; rfl), old _ kn_l _ (by rw [ekv1]; rfl), merge_new k2 (by rw [ekv2]; simp), merge_new k2 (by rw [ekv2]; simp), merge_new k2 (by rw [ekv2]; simp), merge_new k2 (by rw [ekv2]; simp), merge_new k2 (by rw [ekv2]; simp)⟩
  -- the test
  refine sss_cons (ss_if (st_cmp op_gt cmpI_w (nomark _) (se_callD D_take (hr.mono (by decide)) (sa_cons (se_var (i := 0) rfl (sa_cons (se_int (sa_nil ?_))))))))
  refine ⟨p, 3, _, rfl, by decide, by decide, L7.jar, by omega, fun t3 mu8 t30 t31 j8 e8 => ?_⟩
  have L8 := L7.step e8 j8
  refine se_int ?_
  refine if2_split (fun _ => ?_) (fun _ => sss_nil (rest _ _ W0 (L8.mono (by omega))))
  refine sss_cons (ss_expr (se_insert (se_var (i := 6) rfl ⟨⟨_, L8.at 2 rfl⟩, ?_⟩)))
  refine sa_cons (se_callD D_take (hr.mono (by decide)) (sa_cons (se_var (i := 0) rfl (sa_cons (se_int (sa_nil ?_))))))
  refine ⟨p, 3, _, rfl, by decide, by decide, L8.jar, by omega, fun i3 mu9 i30 i31 j9 e9 => ?_⟩
  have L9 := L8.step e9 j9
  refine sa_cons (se_tup (sa_cons (se_ix (se_var (i := 1) rfl (se_int ⟨_, .str a10, L9.at 0 rfl, atI_nat' (i := 10) rfl, ?_⟩)))))
  refine sa_cons (se_callD D_of (hr.mono (by decide)) (sa_cons (se_var (i := 0) rfl (sa_cons (se_var (i := 2) rfl (sa_nil ?_))))))
  refine ⟨p, _, stW (h0 :: h1 :: hsr), _, rfl, .inl rfl, by simp [stW], by unfold stW; rw [List.length_map]; have := hok.hi; omega, L9.jar, by omega, fun u mu10 hu j10 e10 => ?_⟩
  obtain ⟨h3, h3m, rfl⟩ := List.mem_map.mp hu
  have L10 := L9.step e10 j10
  refine sa_cons (se_tupleC (se_var (i := 7) rfl ⟨_, L10.at 3 rfl, ?_⟩) B.tuple)
  refine sa_nil ⟨by show 3 ≤ sizeLine; decide, sa_nil ?_⟩
  obtain ⟨k, rfl⟩ : ∃ k : Nat, i3 = k := ⟨i3.toNat, by omega⟩
  refine ⟨_, L10.at 2 rfl, by show 2 < sizeLine; decide, by omega, by omega, ?_⟩
  refine sss_nil ?_
  have sk3 : SlOk (h0 :: h1 :: hsr) (a10, h3, fr) := ⟨n10, h3m, frl.1, Nat.le_trans frl.2 (by decide), frm, frn⟩
  have W3 := sw_three (i := k) (by omega) W0 sk3 d108 d109
  have L11 := L10.put 2 rfl (.lst ((threeS k h0 h1 a3 a4 a8 a9 a10 h3 fr).map slW1))
  have em : ((twoS h0 h1 a3 a4 a8 a9).map slW1).take ((k : Nat) : Int).toNat ++ [W.tup [.str a10, .str h3, nmW fr]] ++ ((twoS h0 h1 a3 a4 a8 a9).map slW1).drop ((k : Nat) : Int).toNat = (threeS k h0 h1 a3 a4 a8 a9 a10 h3 fr).map slW1 := by
    rw [Int.toNat_natCast]
    unfold threeS
    rw [List.map_append, List.map_append, List.map_take, List.map_drop]
    rfl
  have fin := rest _ _ W3 (L11.mono (by omega))
  rw [← em] at fin
  exact fin
end
end K1
set_option Elab.async false
set_option linter.all false
set_option maxRecDepth 100000
/-! k10: _law_house, _law_pattern. -/
namespace K1
open PySem L2 Dv
/-! slots by their names -/
theorem alike_sts : ∀ a b : List Str, PySem.W.alikeAll (dats (stW a)) (dats (stW b)) = true
  | [], _ => by simp [stW, dats, PySem.W.alikeAll]
  | x :: a, [] => by simp [stW, dats, PySem.W.alikeAll]
  | x :: a, y :: b => by
    have := alike_sts a b
    unfold stW at this ⊢
    simp only [List.map_cons, dats, PySem.W.alikeAll, this, Bool.and_true]
    simp [dat, PySem.W.alike]
theorem alike_sl (s t : Slot) : PySem.W.alike (dat (slW1 s)) (dat (slW1 t)) = true := by
  have := alike_sts s.2.2 t.2.2
  simp [slW1, nmW, dat, dats, PySem.W.alike, PySem.W.alikeAll, this]
theorem plain_sl (s : Slot) : plW (slW1 s) = true := by
  have := plain_nm s.2.2
  simp [slW1, plW, plsW, this]
theorem depth_sl (s : Slot) : (dat (slW1 s)).depth ≤ 2 := by
  have h : (dat (nmW s.2.2)).depth ≤ 1 := by
    unfold nmW stW
    simp only [dat, PyData.depth]
    rw [dats_map]
    have := depth_all (fun z : Str => dat (.str z)) (n := 0) (xs := s.2.2) fun z _ => by simp [dat, PyData.depth]
    omega
  simp only [slW1, dat, dats, PyData.depth, PyData.depthAll]
  omega
theorem sl_lt {a b : Slot} (h : a.1 ≠ b.1) : ltD (slW1 a, slW1 b) = ltD (.str a.1, .str b.1) := by
  show PySem.W.dataLt (.tuple (.str a.1 :: _)) (.tuple (.str b.1 :: _)) = PySem.W.dataLt (.str a.1) (.str b.1)
  rw [PySem.W.dataLt_tuple, PySem.W.dataLt_cons (by simp [PySem.W.alike]), if_neg (by rw [eqv_str]; simp [h])]
def asSl (ss : List Slot) : List Slot := ss.mergeSort fun a b => leW (slW1 a) (slW1 b)
theorem asSl_perm (ss : List Slot) : (asSl ss).Perm ss := List.mergeSort_perm _ _
theorem asSl_up {ss : List Slot} (h : (ss.map (·.1)).Nodup) : rising (stW ((asSl ss).map (·.1))) = true := by
  have nd : ss.Pairwise fun a b => a.1 ≠ b.1 := List.pairwise_map.mp h
  have h1 := sorted_up slW1 (l := ss) (nd.imp fun {a b} hne => by
    rw [sl_lt hne, sl_lt (Ne.symm hne)]
    exact str_apart hne)
  have nd2 : (asSl ss).Pairwise fun a b => a.1 ≠ b.1 := ((asSl_perm ss).pairwise_iff fun h => Ne.symm h).mpr nd
  refine rising_of ?_
  unfold stW
  rw [List.map_map, List.pairwise_map]
  refine (List.Pairwise.and h1 nd2).imp fun {a b} h => ?_
  show ltD (.str a.1, .str b.1) = true
  rw [← sl_lt h.2]
  exact h.1
theorem sort_sls {ss : List Slot} : plsW (ss.map slW1) = true ∧ PySem.W.AllAlike (dats (ss.map slW1)) ∧ PySem.W.Sortable (dats (ss.map slW1)) ∧ ∀ u ∈ ss.map slW1, (dat u).depth ≤ 64 := by
  refine ⟨plains_map _ plain_sl ss, fun d hd d' hd' => ?_, .inl fun d hd => ?_, fun u hu => ?_⟩
  · obtain ⟨u, hu, rfl⟩ := mem_dats.mp hd
    obtain ⟨u', hu', rfl⟩ := mem_dats.mp hd'
    obtain ⟨a, _, rfl⟩ := List.mem_map.mp hu
    obtain ⟨b, _, rfl⟩ := List.mem_map.mp hu'
    exact alike_sl a b
  · obtain ⟨u, hu, rfl⟩ := mem_dats.mp hd
    obtain ⟨a, ha, rfl⟩ := List.mem_map.mp hu
    exact ⟨_, _, rfl⟩
  · obtain ⟨a, ha, rfl⟩ := List.mem_map.mp hu
    exact Nat.le_trans (depth_sl a) (by decide)
theorem rising_sub {l m : List Str} (h : rising (stW m) = true) (s : l.Sublist m) : rising (stW l) = true := by
  refine rising_of ?_
  unfold stW
  rw [List.pairwise_map]
  refine ((rising_pair h).sublist s).imp fun {a b} hl => ?_
  rw [lt_str]
  exact decide_eq_true hl
theorem asSl_sort (ss : List Slot) : (ss.map slW1).mergeSort leW = (asSl ss).map slW1 := sorted_map slW1 ss
theorem slot_one {ss : List Slot} (nd : (ss.map (·.1)).Nodup) {s t : Slot} (hs : s ∈ ss) (ht : t ∈ ss) (e : s.1 = t.1) : s = t := by
  induction ss with
  | nil => cases hs
  | cons a r ih =>
    rw [List.map_cons, List.nodup_cons] at nd
    rcases List.mem_cons.mp hs with h1 | h1
    · rcases List.mem_cons.mp ht with h2 | h2
      · rw [h1, h2]
      · exact absurd (List.mem_map.mpr ⟨t, h2, by rw [← e, h1]⟩) nd.1
    · rcases List.mem_cons.mp ht with h2 | h2
      · exact absurd (List.mem_map.mpr ⟨s, h1, by rw [e, h2]⟩) nd.1
      · exact ih nd.2 h1 h2
section
variable {P : Program} {w : World} {K : PySem.W.Frag} {mg : Str → Option Value} {base : Heap}
abbrev N_Lhouse : List Str := ["_law_lore", "_law_slot", "_law_name", "_law_house_here", "_law_words"]
abbrev s_Lhouse : Stmt := top 74
theorem sc_Lhouse : FnScope N_Lhouse ["_law_lore", "_law_slot"] (defScope s_Lhouse) := ⟨rfl, rfl, rfl, by decide +kernel, rfl, by decide +kernel, by decide +kernel⟩
def S_lhouse : SpW := fun ws mu P => ∃ Lo v s, ws = [.m Lo, .str s.1] ∧ Lore mu Lo v ∧ WdOk v ∧ s ∈ v.slots ∧ ∀ mu', Ext mu mu' → P (.str s.2.1) mu'
theorem d_Lhouse (D : Dfn K mg "_law_house" s_Lhouse ["_law_lore", "_law_slot"]) : DefOk P w K mg base "_law_house" ["_law_lore", "_law_slot"] 1 S_lhouse := by
  refine dfnOk D sc_Lhouse (fun ws mu P ⟨_, _, _, e, _⟩ => by rw [e]; rfl) (fun f cdv A outer s H E hr ws mu Pt ⟨Lo, v, sl, e, lo, ok, hs, h⟩ => ?_)
  subst e
  refine sss_cons (ss_ret (se_ix ?_))
  refine se_lc1 (own := [("_law_name", 2), ("_law_house_here", 3), ("_law_words", 4)]) (.tp [(.nm 2), (.nm 3), (.nm 4)]) rfl sc_Lhouse.nd (blkOk_by (N := N_Lhouse) (sc := defScope s_Lhouse) (by decide +kernel)) rfl (fun _ _ _ _ _ => (pg_tup rfl (pgs_cons (pg_name (i := 2) sc_Lhouse.nd rfl (Or.inl rfl)) (pgs_cons (pg_name (i := 3) sc_Lhouse.nd rfl (Or.inl rfl)) (pgs_cons (pg_name (i := 4) sc_Lhouse.nd rfl (Or.inl rfl)) pgs_nil))))) (by intro _; rfl) ?_
  refine si_tup (se_dget (hu_of hr) (se_var (i := 0) rfl (se_str (lo.slots ?_))))
  refine lc_filter (fun w => match w with | .tup [.str x, _, _] => decide (x = sl.1) | _ => false) (fun w => match w with | .tup [_, y, _] => y | _ => .non) (fun _ _ => trivial) (by rw [List.length_map]; exact Nat.le_trans ok.ss.hi (by decide)) ?_ InBlk.mono ?_
  · intro w mu' hw he
    obtain ⟨t, ht, rfl⟩ := List.mem_map.mp hw
    refine ⟨_, rfl, fun s H C cl fp => ?_⟩
    refine st_cmp op_eq eqT_w (nomark _) (se_var (i := 2) rfl (se_var (i := 1) rfl ⟨_, _, rfl, rfl, fun b hb => ⟨hb, Ext.refl, fun _ s H C cl fp => ?_⟩⟩))
    exact se_var (i := 3) rfl ⟨rfl, Ext.refl⟩
  · intro D mu' hD he he2
    have em : ((v.slots.map slW1).filter fun w => match w with | .tup [.str x, _, _] => decide (x = sl.1) | _ => false).map (fun w => match w with | .tup [_, y, _] => y | _ => .non) = (v.slots.filter fun t => decide (t.1 = sl.1)).map fun t => .str t.2.1 := by
      rw [List.filter_map, List.map_map]
      rfl
    rw [em] at he2 ⊢
    have mem : sl ∈ v.slots.filter fun t => decide (t.1 = sl.1) := List.mem_filter.mpr ⟨hs, decide_eq_true rfl⟩
    cases hf : v.slots.filter fun t => decide (t.1 = sl.1) with
    | nil => rw [hf] at mem; cases mem
    | cons a r =>
      have ha : a ∈ v.slots.filter fun t => decide (t.1 = sl.1) := by rw [hf]; simp
      obtain ⟨h1, h2⟩ := List.mem_filter.mp ha
      have ea := slot_one ok.ss.nd h1 hs (of_decide_eq_true h2)
      subst ea
      rw [hf] at he2
      refine se_int ⟨_, .str a.2.1, setM_same, atI_nat' (i := 0) rfl, ?_⟩
      exact h _ he2
abbrev N_Lpattern : List Str := ["_law_jar_here", "_law_lore", "_law_house_here", "_law_found", "_law_name", "_law_home", "_law_words"]
abbrev s_Lpattern : Stmt := top 75
theorem sc_Lpattern : FnScope N_Lpattern ["_law_jar_here", "_law_lore", "_law_house_here"] (defScope s_Lpattern) := ⟨rfl, rfl, rfl, by decide +kernel, rfl, by decide +kernel, by decide +kernel⟩
def S_lpattern : SpW := fun ws mu P => ∃ p Lo v ho c, ws = [.m p, .m Lo, .str ho] ∧ Lore mu Lo v ∧ WdOk v ∧ JarOk mu p c ∧ c + 50 < 10000 ∧ ∀ gs mu', PtOk (v.slots.filter (atHome ho)) gs → JarOk mu' p (c + 20) → ExtBut p mu mu' → P (ptW gs) mu'
set_option maxHeartbeats 1000000 in
theorem d_Lpattern (D : Dfn K mg "_law_pattern" s_Lpattern ["_law_jar_here", "_law_lore", "_law_house_here"]) (B : Bl mg) (D_take : DTake P w K mg base) (D_of : DOf P w K mg base) : DefOk P w K mg base "_law_pattern" ["_law_jar_here", "_law_lore", "_law_house_here"] 3 S_lpattern := by
  refine dfnOk D sc_Lpattern (fun ws mu P ⟨_, _, _, _, _, e, _⟩ => by rw [e]; rfl) (fun f cdv A outer s H E hr ws mu Pt ⟨p, Lo, v, ho, c, e, lo, ok, jar, c1, h⟩ => ?_)
  subst e
  refine sss_cons (ss_asg (se_lst (sa_nil ⟨by decide, fun F nF => ?_⟩)))
  have L1 := (Live.zero jar).new nF (.lst [])
  have lo1 := lo.ext (Ext.refl.set (c := .lst []) nF)
  refine sg_name (i := 3) ?_ sc_Lpattern.nd
  change SSs _ _ _ (setM mu F (.lst [])) _
  generalize setM mu F (.lst []) = mu1 at L1 lo1 ⊢
  refine sss_cons ?_
  refine ss_for PassesOwn.never rfl (by intro _; rfl) ?_
  refine si_lst (se_sortT hr (se_dget (hu_of hr) (se_var (i := 1) rfl (se_str (lo1.slots ?_)))) B.sorted)
  obtain ⟨q1, q2, q3, q4⟩ := sort_sls (ss := v.slots)
  refine ⟨_, rfl, q1, q2, q3, q4, fun S nS => ?_⟩
  rw [asSl_sort]
  have L2 := L1.new nS (.lst ((asSl v.slots).map slW1))
  refine ⟨_, setM_same, ?_⟩
  generalize setM mu1 S (.lst ((asSl v.slots).map slW1)) = mu2 at L2 ⊢
  have pm := asSl_perm v.slots
  have l6 : (asSl v.slots).length ≤ 6 := by rw [pm.length_eq]; exact ok.ss.hi
  refine ⟨fun i G' mu' => ∃ y1 y2 y3, ∃ gs : Pat, G' = [some (.m p), some (.m Lo), some (.str ho), some (.m F), y1, y2, y3] ∧ (gs.map (·.1)).Sublist (((asSl v.slots).take i).map (·.1)) ∧ (∀ q ∈ gs, PrOk (v.slots.filter (atHome ho)) q) ∧ Live mu mu' p (c + 2 * i) [(F, .lst (gs.map prW)), (S, .lst ((asSl v.slots).map slW1))],
    ⟨none, none, none, [], rfl, by simp, by simp, L2⟩, fun i G' mu' _ ⟨y1, y2, y3, gs, eG, sb, pr, LL⟩ => LL.at 1 rfl, fun i u G' mu' hu ⟨y1, y2, y3, gs, eG, sb, pr, LL⟩ => ?_, fun G' mu' ⟨y1, y2, y3, gs, eG, sb, pr, LL⟩ => ?_⟩
  · subst eG
    rw [List.getElem?_map] at hu
    cases ht : (asSl v.slots)[i]? with
    | none => rw [ht] at hu; cases hu
    | some sl =>
    rw [ht] at hu
    cases hu
    have sm := pm.mem_iff.mp (List.mem_of_getElem? ht)
    have i6 : i < 6 := Nat.lt_of_lt_of_le (List.getElem?_eq_some_iff.mp ht).1 l6
    have sk := ok.ss.each sl sm
    have sb2 : (gs.map (·.1)).Sublist (((asSl v.slots).take (i + 1)).map (·.1)) := by
      rw [List.take_add_one, List.map_append]
      exact sb.trans (List.sublist_append_left _ _)
    refine sg_tup (ws := [.str sl.1, .str sl.2.1, nmW sl.2.2]) (sgs_cons (sg_name (i := 4) (sgs_cons (sg_name (i := 5) (sgs_cons (sg_name (i := 6) (sgs_nil ?_) sc_Lpattern.nd)) sc_Lpattern.nd)) sc_Lpattern.nd))
    refine sss_cons (ss_if (st_of_w (sw_and (st_cmp op_eq eqT_w (nomark _) (se_var (i := 5) rfl (se_var (i := 2) rfl ⟨_, _, rfl, rfl, fun b hb => ?_⟩))))))
    refine if2_split (fun hb1 => ?_) (fun _ => sss_nil (sss_nil ⟨_, _, _, gs, rfl, sb2, pr, LL.mono (by omega)⟩))
    refine sw_and1 (st_cmp op_eq eqN_w (nomark _) ?_)
    refine se_callD D_take (hr.mono (by decide)) (sa_cons (se_var (i := 0) rfl (sa_cons (se_int (sa_nil ?_)))))
    refine ⟨p, 2, _, rfl, by decide, by decide, LL.jar, by omega, fun z mu13 z0 z1 j13 e13 => ?_⟩
    have LM := LL.step e13 j13
    refine se_int ⟨_, _, rfl, rfl, fun b2 hb2 => ?_⟩
    refine if2_split (fun _ => ?_) (fun _ => sss_nil (sss_nil ⟨_, _, _, gs, rfl, sb2, pr, LM.mono (by omega)⟩))
    have home : sl.2.1 = ho := of_decide_eq_true (hb.symm.trans hb1)
    refine sss_cons (ss_expr (se_append (se_var (i := 3) rfl ⟨⟨_, LM.at 0 rfl⟩, sa_one (se_tup ?_)⟩)))
    refine sa_cons (se_var (i := 4) rfl (sa_cons (se_callD D_of (hr.mono (by decide)) (sa_cons (se_var (i := 0) rfl (sa_cons (se_var (i := 6) rfl (sa_nil ?_))))))))
    refine ⟨p, _, stW sl.2.2, _, rfl, .inl rfl, fun q => by have := sk.lo; rw [List.map_eq_nil_iff.mp q] at this; simp at this, by unfold stW; rw [List.length_map]; have := sk.hi; omega, LM.jar, by omega, fun u mu14 hu j14 e14 => ?_⟩
    obtain ⟨x, hx, rfl⟩ := List.mem_map.mp hu
    have LN := LM.step e14 j14
    refine sa_nil ⟨by show 2 ≤ sizeLine; decide, ?_⟩
    refine ⟨_, LN.at 0 rfl, by
      rw [List.length_map]
      have := sb.length_le
      rw [List.length_map, List.length_map, List.length_take] at this
      exact Nat.lt_of_le_of_lt (by omega : gs.length ≤ 6) (by decide), sss_nil (sss_nil ?_)⟩
    have em : gs.map prW ++ [W.tup [.str sl.1, .str x]] = (gs ++ [(sl.1, x)]).map prW := by rw [List.map_append]; rfl
    have LP := (LN.put 0 rfl (.lst ((gs ++ [(sl.1, x)]).map prW))).mono (c' := c + 2 * (i + 1)) (by omega)
    refine ⟨some (.str sl.1), some (.str sl.2.1), some (nmW sl.2.2), gs ++ [(sl.1, x)], rfl, ?_, fun q hq => ?_, ?_⟩
    · rw [List.take_add_one, ht, List.map_append, List.map_append]
      exact sb.append (List.Sublist.refl _)
    · rcases List.mem_append.mp hq with z | z
      · exact pr q z
      · rw [List.mem_singleton.mp z]
        exact ⟨sl, List.mem_filter.mpr ⟨sm, decide_eq_true home⟩, rfl, hx⟩
    · rw [← em] at LP
      rw [← em]
      exact LP
  · subst eG
    rw [List.length_map] at LL
    refine sss_cons (ss_ret (se_tupleC (se_var (i := 3) rfl ⟨_, LL.at 0 rfl, ?_⟩) B.tuple))
    refine h gs _ ⟨pr, rising_sub (asSl_up ok.ss.nd) (sb.trans ((List.take_sublist _ _).map _)), ?_⟩ (LL.jar.mono (by omega)) LL.ex
    have := sb.length_le
    rw [List.length_map, List.length_map, List.length_take] at this
    omega
end
end K1
set_option Elab.async false
set_option linter.all false
set_option maxRecDepth 100000
/-! k10: _law_row. -/
namespace K1
open PySem L2 Dv
def flagsOf (word : Str) : List Str := if word = "do" then ["mark", "same"] else ["kept", "late", "mark", "same"]
structure FlRaw (word : Str) (wd : Bool) (fl : List Str) : Prop where
  mem : ∀ f ∈ fl, f ∈ flagsOf word
  nd : fl.Nodup
  wt : ("mark" : Str) ∈ fl ∨ ("same" : Str) ∈ fl → wd = true
  kp : ("kept" : Str) ∈ fl → ("late" : Str) ∉ fl ∧ ("mark" : Str) ∉ fl
  len : fl.length ≤ 4
structure FlOk (word : Str) (wd : Bool) (fl : List Str) : Prop where
  raw : FlRaw word wd fl
  up : rising (stW fl) = true
theorem FlRaw.sort {word : Str} {wd : Bool} {fl : List Str} (h : FlRaw word wd fl) : FlOk word wd (asTx fl) := by
  have pm := asTx_perm fl
  have m : ∀ x, x ∈ asTx fl ↔ x ∈ fl := fun x => pm.mem_iff
  exact ⟨⟨fun f hf => h.mem f ((m f).mp hf), (pm.nodup_iff).mpr h.nd, fun z => h.wt (by rw [m, m] at z; exact z), fun z => by rw [m] at z ⊢; rw [m]; exact h.kp z, by rw [pm.length_eq]; exact h.len⟩, asTx_up h.nd⟩
theorem flag_nm : ∀ f ∈ [("kept" : Str), "late", "mark", "same"], NmOk f := by unfold NmOk; decide +kernel
theorem flags_nm {word : Str} : ∀ f ∈ flagsOf word, NmOk f := fun f hf => by
  refine flag_nm f ?_
  unfold flagsOf at hf
  split at hf
  · simp only [List.mem_cons, List.not_mem_nil, or_false] at hf ⊢
    rcases hf with z | z <;> simp [z]
  · exact hf
/-- what an ask may have first -/
def baseFl (word : Str) (b : List Str) : Prop := b = [] ∨ (word = "ask" ∧ (b = [("kept" : Str)] ∨ b = [("late" : Str)]))
instance : DecidableEq (List Str) := inferInstance
theorem raw_by {word : Str} {wd : Bool} {fl : List Str} (h1 : (fl.all fun f => decide (f ∈ flagsOf word)) = true) (h2 : decide fl.Nodup = true) (h3 : (!(decide (("mark" : Str) ∈ fl) || decide (("same" : Str) ∈ fl)) || wd) = true) (h4 : (!decide (("kept" : Str) ∈ fl) || (!decide (("late" : Str) ∈ fl) && !decide (("mark" : Str) ∈ fl))) = true) (h5 : decide (fl.length ≤ 4) = true) : FlRaw word wd fl :=
  { mem := fun f hf => of_decide_eq_true (List.all_eq_true.mp h1 f hf)
    nd := of_decide_eq_true h2
    wt := fun z => by
      cases wd with
      | true => rfl
      | false =>
        exfalso
        rw [Bool.or_false, Bool.not_eq_true', Bool.or_eq_false_iff] at h3
        rcases z with z | z
        · rw [decide_eq_true z] at h3
          exact absurd h3.1 (by decide)
        · rw [decide_eq_true z] at h3
          exact absurd h3.2 (by decide)
    kp := fun z => by
      rw [decide_eq_true z] at h4
      simpa using h4
    len := of_decide_eq_true h5 }
theorem base_raw {word : Str} {wd : Bool} {b : List Str} (h : baseFl word b) : FlRaw word wd b ∧ ("mark" : Str) ∉ b := by
  rcases h with rfl | ⟨rfl, rfl | rfl⟩
  · exact ⟨⟨by simp, by simp, by simp, by simp, by simp⟩, by simp⟩
  · exact ⟨raw_by (by decide +kernel) (by decide +kernel) (by cases wd <;> decide +kernel) (by decide +kernel) (by decide +kernel), by decide +kernel⟩
  · exact ⟨raw_by (by decide +kernel) (by decide +kernel) (by cases wd <;> decide +kernel) (by decide +kernel) (by decide +kernel), by decide +kernel⟩
def moreFl : List (List Str) := [[], ["mark"], ["same"], ["mark", "same"]]
theorem more_of {word : Str} {b m : List Str} (hw : word = "do" ∨ word = "ask") (h : baseFl word b) (hm : m ∈ moreFl) : (∃ r : List Str, b = [("kept" : Str)] ∧ m = ("mark" : Str) :: r ∧ FlRaw word true (("kept" : Str) :: r)) ∨ (¬ (("kept" : Str) ∈ b ++ m ∧ ("mark" : Str) ∈ b ++ m) ∧ FlRaw word true (b ++ m)) := by
  unfold moreFl at hm
  simp only [List.mem_cons, List.not_mem_nil, or_false] at hm
  rcases h with rfl | ⟨rfl, rfl | rfl⟩
  · rcases hw with rfl | rfl <;> rcases hm with rfl | rfl | rfl | rfl
    all_goals exact .inr ⟨by decide +kernel, raw_by (by decide +kernel) (by decide +kernel) (by decide +kernel) (by decide +kernel) (by decide +kernel)⟩
  · rcases hm with rfl | rfl | rfl | rfl
    · exact .inr ⟨by decide +kernel, raw_by (by decide +kernel) (by decide +kernel) (by decide +kernel) (by decide +kernel) (by decide +kernel)⟩
    · exact .inl ⟨[], rfl, rfl, raw_by (by decide +kernel) (by decide +kernel) (by decide +kernel) (by decide +kernel) (by decide +kernel)⟩
    · exact .inr ⟨by decide +kernel, raw_by (by decide +kernel) (by decide +kernel) (by decide +kernel) (by decide +kernel) (by decide +kernel)⟩
    · exact .inl ⟨["same"], rfl, rfl, raw_by (by decide +kernel) (by decide +kernel) (by decide +kernel) (by decide +kernel) (by decide +kernel)⟩
  · rcases hm with rfl | rfl | rfl | rfl
    all_goals exact .inr ⟨by decide +kernel, raw_by (by decide +kernel) (by decide +kernel) (by decide +kernel) (by decide +kernel) (by decide +kernel)⟩
theorem in_namesL {P : PW1} {mu : Mu} {a : Addr} {ng : Bool} {ns : List Str} {h : Str} (ha : mu a = some (.lst (stW ns))) (hh : NmOk h) (hn : ∀ n ∈ ns, NmOk n) (k : P (.bl (ng != decide (h ∈ ns))) mu) : inW ng (.str h) (.m a) mu P := by
  refine ⟨plain_str h, ?_, dats (stW ns), ?_, ?_, ?_⟩
  · unfold SeqAt.shaped
    simp only [dat, PyData.depth]
    have := nm_ok hh
    simp [this]
  · simp only [itD, ha]
    rw [if_pos (show plsW (stW ns) = true from plains_map _ plain_str ns)]
  · unfold stW
    rw [dats_map]
    exact lay_all _ fun n h' => nm_ok (hn n h')
  · rw [any_str]
    exact k
end K1
set_option Elab.async false
set_option linter.all false
set_option maxRecDepth 100000
/-! k10: _law_row. -/
namespace K1
open PySem L2 Dv
def stepW (word house : Str) (needs makes : Pat) (flags : List Str) (th ot : Nat) : W := .tup [.str word, .str house, ptW needs, ptW makes, nmW flags, .int (th : Nat), .int (ot : Nat)]
def homesOf (v : Wd) (watch : List Str) : List Str := (v.slots.filter fun s => decide (s.1 ∈ watch)).map (·.2.1)
structure StepOk (v : Wd) (watch : List Str) (many : Nat) (word house : Str) (needs makes : Pat) (flags : List Str) (th ot : Nat) : Prop where
  wd : word = "do" ∨ word = "ask"
  ho : house ∈ v.houses
  nee : PtOk (v.slots.filter (atHome house)) needs
  mak : PtOk (v.slots.filter (atHome house)) makes
  fl : FlOk word (decide (house ∈ homesOf v watch)) flags
  th : th < many
  ot : ot < many
theorem Lore.but {mu mu' : Mu} {p L : Addr} {v : Wd} (h : Lore mu L v) (e : ExtBut p mu mu') (h1 : L ≠ p) : Lore mu' L v := by
  obtain ⟨kvs, ⟨h2, h3⟩, h4⟩ := h.ex
  exact ⟨kvs, ⟨e _ _ h1 h2, h3⟩, h4⟩
theorem pick3 {mu : Mu} {u : W} {A B D : Addr} {b1 b2 b3 : List Str} (ha : mu A = some (.lst (stW b1))) (hb : mu B = some (.lst (stW b2))) (hd : mu D = some (.lst (stW b3))) (h : u ∈ [W.m A, .m B, .m D]) : ∃ q b, u = .m q ∧ mu q = some (.lst (stW b)) ∧ (q = A ∧ b = b1 ∨ q = B ∧ b = b2 ∨ q = D ∧ b = b3) := by
  simp only [List.mem_cons, List.not_mem_nil, or_false] at h
  rcases h with rfl | rfl | rfl
  · exact ⟨A, b1, rfl, ha, .inl ⟨rfl, rfl⟩⟩
  · exact ⟨B, b2, rfl, hb, .inr (.inl ⟨rfl, rfl⟩)⟩
  · exact ⟨D, b3, rfl, hd, .inr (.inr ⟨rfl, rfl⟩)⟩
theorem ne_unit {mu : Mu} {us : List Str} {P : PW1} (hn : ∀ n ∈ us, NmOk n) (h : P (.bl (!decide (us = []))) mu) : neW (nmW us) (.tup []) mu P := by
  refine ⟨dat (nmW us), dat (.tup []), if_pos (plain_nm us), rfl, shaped_nm hn, by decide +kernel, ?_⟩
  cases us with
  | nil => exact h
  | cons x r => exact h
section
variable {P : Program} {w : World} {K : PySem.W.Frag} {mg : Str → Option Value} {base : Heap}
abbrev N_Lrow : List Str := ["_law_jar_here", "_law_lore", "_law_watch", "_law_many", "_law_house_here", "_law_word", "_law_flags", "_law_needs", "_law_makes"]
abbrev s_Lrow : Stmt := top 76
theorem sc_Lrow : FnScope N_Lrow ["_law_jar_here", "_law_lore", "_law_watch", "_law_many"] (defScope s_Lrow) := ⟨rfl, rfl, rfl, by decide +kernel, rfl, by decide +kernel, by decide +kernel⟩
def S_lrow : SpW := fun ws mu P => ∃ p Lo v watch many c, ws = [.m p, .m Lo, nmW watch, .int ((many : Nat) : Int)] ∧ Lore mu Lo v ∧ WdOk v ∧ Lo ≠ p ∧ (∀ z ∈ watch, ∃ s ∈ v.slots, s.1 = z) ∧ 1 ≤ many ∧ many ≤ 100 ∧ JarOk mu p c ∧ c + 100 < 10000 ∧
  ∀ word house needs makes flags th ot mu', StepOk v watch many word house needs makes flags th ot → JarOk mu' p (c + 60) → ExtBut p mu mu' → P (stepW word house needs makes flags th ot) mu'
set_option maxHeartbeats 4000000 in
theorem d_Lrow (D : Dfn K mg "_law_row" s_Lrow ["_law_jar_here", "_law_lore", "_law_watch", "_law_many"]) (B : Bl mg) (D_take : DTake P w K mg base) (D_of : DOf P w K mg base) (D_house : DefOk P w K mg base "_law_house" ["_law_lore", "_law_slot"] 1 S_lhouse) (D_pattern : DefOk P w K mg base "_law_pattern" ["_law_jar_here", "_law_lore", "_law_house_here"] 3 S_lpattern) : DefOk P w K mg base "_law_row" ["_law_jar_here", "_law_lore", "_law_watch", "_law_many"] 4 S_lrow := by
  refine dfnOk D sc_Lrow (fun ws mu P ⟨_, _, _, _, _, _, e, _⟩ => by rw [e]; rfl) (fun f cdv A outer s H E hr ws mu Pt ⟨p, Lo, v, watch, many, c, e, lo, ok, Lp, wk, m1, m2, jar, c1, h⟩ => ?_)
  subst e
  have hu65 : (A.deeper (PyProof.Rows.envOfC "_law_row" (defScope s_Lrow) s.heap.objs.size f cdv)).units + 65 < cLine := by have := hr.un; omega
  have wnm : ∀ z ∈ watch, NmOk z := fun z hz => by
    obtain ⟨sl, h1, h2⟩ := wk z hz
    exact h2 ▸ (ok.ss.each sl h1).nm
  refine sss_cons (ss_par (i := 4) (j := 5) ?_ rfl sc_Lrow.nd (by decide) (by rfl))
  refine se_callD D_of (hr.mono (by decide)) (sa_cons (se_var (i := 0) rfl (sa_cons (se_dget (hu_of hr) (se_var (i := 1) rfl (se_str (lo.houses (sa_nil ?_))))))))
  refine ⟨p, _, stW v.houses, _, rfl, .inl rfl, fun q => by have := ok.hs.lo; rw [List.map_eq_nil_iff.mp q] at this; simp at this, by unfold stW; rw [List.length_map]; have := ok.hs.hi; omega, jar, by omega, fun u mu1 hu j1 e1 => ?_⟩
  obtain ⟨ho, hho, rfl⟩ := List.mem_map.mp hu
  have L1 := (Live.zero jar).step e1 j1
  refine se_callD D_of (hr.mono (by decide)) (sa_cons (se_var (i := 0) rfl (sa_cons (se_lst (sa_cons (se_str (sa_cons (se_str (sa_cons (se_str (sa_cons (se_str (sa_nil ⟨by show 4 ≤ sizeLine; decide, fun q nq => sa_nil ?_⟩)))))))))))))
  have L2 := L1.tmp nq (.lst [.str "do", .str "do", .str "do", .str "ask"])
  refine ⟨p, _, _, _, rfl, .inr (.inl ⟨q, rfl, Ne.symm (L1.jar.ne nq), setM_same⟩), by simp, by simp, L2.jar, by omega, fun u mu2 hu j2 e2 => ?_⟩
  have hwd : ∃ word, u = .str word ∧ (word = "do" ∨ word = "ask") := by
    simp only [List.mem_cons, List.not_mem_nil, or_false] at hu
    rcases hu with rfl | rfl | rfl | rfl
    · exact ⟨_, rfl, .inl rfl⟩
    · exact ⟨_, rfl, .inl rfl⟩
    · exact ⟨_, rfl, .inl rfl⟩
    · exact ⟨_, rfl, .inr rfl⟩
  obtain ⟨word, rfl, hwd⟩ := hwd
  have L3 := L2.step e2 j2
  refine sss_cons (ss_asg (se_lst (sa_nil ⟨by decide, fun F0 nF0 => ?_⟩)))
  have L4 := L3.new nF0 (.lst (stW []))
  refine sg_name (i := 6) ?_ sc_Lrow.nd
  change SSs _ _ _ (setM mu2 F0 (.lst (stW []))) _
  generalize setM mu2 F0 (.lst (stW [])) = mu4 at L4 ⊢
  have rest3 : ∀ fl A0 mu9, FlRaw word (decide (ho ∈ homesOf v watch)) fl → Live mu mu9 p (c + 4) [(A0, .lst (stW fl))] →
      SSs (cxOf CX0 P w K mg base N_Lrow "_law_row" (defScope s_Lrow) f cdv A outer s H E).nox ((defBody s_Lrow).drop 5) [some (.m p), some (.m Lo), some (nmW watch), some (.int ((many : Nat) : Int)), some (.str ho), some (.str word), some (.m A0), none, none] mu9 { nx := fun _ mu' => Pt .non mu', rt := Pt } := fun fl A0 mu9 raw L9 => by
    refine sss_cons (ss_par (i := 7) (j := 8) ?_ rfl sc_Lrow.nd (by decide) (by rfl))
    refine se_callD D_pattern (hr.mono (by decide)) (sa_cons (se_var (i := 0) rfl (sa_cons (se_var (i := 1) rfl (sa_cons (se_var (i := 4) rfl (sa_nil ?_)))))))
    refine ⟨p, Lo, v, ho, _, rfl, lo.but L9.ex Lp, ok, L9.jar, by omega, fun needs mu10 k1 j10 e10 => ?_⟩
    have L10 := L9.step e10 j10
    refine se_callD D_pattern (hr.mono (by decide)) (sa_cons (se_var (i := 0) rfl (sa_cons (se_var (i := 1) rfl (sa_cons (se_var (i := 4) rfl (sa_nil ?_)))))))
    refine ⟨p, Lo, v, ho, _, rfl, lo.but L10.ex Lp, ok, L10.jar, by omega, fun makes mu11 k2 j11 e11 => ?_⟩
    have L11 := L10.step e11 j11
    refine sss_cons (ss_ret (se_tup ?_))
    refine sa_cons (se_var (i := 5) rfl (sa_cons (se_var (i := 4) rfl (sa_cons (se_var (i := 7) rfl (sa_cons (se_var (i := 8) rfl (sa_cons (se_tupleC (se_sorted hr (se_var (i := 6) rfl ?_) B.sorted) B.tuple)))))))))
    obtain ⟨s1, s2, s3, s4⟩ := sort_sts (ns := fl)
    refine ⟨_, L11.at 0 rfl, s1, s2, s3, by unfold stW; rw [List.length_map]; exact Nat.le_trans raw.len (by decide), s4, fun q2 nq2 => ?_⟩
    rw [asTx_sort]
    refine ⟨_, setM_same, ?_⟩
    have L12 := L11.tmp nq2 (.lst (stW (asTx fl)))
    refine sa_cons (se_callD D_take (hr.mono (by decide)) (sa_cons (se_var (i := 0) rfl (sa_cons (se_var (i := 3) rfl (sa_nil ?_))))))
    refine ⟨p, _, _, rfl, by omega, by omega, L12.jar, by omega, fun t1 mu13 t10 t11 j13 e13 => ?_⟩
    have L13 := L12.step e13 j13
    refine sa_cons (se_callD D_take (hr.mono (by decide)) (sa_cons (se_var (i := 0) rfl (sa_cons (se_var (i := 3) rfl (sa_nil ?_))))))
    refine ⟨p, _, _, rfl, by omega, by omega, L13.jar, by omega, fun t2 mu14 t20 t21 j14 e14 => ?_⟩
    have L14 := L13.step e14 j14
    obtain ⟨t1, rfl⟩ := Int.eq_ofNat_of_zero_le t10
    obtain ⟨t2, rfl⟩ := Int.eq_ofNat_of_zero_le t20
    refine sa_nil ⟨by show 7 ≤ sizeLine; decide, ?_⟩
    exact h word ho needs makes (asTx fl) t1 t2 _ ⟨hwd, hho, k1, k2, raw.sort, by omega, by omega⟩ (L14.jar.mono (by omega)) L14.ex
  have rest2 : ∀ fl A0 mu9, ((¬ (("kept" : Str) ∈ fl ∧ ("mark" : Str) ∈ fl) ∧ FlRaw word (decide (ho ∈ homesOf v watch)) fl) ∨ ∃ r : List Str, fl = ("kept" : Str) :: ("mark" : Str) :: r ∧ FlRaw word (decide (ho ∈ homesOf v watch)) (("kept" : Str) :: r)) → (∀ f ∈ fl, f ∈ [("kept" : Str), "late", "mark", "same"]) → Live mu mu9 p (c + 4) [(A0, .lst (stW fl))] →
      SSs (cxOf CX0 P w K mg base N_Lrow "_law_row" (defScope s_Lrow) f cdv A outer s H E).nox ((defBody s_Lrow).drop 4) [some (.m p), some (.m Lo), some (nmW watch), some (.int ((many : Nat) : Int)), some (.str ho), some (.str word), some (.m A0), none, none] mu9 { nx := fun _ mu' => Pt .non mu', rt := Pt } := fun fl A0 mu9 cs al L9 => by
    have anm : ∀ f ∈ fl, NmOk f := fun f hf => flag_nm f (al f hf)
    refine sss_cons (ss_if (st_of_w (sw_and (st_cmp (op_inT hu65) (in_w false) (by rfl) (se_str (se_var (i := 6) rfl ?_))))))
    refine in_namesL (L9.at 0 rfl) (flag_nm _ (by simp)) anm ?_
    rcases cs with ⟨no, raw⟩ | ⟨r, rfl, raw⟩
    · refine if2_split (fun hk => ?_) (fun _ => sss_nil (rest3 _ _ _ raw L9))
      refine sw_and1 (st_cmp (op_inT hu65) (in_w false) (by rfl) (se_str (se_var (i := 6) rfl ?_)))
      refine in_namesL (L9.at 0 rfl) (flag_nm _ (by simp)) anm ?_
      refine if2_split (fun hm => ?_) (fun _ => sss_nil (rest3 _ _ _ raw L9))
      exact absurd ⟨by simpa using hk, by simpa using hm⟩ no
    · rw [show (false != decide (("kept" : Str) ∈ ("kept" : Str) :: ("mark" : Str) :: r)) = true from by simp]
      refine sw_and1 (st_cmp (op_inT hu65) (in_w false) (by rfl) (se_str (se_var (i := 6) rfl ?_)))
      refine in_namesL (L9.at 0 rfl) (flag_nm _ (by simp)) anm ?_
      rw [show (false != decide (("mark" : Str) ∈ ("kept" : Str) :: ("mark" : Str) :: r)) = true from by simp]
      refine sss_cons (ss_expr (se_remove (se_var (i := 6) rfl ⟨⟨_, L9.at 0 rfl⟩, sa_one (se_str ⟨("kept" : Str) :: ("mark" : Str) :: r, 1, L9.at 0 rfl, rfl, fun i hi => ?_, ?_⟩)⟩)))
      · have : i = 0 := by omega
        subst this
        show some ("kept" : Str) ≠ some "mark"
        decide +kernel
      · exact sss_nil (rest3 _ _ _ raw (L9.put 0 rfl (.lst (stW (("kept" : Str) :: r)))))
  have rest1 : ∀ b A0 mu9, baseFl word b → Live mu mu9 p (c + 3) [(A0, .lst (stW b))] →
      SSs (cxOf CX0 P w K mg base N_Lrow "_law_row" (defScope s_Lrow) f cdv A outer s H E).nox ((defBody s_Lrow).drop 3) [some (.m p), some (.m Lo), some (nmW watch), some (.int ((many : Nat) : Int)), some (.str ho), some (.str word), some (.m A0), none, none] mu9 { nx := fun _ mu' => Pt .non mu', rt := Pt } := fun b A0 mu9 bf L9 => by
    obtain ⟨braw, bm⟩ := base_raw (wd := decide (ho ∈ homesOf v watch)) bf
    have ball : ∀ f ∈ b, f ∈ [("kept" : Str), "late", "mark", "same"] := fun f hf => by
      rcases bf with rfl | ⟨_, rfl | rfl⟩
      · cases hf
      · rw [List.mem_singleton.mp hf]; simp
      · rw [List.mem_singleton.mp hf]; simp
    have stay : ∀ mu9, Live mu mu9 p (c + 4) [(A0, .lst (stW b))] → _ := fun mu9 L9 => rest2 b A0 mu9 (.inl ⟨fun z => bm z.2, braw⟩) ball L9
    refine sss_cons (ss_if (st_of_w (sw_and (st_cmp (op_neD hr.units) ne_w (nomark _) (se_var (i := 2) rfl (se_tup (sa_nil ⟨by decide, ?_⟩)))))))
    refine ne_unit wnm ?_
    cases hw : watch with
    | nil =>
      subst hw
      exact sss_nil (stay _ (L9.mono (by omega)))
    | cons z zs =>
      have hz : z ∈ watch := by rw [hw]; simp
      rw [show (!decide (z :: zs = [])) = true from rfl]
      obtain ⟨sl, sm, sn⟩ := wk z hz
      refine sw_and1 (st_cmp op_eq eqT_w (nomark _) ?_)
      rw [← hw]
      refine se_callD D_house (hr.mono (by decide)) (sa_cons (se_var (i := 1) rfl (sa_cons (se_ix (se_var (i := 2) rfl (se_int ⟨.str z, by rw [hw]; exact atI_nat' (i := 0) rfl, sa_nil ?_⟩))))))
      refine ⟨Lo, v, sl, by rw [sn], lo.but L9.ex Lp, ok, sm, fun mu10 e10 => ?_⟩
      have L10 := L9.ext e10
      refine se_var (i := 4) rfl ⟨_, _, rfl, rfl, fun b2 hb2 => ?_⟩
      refine if2_split (fun hb3 => ?_) (fun _ => sss_nil (stay _ (L10.mono (by omega))))
      have he : sl.2.1 = ho := of_decide_eq_true (hb2.symm.trans hb3)
      have wt : decide (ho ∈ homesOf v watch) = true := decide_eq_true (List.mem_map.mpr ⟨sl, List.mem_filter.mpr ⟨sm, decide_eq_true (by rw [sn]; exact hz)⟩, he⟩)
      refine sss_cons (ss_asg (se_bin op_cat catL_w (se_var (i := 6) rfl ?_)))
      refine se_callD D_of (hr.mono (by decide)) (sa_cons (se_var (i := 0) rfl (sa_cons (se_lst ?_))))
      refine sa_cons (se_lst (sa_nil ⟨by decide, fun Q1 n1 => ?_⟩))
      have L11 := L10.new n1 (.lst (stW []))
      refine sa_cons (se_lst (sa_cons (se_str (sa_nil ⟨by show 1 ≤ sizeLine; decide, fun Q2 n2 => ?_⟩))))
      have L12 := L11.new n2 (.lst (stW ["mark"]))
      refine sa_cons (se_lst (sa_cons (se_str (sa_nil ⟨by show 1 ≤ sizeLine; decide, fun Q3 n3 => ?_⟩))))
      have L13 := L12.new n3 (.lst (stW ["same"]))
      refine sa_cons (se_lst (sa_cons (se_str (sa_cons (se_str (sa_nil ⟨by show 2 ≤ sizeLine; decide, fun Q4 n4 => ?_⟩))))))
      have L14 := L13.new n4 (.lst (stW ["mark", "same"]))
      refine sa_nil ⟨by show 4 ≤ sizeLine; decide, fun Q5 n5 => sa_nil ?_⟩
      have L15 := L14.tmp n5 (.lst [.m Q1, .m Q2, .m Q3, .m Q4])
      refine ⟨p, _, _, _, rfl, .inr (.inl ⟨Q5, rfl, Ne.symm (L14.jar.ne n5), setM_same⟩), by simp, by simp, L15.jar, by omega, fun u mu16 hu j16 e16 => ?_⟩
      have L16 := L15.step e16 j16
      have hq : ∃ q m, u = .m q ∧ m ∈ moreFl ∧ mu16 q = some (.lst (stW m)) := by
        simp only [List.mem_cons, List.not_mem_nil, or_false] at hu
        rcases hu with rfl | rfl | rfl | rfl
        · exact ⟨Q1, _, rfl, by simp [moreFl], L16.at 1 rfl⟩
        · exact ⟨Q2, _, rfl, by simp [moreFl], L16.at 2 rfl⟩
        · exact ⟨Q3, _, rfl, by simp [moreFl], L16.at 3 rfl⟩
        · exact ⟨Q4, _, rfl, by simp [moreFl], L16.at 4 rfl⟩
      obtain ⟨q, m, rfl, hm, hqm⟩ := hq
      have ml : m.length ≤ 2 := by
        unfold moreFl at hm
        simp only [List.mem_cons, List.not_mem_nil, or_false] at hm
        rcases hm with rfl | rfl | rfl | rfl <;> decide
      have mall : ∀ f ∈ m, f ∈ [("kept" : Str), "late", "mark", "same"] := fun f hf => by
        unfold moreFl at hm
        simp only [List.mem_cons, List.not_mem_nil, or_false] at hm
        rcases hm with rfl | rfl | rfl | rfl
        all_goals (simp only [List.mem_cons, List.not_mem_nil, or_false] at hf ⊢)
        · rw [hf]; simp
        · rw [hf]; simp
        · rcases hf with z | z <;> rw [z] <;> simp
      refine ⟨A0, q, stW b, stW m, rfl, rfl, L16.at 0 rfl, hqm, by unfold stW; rw [List.length_map, List.length_map]; have := braw.len; exact Nat.le_trans (by omega : b.length + m.length ≤ 6) (by decide), fun Z nZ => ?_⟩
      refine sg_name (i := 6) ?_ sc_Lrow.nd
      have L17 := L16.new nZ (.lst (stW (b ++ m)))
      have em : stW b ++ stW m = stW (b ++ m) := by unfold stW; rw [List.map_append]
      rw [em]
      refine sss_nil ?_
      refine rest2 (b ++ m) Z _ ?_ (fun f hf => ?_) ((L17.mono (by omega)).sub (by simp))
      · rw [wt]
        rcases more_of hwd bf hm with ⟨r, rfl, rfl, k⟩ | k
        · exact .inr ⟨r, rfl, k⟩
        · exact .inl k
      · rcases List.mem_append.mp hf with z | z
        · exact ball f z
        · exact mall f z
  -- an ask
  refine sss_cons (ss_if (st_cmp op_eq eqT_w (nomark _) (se_var (i := 5) rfl (se_str ⟨_, _, rfl, rfl, fun b hb => ?_⟩))))
  refine if2_split (fun hk => ?_) (fun _ => sss_nil (rest1 [] F0 _ (.inl rfl) (L4.mono (by omega))))
  have hask : word = "ask" := of_decide_eq_true (hb.symm.trans hk)
  refine sss_cons (ss_asg (se_callD D_of (hr.mono (by decide)) (sa_cons (se_var (i := 0) rfl (sa_cons (se_lst ?_))))))
  refine sa_cons (se_lst (sa_nil ⟨by decide, fun Q1 n1 => ?_⟩))
  have L5 := (Live.sub L4 (l' := []) (by simp)).new n1 (.lst (stW []))
  refine sa_cons (se_lst (sa_cons (se_str (sa_nil ⟨by show 1 ≤ sizeLine; decide, fun Q2 n2 => ?_⟩))))
  have L6 := L5.new n2 (.lst (stW ["kept"]))
  refine sa_cons (se_lst (sa_cons (se_str (sa_nil ⟨by show 1 ≤ sizeLine; decide, fun Q3 n3 => ?_⟩))))
  have L7 := L6.new n3 (.lst (stW ["late"]))
  refine sa_nil ⟨by show 3 ≤ sizeLine; decide, fun Q4 n4 => sa_nil ?_⟩
  have L8 := L7.tmp n4 (.lst [.m Q1, .m Q2, .m Q3])
  refine ⟨p, _, _, _, rfl, .inr (.inl ⟨Q4, rfl, Ne.symm (L7.jar.ne n4), setM_same⟩), by simp, by simp, L8.jar, by omega, fun u mu9 hu j9 e9 => ?_⟩
  have L9 := L8.step e9 j9
  simp only [List.mem_cons, List.not_mem_nil, or_false] at hu
  rcases hu with rfl | rfl | rfl
  · exact sg_name (i := 6) (sss_nil (rest1 [] Q1 _ (.inl rfl) ((L9.mono (by omega)).sub (by simp)))) sc_Lrow.nd
  · exact sg_name (i := 6) (sss_nil (rest1 ["kept"] Q2 _ (.inr ⟨hask, .inl rfl⟩) ((L9.mono (by omega)).sub (by simp)))) sc_Lrow.nd
  · exact sg_name (i := 6) (sss_nil (rest1 ["late"] Q3 _ (.inr ⟨hask, .inr rfl⟩) ((L9.mono (by omega)).sub (by simp)))) sc_Lrow.nd
end
end K1
set_option Elab.async false
set_option linter.all false
set_option maxRecDepth 100000
/-! k10: _law_drawn_scheme. -/
namespace K1
open PySem L2 Dv
inductive Rw where
  | say (a : Str)
  | step (word house : Str) (needs makes : Pat) (flags : List Str) (th ot : Nat)
def rwW : Rw → W
  | .say a => .tup [.str "say", .str a]
  | .step wd ho ne mk fl th ot => stepW wd ho ne mk fl th ot
structure Sch where
  nm : Str
  sort : Str
  watch : List Str
  rows : List Rw
def schW (s : Sch) : W := .tup [.str s.nm, .str s.sort, nmW s.watch, .tup (s.rows.map rwW)]
def sorts4 : List Str := ["put", "drop", "look", "move"]
def answers4 (so : Str) : Option (List Str) := if so = "put" then some ["done", "refused", "again"] else if so = "drop" then some ["done", "none", "again"] else if so = "look" then some ["there", "none", "again"] else if so = "move" then some ["done", "again"] else none
def RwOk (v : Wd) (sort : Str) (watch : List Str) (many : Nat) : Rw → Prop
  | .say a => ∃ ys, answers4 sort = some ys ∧ a ∈ ys
  | .step wd ho ne mk fl th ot => StepOk v watch many wd ho ne mk fl th ot
structure WatchOk (v : Wd) (watch : List Str) : Prop where
  sub : ∀ z ∈ watch, ∃ s ∈ v.slots, s.1 = z
  up : rising (stW watch) = true
  one : ∃ ho, ∀ s ∈ v.slots, s.1 ∈ watch → s.2.1 = ho
  len : watch.length ≤ 6
structure SchOk (v : Wd) (s : Sch) : Prop where
  nm : NmOk s.nm
  so : s.sort ∈ sorts4
  wt : WatchOk v s.watch
  lo : 2 ≤ s.rows.length
  hi : s.rows.length ≤ 12
  each : ∀ r ∈ s.rows, RwOk v s.sort s.watch s.rows.length r
  first : ∃ wd ho ne mk fl th ot r, s.rows = .step wd ho ne mk fl th ot :: r
theorem Live.newD {mu0 mu1 mu : Mu} {p D : Addr} {c : Nat} {l : List (Addr × C)} (L : Live mu0 mu p c l) (L1 : ∃ c1 l1, Live mu0 mu1 p c1 l1 ∧ l.Sublist l1) (h : mu1 D = none) (x : C) : Live mu0 (setM mu D x) p c (l ++ [(D, x)]) := by
  obtain ⟨c1, l1, L1, sb⟩ := L1
  obtain ⟨f0, ap⟩ := L1.fresh h
  have na : ∀ q ∈ l, q.1 ≠ D := fun q hq z => by
    have := (L1.cell q (sb.subset hq)).1
    rw [z, h] at this
    cases this
  refine ⟨L.jar.set (Ne.symm ap), fun q hq => ?_, ?_, fun a k ha hk => ?_⟩
  · rcases List.mem_append.mp hq with z | z
    · rw [setM_ne (na q z)]
      exact L.cell q z
    · rw [List.mem_singleton.mp z]
      exact ⟨setM_same, ap, f0⟩
  · rw [List.map_append, List.nodup_append]
    refine ⟨L.nd, by simp, fun b hb d hd e => ?_⟩
    obtain ⟨q, hq, rfl⟩ := List.mem_map.mp hb
    rw [List.map_cons, List.map_nil, List.mem_singleton] at hd
    exact na q hq (e.trans hd)
  · have : a ≠ D := fun z => by rw [z, f0] at hk; cases hk
    rw [setM_ne this]
    exact L.ex a k ha hk
theorem Live.pick2 {mu0 mu : Mu} {p a b : Addr} {c : Nat} {l : List (Addr × C)} {x y : C} (L : Live mu0 mu p c l) (i j : Nat) (hij : i ≠ j) (hi : l[i]? = some (a, x)) (hj : l[j]? = some (b, y)) : Live mu0 mu p c [(a, x), (b, y)] := by
  have ha := L.cell _ (List.mem_of_getElem? hi)
  have hb := L.cell _ (List.mem_of_getElem? hj)
  refine ⟨L.jar, fun q hq => ?_, ?_, L.ex⟩
  · simp only [List.mem_cons, List.not_mem_nil, or_false] at hq
    rcases hq with rfl | rfl
    · exact ha
    · exact hb
  · have ne : a ≠ b := fun z => by
      have h1 : (l.map (·.1))[i]? = some a := by rw [List.getElem?_map, hi]; rfl
      have h2 : (l.map (·.1))[j]? = some a := by rw [List.getElem?_map, hj]; exact congrArg some z.symm
      exact absurd ((List.getElem?_inj (List.getElem?_eq_some_iff.mp h1).1 L.nd).mp (h1.trans h2.symm)) (by omega)
    simp [ne]
theorem k_pd : ([(.inr "put" : Key), .inr "drop"]).Nodup := by decide +kernel
theorem k_lm : ([(.inr "look" : Key), .inr "move"]).Nodup := by decide +kernel
theorem k_pn : (.inr "put" : Key) ∉ ([(.inr "look" : Key), .inr "move"]) := (List.nodup_cons.mp (show ([(.inr "put" : Key), .inr "look", .inr "move"]).Nodup by decide +kernel)).1
theorem k_dn : (.inr "drop" : Key) ∉ ([(.inr "look" : Key), .inr "move"]) := (List.nodup_cons.mp (show ([(.inr "drop" : Key), .inr "look", .inr "move"]).Nodup by decide +kernel)).1
theorem a_p : answers4 "put" = some [("done" : Str), "refused", "again"] := by decide +kernel
theorem a_d : answers4 "drop" = some [("done" : Str), "none", "again"] := by decide +kernel
theorem a_l : answers4 "look" = some [("there" : Str), "none", "again"] := by decide +kernel
theorem a_m : answers4 "move" = some [("done" : Str), "again"] := by decide +kernel
section
variable {P : Program} {w : World} {K : PySem.W.Frag} {mg : Str → Option Value} {base : Heap}
abbrev N_Ldrawn : List Str := ["_law_jar_here", "_law_lore", "_law_name", "_law_most", "_law_sort", "_law_answers", "_law_house_here", "_law_watch", "_law_slot", "_law_many", "_law_rows", "_law_turn"]
abbrev s_Ldrawn : Stmt := top 77
theorem sc_Ldrawn : FnScope N_Ldrawn ["_law_jar_here", "_law_lore", "_law_name", "_law_most"] (defScope s_Ldrawn) := ⟨rfl, rfl, rfl, by decide +kernel, rfl, by decide +kernel, by decide +kernel⟩
def S_ldrawn : SpW := fun ws mu P => ∃ p Lo v name most c, ws = [.m p, .m Lo, .str name, .int ((most : Nat) : Int)] ∧ Lore mu Lo v ∧ WdOk v ∧ Lo ≠ p ∧ NmOk name ∧ 1 ≤ most ∧ most ≤ 6 ∧ JarOk mu p c ∧ c + 500 < 10000 ∧
  ∀ s mu', SchOk v s → s.nm = name → JarOk mu' p (c + 400) → ExtBut p mu mu' → P (schW s) mu'
set_option maxHeartbeats 4000000 in
theorem d_Ldrawn (D : Dfn K mg "_law_drawn_scheme" s_Ldrawn ["_law_jar_here", "_law_lore", "_law_name", "_law_most"]) (B : Bl mg) (D_take : DTake P w K mg base) (D_of : DOf P w K mg base) (D_row : DefOk P w K mg base "_law_row" ["_law_jar_here", "_law_lore", "_law_watch", "_law_many"] 4 S_lrow) : DefOk P w K mg base "_law_drawn_scheme" ["_law_jar_here", "_law_lore", "_law_name", "_law_most"] 5 S_ldrawn := by
  refine dfnOk D sc_Ldrawn (fun ws mu P ⟨_, _, _, _, _, _, e, _⟩ => by rw [e]; rfl) (fun f cdv A outer s H E hr ws mu Pt ⟨p, Lo, v, name, most, c, e, lo, ok, Lp, nmn, m1, m6, jar, c1, h⟩ => ?_)
  subst e
  refine sss_cons (ss_asg (se_callD D_of (hr.mono (by decide)) (sa_cons (se_var (i := 0) rfl (sa_cons (se_lst ?_))))))
  refine sa_cons (se_str (sa_cons (se_str (sa_cons (se_str (sa_cons (se_str (sa_cons (se_str (sa_nil ⟨by show 5 ≤ sizeLine; decide, fun q nq => sa_nil ?_⟩))))))))))
  have L0 := (Live.zero jar).tmp nq (.lst [.str "put", .str "put", .str "drop", .str "look", .str "move"])
  refine ⟨p, _, _, _, rfl, .inr (.inl ⟨q, rfl, Ne.symm (jar.ne nq), setM_same⟩), by simp, by simp, L0.jar, by omega, fun u mu1 hu j1 e1 => ?_⟩
  have L1 := L0.step e1 j1
  have hso : ∃ so, u = .str so ∧ (so = "put" ∨ so = "drop" ∨ so = "look" ∨ so = "move") := by
    simp only [List.mem_cons, List.not_mem_nil, or_false] at hu
    rcases hu with rfl | rfl | rfl | rfl | rfl
    · exact ⟨_, rfl, .inl rfl⟩
    · exact ⟨_, rfl, .inl rfl⟩
    · exact ⟨_, rfl, .inr (.inl rfl)⟩
    · exact ⟨_, rfl, .inr (.inr (.inl rfl))⟩
    · exact ⟨_, rfl, .inr (.inr (.inr rfl))⟩
  obtain ⟨so, rfl, hso⟩ := hso
  refine sg_name (i := 4) ?_ sc_Ldrawn.nd
  -- the answers
  refine sss_cons ?_
  refine ss_asg ?_
  refine se_disp ?_ ?_ ?_ ?_ ?_
  case refine_2 => rfl
  case refine_3 => rfl
  case refine_4 => exact List.cons_ne_nil _ _
  case refine_5 => show 2 ≤ 15; decide
  unfold SPs
  refine se_str (se_lst (sa_cons (se_str (sa_cons (se_str (sa_cons (se_str (sa_nil ⟨by show 3 ≤ sizeLine; decide, fun q0 n0 => ?_⟩))))))))
  have L2 := L1.new n0 (.lst (stW ["done", "refused", "again"]))
  unfold SPs
  refine se_str (se_lst (sa_cons (se_str (sa_cons (se_str (sa_cons (se_str (sa_nil ⟨by show 3 ≤ sizeLine; decide, fun q1 n1 => ?_⟩))))))))
  have L3 := L2.new n1 (.lst (stW ["done", "none", "again"]))
  unfold SPs
  obtain ⟨kv1, ekv1⟩ : ∃ kv1, kv1 = [((.inr "put" : Key), W.m q0), (.inr "drop", .m q1)] := ⟨_, rfl⟩
  refine ⟨kv1, by rw [ekv1]; rfl, by rw [ekv1]; exact k_pd, by rw [ekv1]; show 2 ≤ 15; decide, fun d nd => ?_⟩
  have L4 := L3.new nd (.dic kv1)
  refine sg_name (i := 5) ?_ sc_Ldrawn.nd
  refine sss_cons (ss_expr (se_update (se_var (i := 5) rfl ⟨⟨_, L4.at 2 rfl⟩, sa_one ?_⟩)))
  refine se_disp ?_ ?_ ?_ ?_ ?_
  case refine_2 => rfl
  case refine_3 => rfl
  case refine_4 => exact List.cons_ne_nil _ _
  case refine_5 => show 2 ≤ 15; decide
  unfold SPs
  refine se_str (se_lst (sa_cons (se_str (sa_cons (se_str (sa_cons (se_str (sa_nil ⟨by show 3 ≤ sizeLine; decide, fun q2 n2 => ?_⟩))))))))
  have L5 := L4.new n2 (.lst (stW ["there", "none", "again"]))
  unfold SPs
  refine se_str (se_lst (sa_cons (se_str (sa_cons (se_str (sa_nil ⟨by show 2 ≤ sizeLine; decide, fun q3 n3 => ?_⟩))))))
  have L6 := L5.new n3 (.lst (stW ["done", "again"]))
  unfold SPs
  obtain ⟨kv2, ekv2⟩ : ∃ kv2, kv2 = [((.inr "look" : Key), W.m q2), (.inr "move", .m q3)] := ⟨_, rfl⟩
  refine ⟨kv2, by rw [ekv2]; rfl, by rw [ekv2]; exact k_lm, by rw [ekv2]; show 2 ≤ 15; decide, fun o no => ?_⟩
  have L7 := L6.new no (.dic kv2)
  have od : d ≠ o := fun z => by
    have h1 := L6.at 2 rfl
    have h2 := no
    rw [← z] at h2
    cases h1.symm.trans h2
  refine ⟨kv1, kv2, ⟨L7.at 2 rfl, by rw [ekv1]; exact k_pd⟩, L7.at 5 rfl, od, by rw [ekv1, ekv2]; show 4 ≤ sizeLine; decide, ?_⟩
  have L8 := L7.put 2 rfl (.dic (mergeW kv1 kv2))
  have k2 : (kv2.map (·.1)).Nodup := by rw [ekv2]; exact k_lm
  have ans : ∃ q ys, valW (mergeW kv1 kv2) (.inr so) = some (.m q) ∧ answers4 so = some ys ∧ ys ≠ [] ∧ ys.length ≤ 3 ∧ Live mu (setM (setM (setM (setM (setM (setM (setM mu1 q0 (.lst (stW ["done", "refused", "again"]))) q1 (.lst (stW ["done", "none", "again"]))) d (.dic kv1)) q2 (.lst (stW ["there", "none", "again"]))) q3 (.lst (stW ["done", "again"]))) o (.dic kv2)) d (.dic (mergeW kv1 kv2))) p (c + 1) [(d, .dic (mergeW kv1 kv2)), (q, .lst (stW ys))] := by
    rcases hso with rfl | rfl | rfl | rfl
    · exact ⟨q0, _, (merge_old (by rw [ekv2]; exact k_pn)).trans (by rw [ekv1]; rfl), a_p, by simp, by simp, L8.pick2 2 0 (by decide) rfl rfl⟩
    · exact ⟨q1, _, (merge_old (by rw [ekv2]; exact k_dn)).trans (by rw [ekv1]; rfl), a_d, by simp, by simp, L8.pick2 2 1 (by decide) rfl rfl⟩
    · exact ⟨q2, _, merge_new k2 (by rw [ekv2]; simp), a_l, by simp, by simp, L8.pick2 2 3 (by decide) rfl rfl⟩
    · exact ⟨q3, _, merge_new k2 (by rw [ekv2]; simp), a_m, by simp, by simp, L8.pick2 2 4 (by decide) rfl rfl⟩
  obtain ⟨qa, ys, vso, eys, yne, yl, L9⟩ := ans
  clear L8 L7 L6 L5 L4 L3 L2
  change SSs _ _ _ (setM (setM (setM (setM (setM (setM (setM mu1 q0 (.lst (stW ["done", "refused", "again"]))) q1 (.lst (stW ["done", "none", "again"]))) d (.dic kv1)) q2 (.lst (stW ["there", "none", "again"]))) q3 (.lst (stW ["done", "again"]))) o (.dic kv2)) d (.dic (mergeW kv1 kv2))) _
  generalize setM (setM (setM (setM (setM (setM (setM mu1 q0 (.lst (stW ["done", "refused", "again"]))) q1 (.lst (stW ["done", "none", "again"]))) d (.dic kv1)) q2 (.lst (stW ["there", "none", "again"]))) q3 (.lst (stW ["done", "again"]))) o (.dic kv2)) d (.dic (mergeW kv1 kv2)) = mu9 at L9 ⊢
  -- the house
  refine sss_cons (ss_asg (se_callD D_of (hr.mono (by decide)) (sa_cons (se_var (i := 0) rfl (sa_cons (se_dget (hu_of hr) (se_var (i := 1) rfl (se_str ((lo.but L9.ex Lp).houses (sa_nil ?_)))))))))) 
  refine ⟨p, _, stW v.houses, _, rfl, .inl rfl, fun q => by have := ok.hs.lo; rw [List.map_eq_nil_iff.mp q] at this; simp at this, by unfold stW; rw [List.length_map]; have := ok.hs.hi; omega, L9.jar, by omega, fun u mu10 hu j10 e10 => ?_⟩
  obtain ⟨ho, hho, rfl⟩ := List.mem_map.mp hu
  have L10 := L9.step e10 j10
  refine sg_name (i := 6) ?_ sc_Ldrawn.nd
  -- the watch
  refine sss_cons (ss_asg (se_tupleC ?_ B.tuple))
  refine se_lc1 (own := [("_law_slot", 8)]) (.nm 8) rfl sc_Ldrawn.nd (blkOk_by (N := N_Ldrawn) (sc := defScope s_Ldrawn) (by decide +kernel)) rfl (fun _ _ _ _ _ => (pg_name (i := 8) sc_Ldrawn.nd rfl (Or.inl rfl))) (by intro _; rfl) ?_
  refine si_lst (se_sortT hr (se_dget (hu_of hr) (se_var (i := 1) rfl (se_str ((lo.but L10.ex Lp).slots ?_)))) B.sorted)
  obtain ⟨s1, s2, s3, s4⟩ := sort_sls (ss := v.slots)
  refine ⟨_, rfl, s1, s2, s3, s4, fun S nS => ?_⟩
  rw [asSl_sort]
  have L11 := L10.new nS (.lst ((asSl v.slots).map slW1))
  refine ⟨_, setM_same, ?_⟩
  generalize setM mu10 S (.lst ((asSl v.slots).map slW1)) = mu11 at L11 ⊢
  have pm := asSl_perm v.slots
  have l6 : (asSl v.slots).length ≤ 6 := by rw [pm.length_eq]; exact ok.ss.hi
  intro Dw nDw
  refine ⟨fun i acc mu' => ∃ zs : List Str, acc = zs.map W.str ∧ zs.Sublist (((asSl v.slots).take i).map (·.1)) ∧ (∀ z ∈ zs, ∃ sl ∈ v.slots, sl.1 = z ∧ sl.2.1 = ho) ∧ Live mu mu' p (c + 2 + i) [(d, .dic (mergeW kv1 kv2)), (qa, .lst (stW ys)), (S, .lst ((asSl v.slots).map slW1))],
    ⟨[], rfl, by simp, by simp, L11⟩, fun i acc mu' _ ⟨zs, ea, sb, al, LL⟩ => LL.at 2 rfl, fun i u acc mu' hu ⟨zs, ea, sb, al, LL⟩ => ?_, fun acc mu' ⟨zs, ea, sb, al, LL⟩ => ?_⟩
  · rw [List.getElem?_map] at hu
    cases ht : (asSl v.slots)[i]? with
    | none => rw [ht] at hu; cases hu
    | some sl =>
    rw [ht] at hu
    cases hu
    have sm := pm.mem_iff.mp (List.mem_of_getElem? ht)
    have i6 : i < 6 := Nat.lt_of_lt_of_le (List.getElem?_eq_some_iff.mp ht).1 l6
    have sb2 : zs.Sublist (((asSl v.slots).take (i + 1)).map (·.1)) := by
      rw [List.take_add_one, List.map_append]
      exact sb.trans (List.sublist_append_left _ _)
    have zl : zs.length ≤ i := by
      have := sb.length_le
      rw [List.length_map, List.length_take] at this
      omega
    refine ⟨by rw [ea, List.length_map]; exact Nat.lt_of_le_of_lt zl (Nat.lt_trans i6 (by decide)), _, rfl, fun s H C cl fp => ?_⟩
    refine st_of_w (sw_and (st_cmp op_eq eqT_w (nomark _) (se_ix (se_var (i := 8) rfl (se_int ⟨.str sl.2.1, atI_nat' (i := 1) rfl, ?_⟩)))))
    refine se_var (i := 6) rfl ⟨_, _, rfl, rfl, fun b hb => ?_⟩
    refine if2_split (fun hb1 => ?_) (fun _ => ⟨zs, ea, sb2, al, LL.mono (by omega)⟩)
    refine sw_and1 (st_cmp op_eq eqN_w (nomark _) ?_)
    refine se_callD D_take (hr.mono (by decide)) (sa_cons (se_var (i := 0) rfl (sa_cons (se_int (sa_nil ?_)))))
    refine ⟨p, 2, _, rfl, by decide, by decide, LL.jar, by omega, fun z mu13 z0 z1 j13 e13 => ?_⟩
    have LM := LL.step e13 j13
    refine se_int ⟨_, _, rfl, rfl, fun b2 hb2 => ?_⟩
    refine if2_split (fun _ s H C cl fp => ?_) (fun _ => ⟨zs, ea, sb2, al, LM.mono (by omega)⟩)
    refine se_ix (se_var (i := 8) rfl (se_int ⟨.str sl.1, atI_nat' (i := 0) rfl, ?_⟩))
    refine ⟨zs ++ [sl.1], by rw [ea, List.map_append]; rfl, ?_, fun z hz => ?_, LM.mono (by omega)⟩
    · rw [List.take_add_one, List.map_append, ht]
      exact sb.append (List.Sublist.refl _)
    · rcases List.mem_append.mp hz with z1 | z1
      · exact al z z1
      · rw [List.mem_singleton.mp z1]
        exact ⟨sl, sm, rfl, of_decide_eq_true (hb.symm.trans hb1)⟩
  subst ea
  rw [List.length_map] at sb LL
  rw [List.take_length] at sb
  have LD := (Live.sub LL (l' := [(d, .dic (mergeW kv1 kv2)), (qa, .lst (stW ys))]) (by simp)).newD ⟨_, _, L11, by simp⟩ nDw (.lst (stW zs))
  refine ⟨_, setM_same, ?_⟩
  have L12 := Live.sub LD (l' := [(d, .dic (mergeW kv1 kv2)), (qa, .lst (stW ys))]) (by simp)
  change SG _ _ _ _ (setM mu' Dw (.lst (stW zs))) _
  generalize setM mu' Dw (.lst (stW zs)) = mu12 at L12 ⊢
  clear LD LL
  have wsub : ∀ z ∈ zs, ∃ sl ∈ v.slots, sl.1 = z := fun z hz => by
    obtain ⟨sl, h1, h2, _⟩ := al z hz
    exact ⟨sl, h1, h2⟩
  have WO : WatchOk v zs := by
    refine ⟨wsub, rising_sub (asSl_up ok.ss.nd) sb, ⟨ho, fun sl hsl hz => ?_⟩, ?_⟩
    · obtain ⟨s2, h1, h2, h3⟩ := al _ hz
      rw [slot_one ok.ss.nd hsl h1 h2.symm]
      exact h3
    · have := sb.length_le
      rw [List.length_map] at this
      omega
  refine sg_name (i := 7) ?_ sc_Ldrawn.nd
  -- how many
  refine sss_cons (ss_asg (se_bin op_Add Add_w (se_int (se_callD D_take (hr.mono (by decide)) (sa_cons (se_var (i := 0) rfl (sa_cons (se_var (i := 3) rfl (sa_nil ?_)))))))))
  refine ⟨p, _, _, rfl, by omega, by omega, L12.jar, by omega, fun t mu13 t0 t1 j13 e13 => ?_⟩
  have L13 := L12.step e13 j13
  obtain ⟨t, rfl⟩ := Int.eq_ofNat_of_zero_le t0
  have em : (1 : Int) + (t : Int) = ((t + 1 : Nat) : Int) := by omega
  refine sg_name (i := 9) ?_ sc_Ldrawn.nd
  rw [em]
  -- the rows
  refine sss_cons (ss_setlc (i := 10) (own := [("_law_turn", 11)]) (.nm 11) rfl sc_Ldrawn.nd rfl rfl (sw_true rfl rfl rfl (by decide +kernel)) (blkOk_by (N := N_Ldrawn) (sc := defScope s_Ldrawn) (by decide +kernel)) rfl (fun _ _ _ _ _ => (pg_name (i := 11) sc_Ldrawn.nd rfl (Or.inl rfl))) (by intro _; rfl) ?_)
  refine si_range (se_var (i := 9) rfl ⟨by omega, by omega, ?_⟩) B.range
  rw [Int.toNat_natCast]
  intro Dr nDr
  refine ⟨fun i acc mu' => ∃ rs : List Rw, acc = rs.map rwW ∧ rs.length = i ∧ (∀ r ∈ rs, ∃ wd ho ne mk fl th ot, r = .step wd ho ne mk fl th ot ∧ StepOk v zs (t + 1 + 2) wd ho ne mk fl th ot) ∧ Live mu mu' p (c + 9 + 60 * i) [(d, .dic (mergeW kv1 kv2)), (qa, .lst (stW ys))],
    ⟨[], rfl, rfl, by simp, L13.mono (by omega)⟩, fun _ _ _ _ _ => trivial, fun i u acc mu' hu ⟨rs, ea, el, al2, LL⟩ => ?_, fun acc mu' ⟨rs, ea, el, al2, LL⟩ => ?_⟩
  · have hi : i < t + 1 := by have := (List.getElem?_eq_some_iff.mp hu).1; simpa using this
    refine ⟨by rw [ea, List.length_map, el]; exact Nat.lt_of_lt_of_le (by omega : i < 10) (by decide), _, rfl, fun s H C cl fp => ?_⟩
    refine se_callD D_row (hr.mono (by decide)) (sa_cons (se_var (i := 0) rfl (sa_cons (se_var (i := 1) rfl (sa_cons (se_var (i := 7) rfl (sa_cons (se_bin op_Add Add_w (se_var (i := 9) rfl (se_int (sa_nil ?_)))))))))))
    refine ⟨p, Lo, v, zs, t + 1 + 2, _, rfl, lo.but LL.ex Lp, ok, Lp, wsub, by omega, by omega, LL.jar, by omega, fun wd ho ne mk fl th ot mu14 k j14 e14 => ?_⟩
    refine ⟨rs ++ [.step wd ho ne mk fl th ot], by rw [ea, List.map_append]; rfl, by rw [List.length_append, el]; rfl, fun r hr2 => ?_, (LL.step e14 j14).mono (by omega)⟩
    rcases List.mem_append.mp hr2 with z | z
    · exact al2 r z
    · exact ⟨_, _, _, _, _, _, _, List.mem_singleton.mp z, k⟩
  subst ea
  rw [List.length_map, List.length_range] at el LL
  have LD := LL.newD ⟨_, _, L13, by simp⟩ nDr (.lst (rs.map rwW))
  show SSs _ _ _ _ _
  change SSs _ _ _ (setM mu' Dr (.lst (rs.map rwW))) _
  generalize setM mu' Dr (.lst (rs.map rwW)) = mu14 at LD ⊢
  -- the says
  refine sss_cons (ss_asg (se_bin op_cat catL_w (se_var (i := 10) rfl (se_lst ?_))))
  have say : ∀ mu7, Live mu mu7 p (c + 9 + 60 * (t + 1)) [(d, .dic (mergeW kv1 kv2)), (qa, .lst (stW ys)), (Dr, .lst (rs.map rwW))] → True := fun _ _ => trivial
  refine sa_cons (se_tup (sa_cons (se_str (sa_cons (se_callD D_of (hr.mono (by decide)) (sa_cons (se_var (i := 0) rfl (sa_cons (se_dget (hu_of hr) (se_var (i := 5) rfl (se_var (i := 4) rfl ⟨d, _, _, .m qa, rfl, LD.at 0 rfl, rfl, vso, sa_nil ?_⟩)))))))))))
  refine ⟨p, _, _, _, rfl, .inr (.inl ⟨qa, rfl, LD.ne 1 rfl, LD.at 1 rfl⟩), fun z => yne (List.map_eq_nil_iff.mp z), by unfold stW; rw [List.length_map]; omega, LD.jar, by omega, fun u mu15 hu j15 e15 => ?_⟩
  obtain ⟨y1, hy1, rfl⟩ := List.mem_map.mp hu
  have L15 := LD.step e15 j15
  refine sa_nil ⟨by show 2 ≤ sizeLine; decide, ?_⟩
  refine sa_cons (se_tup (sa_cons (se_str (sa_cons (se_callD D_of (hr.mono (by decide)) (sa_cons (se_var (i := 0) rfl (sa_cons (se_dget (hu_of hr) (se_var (i := 5) rfl (se_var (i := 4) rfl ⟨d, _, _, .m qa, rfl, L15.at 0 rfl, rfl, vso, sa_nil ?_⟩)))))))))))
  refine ⟨p, _, _, _, rfl, .inr (.inl ⟨qa, rfl, L15.ne 1 rfl, L15.at 1 rfl⟩), fun z => yne (List.map_eq_nil_iff.mp z), by unfold stW; rw [List.length_map]; omega, L15.jar, by omega, fun u mu16 hu j16 e16 => ?_⟩
  obtain ⟨y2, hy2, rfl⟩ := List.mem_map.mp hu
  have L16 := L15.step e16 j16
  refine sa_nil ⟨by show 2 ≤ sizeLine; decide, sa_nil ⟨by show 2 ≤ sizeLine; decide, fun q6 n6 => ?_⟩⟩
  have L17 := L16.new n6 (.lst [rwW (.say y1), rwW (.say y2)])
  refine ⟨Dr, q6, rs.map rwW, [rwW (.say y1), rwW (.say y2)], rfl, rfl, L17.at 2 rfl, L17.at 3 rfl, by rw [List.length_map, el]; exact Nat.le_trans (by omega : t + 1 + 2 ≤ 10) (by decide), fun q7 n7 => ?_⟩
  have L18 := L17.new n7 (.lst (rs.map rwW ++ [rwW (.say y1), rwW (.say y2)]))
  refine sg_name (i := 10) ?_ sc_Ldrawn.nd
  refine sss_cons (ss_ret (se_tup ?_))
  refine sa_cons (se_var (i := 2) rfl (sa_cons (se_var (i := 4) rfl (sa_cons (se_var (i := 7) rfl (sa_cons (se_tupleC (se_var (i := 10) rfl ⟨_, L18.at 4 rfl, sa_nil ⟨by show 4 ≤ sizeLine; decide, ?_⟩⟩) B.tuple)))))))
  have er : rs.map rwW ++ [rwW (.say y1), rwW (.say y2)] = (rs ++ [Rw.say y1, Rw.say y2]).map rwW := by rw [List.map_append]; rfl
  rw [er] at L18 ⊢
  have rl : (rs ++ [Rw.say y1, .say y2]).length = t + 1 + 2 := by rw [List.length_append, el]; rfl
  refine h ⟨name, so, zs, rs ++ [Rw.say y1, Rw.say y2]⟩ _ ⟨nmn, ?_, WO, by rw [rl]; omega, by rw [rl]; omega, fun r hr2 => ?_, ?_⟩ rfl (L18.jar.mono (by omega)) ?_
  · show so ∈ sorts4
    unfold sorts4
    rcases hso with rfl | rfl | rfl | rfl <;> simp
  · rw [rl]
    rcases List.mem_append.mp hr2 with z | z
    · obtain ⟨wd, ho, ne, mk, fl, th, ot, rfl, k⟩ := al2 r z
      exact k
    · simp only [List.mem_cons, List.not_mem_nil, or_false] at z
      rcases z with rfl | rfl
      · exact ⟨ys, eys, hy1⟩
      · exact ⟨ys, eys, hy2⟩
  · cases rs with
    | nil => simp at el
    | cons r0 rs =>
      obtain ⟨wd, ho, ne, mk, fl, th, ot, rfl, k⟩ := al2 r0 (by simp)
      exact ⟨wd, ho, ne, mk, fl, th, ot, _, rfl⟩
  · exact L18.ex
end
end K1
set_option Elab.async false
set_option linter.all false
set_option maxRecDepth 100000
/-! k09: the text that the law writes. -/
namespace K1
open PySem L2 Dv
def pairS (q : Str × Str) : Str := q.1 ++ "=" ++ q.2
def pairsS (p : Pat) : List Str := p.map pairS
def slotLine (s : Slot) : List Str := "slot" :: s.1 :: s.2.1 :: s.2.2
def lapLine (l : Lap) : List Str := ((([("lapse" : Str), l.1] : List Str) ++ pairsS l.2.1) ++ [(":" : Str)]) ++ pairsS l.2.2
def linesOf (v : Wd) : List (List Str) := [[("houses" : Str)] ++ v.houses] ++ v.slots.map slotLine ++ v.bears.map (fun p => [("bears" : Str)] ++ pairsS p) ++ v.never.map (fun p => [("never" : Str)] ++ pairsS p) ++ v.lapses.map lapLine
def pageS (v : Wd) : Str := Txt.join "\n" ((linesOf v).map (Txt.join " "))
theorem st_app (a b : List Str) : stW a ++ stW b = stW (a ++ b) := by unfold stW; rw [List.map_append]
theorem len_app (x y : Str) : (x ++ y).length = x.length + y.length := by
  have h := congrArg List.length (str_app x y)
  rw [List.length_append, Array.length_toList, Array.length_toList, Array.length_toList] at h
  exact h
theorem join_le (z : Str) : ∀ ys : List Str, (Txt.join z ys).length ≤ (ys.map (·.length)).sum + ys.length * z.length := fun ys => by
  rw [TL.join_eq]
  induction ys with
  | nil => exact Nat.zero_le _
  | cons x r ih =>
    cases r with
    | nil => show x.length ≤ _; simp
    | cons y r =>
      show (x ++ z ++ Str.join z (y :: r)).length ≤ _
      rw [len_app, len_app]
      simp only [List.map_cons, List.sum_cons, List.length_cons, Nat.succ_mul] at ih ⊢
      omega
/-- lines that are short -/
def LnOk (l : List Str) : Prop := l.length ≤ 30 ∧ ∀ z ∈ l, z.length ≤ 20
theorem sum_le {l : List Str} {k : Nat} (h : ∀ z ∈ l, z.length ≤ k) : (l.map (·.length)).sum ≤ l.length * k := by
  induction l with
  | nil => simp
  | cons x r ih =>
    have h1 := h x (by simp)
    have h2 := ih fun z hz => h z (by simp [hz])
    simp only [List.map_cons, List.sum_cons, List.length_cons, Nat.succ_mul]
    omega
theorem pair_len {q : Str × Str} (h : NmOk q.1 ∧ NmOk q.2) : (pairS q).length ≤ 20 := by
  unfold pairS
  rw [len_app, len_app]
  have h1 := h.1.2.1
  have h2 := h.2.2.1
  have : ("=" : Str).length = 1 := by decide +kernel
  omega
theorem pt_nm {v : Wd} (ok : WdOk v) {p : Pat} (k : ∀ q ∈ p, PrOk v.slots q) : ∀ q ∈ p, NmOk q.1 ∧ NmOk q.2 := fun q hq => by
  obtain ⟨s, hs, e, e2⟩ := k q hq
  have z := ok.ss.each s hs
  exact ⟨e ▸ z.nm, z.wm _ e2⟩
theorem lap_pr {ss : List Slot} {l : Lap} (h : LpOk ss l) : (∀ q ∈ l.2.1, PrOk ss q) ∧ ∀ q ∈ l.2.2, PrOk ss q :=
  ⟨fun q hq => let ⟨s, h1, h2⟩ := h.needs.pr q hq; ⟨s, (List.mem_filter.mp h1).1, h2⟩, fun q hq => let ⟨s, h1, h2⟩ := h.makes.pr q hq; ⟨s, (List.mem_filter.mp h1).1, h2⟩⟩
theorem ln_cons {x : Str} {l : List Str} (hx : x.length ≤ 20) (h : l.length ≤ 20 ∧ ∀ z ∈ l, z.length ≤ 20) : LnOk ([x] ++ l) := ⟨by simp; omega, fun z hz => by
  rcases List.mem_append.mp hz with hz | hz
  · rw [List.mem_singleton.mp hz]; exact hx
  · exact h.2 z hz⟩
theorem pairs_ok {p : Pat} (h6 : p.length ≤ 6) (h : ∀ q ∈ p, NmOk q.1 ∧ NmOk q.2) : (pairsS p).length ≤ 6 ∧ ∀ z ∈ pairsS p, z.length ≤ 20 :=
  ⟨by unfold pairsS; rw [List.length_map]; exact h6, fun z hz => by obtain ⟨q, hq, rfl⟩ := List.mem_map.mp hz; exact pair_len (h q hq)⟩
theorem nm20 {z : Str} (h : NmOk z) : z.length ≤ 20 := Nat.le_trans h.2.1 (by decide)
theorem lines_ok {v : Wd} (ok : WdOk v) : (linesOf v).length ≤ 31 ∧ ∀ l ∈ linesOf v, LnOk l := by
  refine ⟨?_, fun l hl => ?_⟩
  · unfold linesOf
    simp only [List.length_append, List.length_map, List.length_singleton]
    have := ok.ss.hi
    have := ok.bears.len
    have := ok.never.len
    have := ok.len
    omega
  · unfold linesOf at hl
    rcases List.mem_append.mp hl with hl | hl
    · rcases List.mem_append.mp hl with hl | hl
      · rcases List.mem_append.mp hl with hl | hl
        · rcases List.mem_append.mp hl with hl | hl
          · rw [List.mem_singleton.mp hl]
            exact ln_cons (by decide +kernel) ⟨Nat.le_trans ok.hs.hi (by decide), fun z hz => nm20 (ok.hs.nm z hz)⟩
          · obtain ⟨s, hs, rfl⟩ := List.mem_map.mp hl
            have z := ok.ss.each s hs
            refine ⟨by unfold slotLine; have := z.hi; simp only [List.length_cons]; omega, fun w hw => ?_⟩
            unfold slotLine at hw
            simp only [List.mem_cons] at hw
            rcases hw with e | e | e | e
            · rw [e]; decide +kernel
            · rw [e]; exact nm20 z.nm
            · rw [e]; exact nm20 (ok.hs.nm _ z.home)
            · exact nm20 (z.wm w e)
        · obtain ⟨p, hp, rfl⟩ := List.mem_map.mp hl
          have k := (ok.bears.each p hp).1
          obtain ⟨z1, z2⟩ := pairs_ok k.len (pt_nm ok k.pr)
          exact ln_cons (x := "bears") (by decide +kernel) ⟨by omega, z2⟩
      · obtain ⟨p, hp, rfl⟩ := List.mem_map.mp hl
        have k := (ok.never.each p hp).1
        obtain ⟨z1, z2⟩ := pairs_ok k.len (pt_nm ok k.pr)
        exact ln_cons (x := "never") (by decide +kernel) ⟨by omega, z2⟩
    · obtain ⟨l0, hl0, rfl⟩ := List.mem_map.mp hl
      have k := ok.each l0 hl0
      obtain ⟨p1, p2⟩ := lap_pr k
      obtain ⟨z1, z2⟩ := pairs_ok k.needs.len (pt_nm ok p1)
      obtain ⟨z3, z4⟩ := pairs_ok k.makes.len (pt_nm ok p2)
      refine ⟨by unfold lapLine; simp only [List.length_append, List.length_cons, List.length_nil]; omega, fun w hw => ?_⟩
      unfold lapLine at hw
      simp only [List.mem_append, List.mem_cons, List.not_mem_nil, or_false] at hw
      rcases hw with (((e | e) | e) | e) | e
      · rw [e]; decide +kernel
      · rw [e]; exact nm20 k.ho
      · exact z2 w e
      · rw [e]; decide +kernel
      · exact z4 w e
section
variable {P : Program} {w : World} {K : PySem.W.Frag} {mg : Str → Option Value} {base : Heap}
abbrev s_Lpairs : Stmt := top 82
theorem sc_Lpairs : FnScope ["_law_pattern_here", "_law_slot", "_law_word"] ["_law_pattern_here"] (defScope s_Lpairs) := ⟨rfl, rfl, rfl, by decide +kernel, rfl, by decide +kernel, by decide +kernel⟩
def S_pairs : SpW := fun ws mu P => ∃ q, ws = [ptW q] ∧ q.length ≤ 6 ∧ (∀ r ∈ q, NmOk r.1 ∧ NmOk r.2) ∧ ∀ y mu', mu y = none → mu' y = some (.lst (stW (pairsS q))) → Ext mu mu' → P (.m y) mu'
theorem d_Lpairs (D : Dfn K mg "_law_pairs" s_Lpairs ["_law_pattern_here"]) : DefOk P w K mg base "_law_pairs" ["_law_pattern_here"] 1 S_pairs := by
  refine dfnOk D sc_Lpairs (fun ws mu P ⟨q, e, _⟩ => by rw [e]; rfl) (fun f cdv A outer s H E hr ws mu Pt ⟨q, e, h6, nm, h⟩ => ?_)
  subst e
  refine sss_cons (ss_ret ?_)
  refine se_lc (own := [("_law_slot", 1), ("_law_word", 2)]) (.tp [(.nm 1), (.nm 2)]) rfl sc_Lpairs.nd (blkOk_by (N := ["_law_pattern_here", "_law_slot", "_law_word"]) (sc := defScope s_Lpairs) (by decide +kernel)) rfl (fun _ _ _ _ _ => (pg_tup rfl (pgs_cons (pg_name (i := 1) sc_Lpairs.nd rfl (Or.inl rfl)) (pgs_cons (pg_name (i := 2) sc_Lpairs.nd rfl (Or.inl rfl)) pgs_nil)))) (by intro _; rfl) ?_
  refine si_tup (se_var (i := 0) rfl ?_)
  refine lc_pure (fun w => match w with | .tup [.str a, .str b] => .str (a ++ "=" ++ b) | _ => .non) (fun _ _ => trivial) (by rw [List.length_map]; exact Nat.le_trans h6 (by decide)) ?_ InBlk.mono ?_
  · intro w mu' hw he
    obtain ⟨r, hrm, rfl⟩ := List.mem_map.mp hw
    refine ⟨_, rfl, fun s H C cl fp => ?_⟩
    have n1 := (nm r hrm).1.2.1
    have n2 := (nm r hrm).2.2.1
    have e1 : ("=" : Str).length = 1 := by decide +kernel
    refine se_bin op_add_str cat_w (se_bin op_add_str cat_w (se_var (i := 1) rfl (se_str ?_)))
    refine ⟨Nat.le_trans (by omega : r.1.length + ("=" : Str).length ≤ 9) (by decide), ?_⟩
    refine se_var (i := 2) rfl ?_
    refine ⟨?_, rfl, Ext.refl⟩
    rw [len_app]
    exact Nat.le_trans (by omega : r.1.length + ("=" : Str).length + r.2.length ≤ 17) (by decide)
  · intro Dd mu' hD he he2
    have em : (q.map prW).map (fun w => match w with | .tup [.str a, .str b] => W.str (a ++ "=" ++ b) | _ => .non) = stW (pairsS q) := by
      unfold stW pairsS
      rw [List.map_map, List.map_map]
      rfl
    rw [em] at he2 ⊢
    exact h Dd _ hD setM_same he2
end
end K1
set_option Elab.async false
set_option linter.all false
set_option maxRecDepth 100000
/-! k09: words_of, text_of. -/
namespace K1
open PySem L2 Dv
theorem str_ext {x y : Str} (h : x.cps.toList = y.cps.toList) : x = y := by
  cases x; cases y
  have := Array.toList_inj.mp h
  dsimp only at this
  rw [this]
theorem empty_app (y : Str) : Str.empty ++ y = y := str_ext (by rw [str_app]; rfl)
section
variable {P : Program} {w : World} {K : PySem.W.Frag} {mg : Str → Option Value} {base : Heap}
abbrev s_words_of : Stmt := top 62
theorem sc_words_of : FnScope ["pattern", "slot", "word"] ["pattern"] (defScope s_words_of) := ⟨rfl, rfl, rfl, by decide +kernel, rfl, by decide +kernel, by decide +kernel⟩
theorem d_words_of (D : Dfn K mg "words_of" s_words_of ["pattern"]) : DefOk P w K mg base "words_of" ["pattern"] 1 S_pairs := by
  refine dfnOk D sc_words_of (fun ws mu P ⟨q, e, _⟩ => by rw [e]; rfl) (fun f cdv A outer s H E hr ws mu Pt ⟨q, e, h6, nm, h⟩ => ?_)
  subst e
  refine sss_cons (ss_ret ?_)
  refine se_lc (own := [("slot", 1), ("word", 2)]) (.tp [(.nm 1), (.nm 2)]) rfl sc_words_of.nd (blkOk_by (N := ["pattern", "slot", "word"]) (sc := defScope s_words_of) (by decide +kernel)) rfl (fun _ _ _ _ _ => (pg_tup rfl (pgs_cons (pg_name (i := 1) sc_words_of.nd rfl (Or.inl rfl)) (pgs_cons (pg_name (i := 2) sc_words_of.nd rfl (Or.inl rfl)) pgs_nil)))) (by intro _; rfl) ?_
  refine si_tup (se_var (i := 0) rfl ?_)
  refine lc_pure (fun w => match w with | .tup [.str a, .str b] => .str (a ++ "=" ++ b) | _ => .non) (fun _ _ => trivial) (by rw [List.length_map]; exact Nat.le_trans h6 (by decide)) ?_ InBlk.mono ?_
  · intro w mu' hw he
    obtain ⟨r, hrm, rfl⟩ := List.mem_map.mp hw
    refine ⟨_, rfl, fun s H C cl fp => ?_⟩
    have n1 := (nm r hrm).1.2.1
    have n2 := (nm r hrm).2.2.1
    have e1 : ("=" : Str).length = 1 := by decide +kernel
    refine se_joined ?_
    refine se_fmt (se_var (i := 1) rfl (.inl ⟨_, rfl, Nat.le_trans n1 (by decide), _, rfl, ?_, ?_⟩))
    · rw [empty_app]; exact Nat.le_trans n1 (by decide)
    rw [empty_app]
    refine se_str ⟨_, rfl, ?_, ?_⟩
    · rw [len_app]; exact Nat.le_trans (by omega : r.1.length + ("=" : Str).length ≤ 9) (by decide)
    refine se_fmt (se_var (i := 2) rfl (.inl ⟨_, rfl, Nat.le_trans n2 (by decide), _, rfl, ?_, ?_⟩))
    · rw [len_app, len_app]; exact Nat.le_trans (by omega : r.1.length + ("=" : Str).length + r.2.length ≤ 17) (by decide)
    exact ⟨rfl, Ext.refl⟩
  · intro Dd mu' hD he he2
    have em : (q.map prW).map (fun w => match w with | .tup [.str a, .str b] => W.str (a ++ "=" ++ b) | _ => .non) = stW (pairsS q) := by
      unfold stW pairsS
      rw [List.map_map, List.map_map]
      rfl
    rw [em] at he2 ⊢
    exact h Dd _ hD setM_same he2
abbrev s_text_of : Stmt := top 61
theorem sc_text_of : FnScope ["lines", "words"] ["lines"] (defScope s_text_of) := ⟨rfl, rfl, rfl, by decide +kernel, rfl, by decide +kernel, by decide +kernel⟩
def S_text_of : SpW := fun ws mu P => ∃ (Ln : Addr) (rs : List (Addr × List Str)), ws = [.m Ln] ∧ mu Ln = some (.lst (rs.map fun r => W.m r.1)) ∧ (∀ r ∈ rs, mu r.1 = some (.lst (stW r.2)) ∧ LnOk r.2) ∧ rs.length ≤ 60 ∧ ∀ mu', Ext mu mu' → P (.str (Txt.join "\n" ((rs.map (·.2)).map (Txt.join " ")))) mu'
theorem d_text_of (D : Dfn K mg "text_of" s_text_of ["lines"]) : DefOk P w K mg base "text_of" ["lines"] 1 S_text_of := by
  refine dfnOk D sc_text_of (fun ws mu P ⟨q, _, e, _⟩ => by rw [e]; rfl) (fun f cdv A outer s H E hr ws mu Pt ⟨Ln, re, e, hL, hR, hl, h⟩ => ?_)
  subst e
  refine sss_cons (ss_ret (se_join (se_str ⟨_, rfl, ?_⟩)))
  refine se_lc (own := [("words", 1)]) (.nm 1) rfl sc_text_of.nd (blkOk_by (N := ["lines", "words"]) (sc := defScope s_text_of) (by decide +kernel)) rfl (fun _ _ _ _ _ => (pg_name (i := 1) sc_text_of.nd rfl (Or.inl rfl))) (by intro _; rfl) ?_
  refine si_lst (se_var (i := 0) rfl ⟨_, hL, ?_⟩)
  intro Dd hDd
  refine ⟨fun i acc mu2 => acc = (re.take i).map (fun r => W.str (Txt.join " " r.2)) ∧ Ext mu mu2, ⟨rfl, Ext.refl⟩, fun i acc mu2 _ q => q.2 _ _ hL, fun i u acc mu2 hu q => ?_, fun acc mu2 q => ?_⟩
  · obtain ⟨ea, ex⟩ := q
    rw [List.getElem?_map] at hu
    cases ht : re[i]? with
    | none => rw [ht] at hu; cases hu
    | some r =>
    rw [ht] at hu
    cases hu
    have rm := List.mem_of_getElem? ht
    have lo := (hR r rm).2
    refine ⟨by rw [ea, List.length_map, List.length_take]; exact Nat.lt_of_le_of_lt (by omega : min i re.length ≤ 60) (by decide), _, rfl, fun s H C cl fp => ?_⟩
    refine se_join (se_str ⟨_, rfl, ?_⟩)
    refine se_var (i := 1) rfl ?_
    have sm := sum_le lo.2
    have l1 : (" " : Str).length = 1 := by decide +kernel
    refine ⟨r.1, r.2, rfl, ex _ _ (hR r rm).1, by rw [l1]; have := lo.1; omega, ?_⟩
    exact ⟨by rw [ea, List.take_add_one, ht, List.map_append]; rfl, ex⟩
  · obtain ⟨ea, ex⟩ := q
    rw [List.length_map, List.take_length] at ea
    have em : acc = ((re.map (·.2)).map (Txt.join " ")).map W.str := by rw [ea, List.map_map, List.map_map]; rfl
    have l1 : ("\n" : Str).length = 1 := by decide +kernel
    have l2 : (" " : Str).length = 1 := by decide +kernel
    have each : ∀ z ∈ (re.map (·.2)).map (Txt.join " "), z.length ≤ 700 := fun z hz => by
      obtain ⟨l, hl, rfl⟩ := List.mem_map.mp hz
      obtain ⟨r, hr, rfl⟩ := List.mem_map.mp hl
      have lo := (hR r hr).2
      have a1 := join_le " " r.2
      have a2 := sum_le lo.2
      have := lo.1
      rw [l2] at a1
      omega
    have sm := sum_le each
    rw [List.length_map, List.length_map] at sm
    refine ⟨Dd, (re.map (·.2)).map (Txt.join " "), rfl, by rw [setM_same, em], by rw [l1, List.length_map, List.length_map]; omega, ?_⟩
    exact h _ (ex.set hDd)
end
end K1
set_option Elab.async false
set_option linter.all false
set_option maxRecDepth 100000
/-! k10: digits. -/
namespace K1
open PySem L2 Dv
def numS (i : Nat) : Str := Str.ofString (toString ((i : Nat) : Int))
theorem numS_cps (i : Nat) : (numS i).cps.toList = TL.numL i := TL.tl_num i
theorem numS_len {i : Nat} (h : i < 10 ^ 18) : 1 ≤ (numS i).length ∧ (numS i).length ≤ 18 := by
  have e : (numS i).length = (TL.numL i).length := by rw [← numS_cps, Array.length_toList]; rfl
  rw [e]
  refine ⟨?_, TL.numL_len (by decide) h⟩
  cases hl : TL.numL i with
  | nil => exact absurd hl (TL.numL_ne i)
  | cons x r => simp
theorem numL_first {i : Nat} : 0 < i → ∃ c r, TL.numL i = c :: r ∧ 49 ≤ c ∧ c ≤ 57 := by
  induction i using Nat.strongRecOn with
  | _ i ih =>
    intro h0
    by_cases h : i < 10
    · exact ⟨48 + i, [], TL.numL_lt h, by omega, by omega⟩
    · obtain ⟨c, r, e, h1, h2⟩ := ih (i / 10) (by omega) (by omega)
      exact ⟨c, r ++ [48 + i % 10], by rw [TL.numL_step (by omega), e]; rfl, h1, h2⟩
theorem numL_zero : TL.numL 0 = [48] := TL.numL_lt (by decide)
theorem zero_eq : ("0" : Str) = ⟨#[48]⟩ := by decide +kernel
/-- no blank, no line feed -/
def Clean (z : Str) : Prop := ∀ c ∈ z.cps.toList, c ≠ 10 ∧ c ≠ 32
theorem nm_clean {z : Str} (h : NmOk z) : Clean z := fun c hc => by have := (h.2.2 c hc).1; omega
theorem num_clean {i : Nat} : Clean (numS i) := fun c hc => by
  rw [numS_cps] at hc
  have := TL.numL_digits i c hc
  omega
theorem num20 {i : Nat} (h : i ≤ 100) : (numS i).length ≤ 20 := Nat.le_trans (numS_len (Nat.lt_of_le_of_lt h (by decide))).2 (by decide)
theorem free_of {mu mu' : Mu} {a : Addr} (e : Ext mu mu') (h : mu' a = none) : mu a = none := by
  cases q : mu a with
  | none => rfl
  | some c => have := e _ _ q; rw [h] at this; cases this
end K1
set_option Elab.async false
set_option linter.all false
set_option maxRecDepth 100000
/-! k10: the known schemes. -/
namespace K1
open PySem L2 Dv
theorem Lw.gno {mu : Mu} {Lo Nm : Addr} {v : Wd} {x : LX} (h : Lw mu Lo Nm v x) {P : PW1} (q : P (.str x.no) mu) : dgW (.m Lo) (.str "no") mu P := let ⟨kvs, d, V⟩ := h.ex; ⟨Lo, kvs, .inr "no", _, rfl, d.1, rfl, V.no, q⟩
theorem Lw.grow {mu : Mu} {Lo Nm : Addr} {v : Wd} {x : LX} (h : Lw mu Lo Nm v x) {P : PW1} (q : P (.str x.row) mu) : dgW (.m Lo) (.str "row") mu P := let ⟨kvs, d, V⟩ := h.ex; ⟨Lo, kvs, .inr "row", _, rfl, d.1, rfl, V.row, q⟩
theorem Lw.grows {mu : Mu} {Lo Nm : Addr} {v : Wd} {x : LX} (h : Lw mu Lo Nm v x) {P : PW1} (q : P (.tup [.str x.r1, .str x.r2]) mu) : dgW (.m Lo) (.str "rows") mu P := let ⟨kvs, d, V⟩ := h.ex; ⟨Lo, kvs, .inr "rows", _, rfl, d.1, rfl, V.rows, q⟩
theorem Lw.glock {mu : Mu} {Lo Nm : Addr} {v : Wd} {x : LX} (h : Lw mu Lo Nm v x) {P : PW1} (q : P (.str x.lock) mu) : dgW (.m Lo) (.str "lock") mu P := let ⟨kvs, d, V⟩ := h.ex; ⟨Lo, kvs, .inr "lock", _, rfl, d.1, rfl, V.lock, q⟩
theorem Lw.gnames {mu : Mu} {Lo Nm : Addr} {v : Wd} {x : LX} (h : Lw mu Lo Nm v x) {P : PW1} (q : P (.m Nm) mu) : dgW (.m Lo) (.str "names") mu P := let ⟨kvs, d, V⟩ := h.ex; ⟨Lo, kvs, .inr "names", _, rfl, d.1, rfl, V.names, q⟩
/-- a slot that has the row, its house -/
def Here (v : Wd) (x : LX) (z ho : Str) : Prop := (z, ho, [x.no, x.row]) ∈ v.slots
theorem Here.home {v : Wd} (ok : WdOk v) {x : LX} {z ho : Str} (h : Here v x z ho) : ho ∈ v.houses := (ok.ss.each _ h).home
theorem Here.no {v : Wd} {x : LX} {z ho : Str} (h : Here v x z ho) : PtOk (v.slots.filter (atHome ho)) [(z, x.no)] := pt_one (s := (z, ho, [x.no, x.row])) h (by simp)
theorem Here.row {v : Wd} {x : LX} {z ho : Str} (h : Here v x z ho) : PtOk (v.slots.filter (atHome ho)) [(z, x.row)] := pt_one (s := (z, ho, [x.no, x.row])) h (by simp)
theorem watch_nil (v : Wd) : WatchOk v [] := ⟨fun z hz => (by cases hz), rfl, ⟨"", fun s _ hz => (by cases hz)⟩, by decide⟩
theorem watch_one {v : Wd} (ok : WdOk v) {x : LX} {z ho : Str} (h : Here v x z ho) : WatchOk v [z] := ⟨fun y hy => ⟨_, h, (List.mem_singleton.mp hy).symm⟩, rfl, ⟨ho, fun s hs hz => by rw [slot_one ok.ss.nd hs h (List.mem_singleton.mp hz)]⟩, by show 1 ≤ 6; decide⟩
theorem fl_nil {wd : Bool} {word : Str} : FlOk word wd [] := ⟨⟨fun f hf => (by cases hf), List.nodup_nil, fun z => (by rcases z with z | z <;> cases z), fun z => (by cases z), by decide⟩, rfl⟩
theorem home_one {v : Wd} {x : LX} {z ho : Str} (h : Here v x z ho) : decide (ho ∈ homesOf v [z]) = true := decide_eq_true (List.mem_map.mpr ⟨_, List.mem_filter.mpr ⟨h, decide_eq_true (by simp)⟩, rfl⟩)
theorem fl_mark : FlOk "do" true ["mark"] := ⟨⟨by unfold flagsOf; decide +kernel, by decide +kernel, fun _ => rfl, fun z => absurd z (by decide +kernel), by decide⟩, rfl⟩
theorem fl_same : FlOk "do" true ["same"] := ⟨⟨by unfold flagsOf; decide +kernel, by decide +kernel, fun _ => rfl, fun z => absurd z (by decide +kernel), by decide⟩, rfl⟩
theorem step_by {v : Wd} {watch : List Str} {many : Nat} {ho : Str} {ne mk : Pat} {fl : List Str} {th ot : Nat} (h : ho ∈ v.houses) (n : PtOk (v.slots.filter (atHome ho)) ne) (m : PtOk (v.slots.filter (atHome ho)) mk) (f : FlOk "do" (decide (ho ∈ homesOf v watch)) fl) (t : th < many) (o : ot < many) : StepOk v watch many "do" ho ne mk fl th ot := ⟨.inl rfl, h, n, m, f, t, o⟩
theorem so_put : ("put" : Str) ∈ sorts4 := by unfold sorts4; simp
theorem so_drop : ("drop" : Str) ∈ sorts4 := by unfold sorts4; simp
theorem so_look : ("look" : Str) ∈ sorts4 := by unfold sorts4; simp
theorem sch_put {v : Wd} (ok : WdOk v) {x : LX} {nm z1 z2 h1 h2 : Str} (n : NmOk nm) (a : Here v x z1 h1) (b : Here v x z2 h2) : SchOk v ⟨nm, "put", [], [.step "do" h2 [(z2, x.no)] [] [] 1 3, .step "do" h1 [(z1, x.no)] [(z1, x.row)] [] 2 3, .say "done", .say "refused"]⟩ where
  nm := n
  so := so_put
  wt := watch_nil v
  lo := by show 2 ≤ 4; decide
  hi := by show 4 ≤ 12; decide
  each := fun r hr => by
    simp only [List.mem_cons, List.not_mem_nil, or_false] at hr
    rcases hr with rfl | rfl | rfl | rfl
    · exact step_by (b.home ok) b.no (pt_nil _) fl_nil (by show 1 < 4; decide) (by show 3 < 4; decide)
    · exact step_by (a.home ok) a.no a.row fl_nil (by show 2 < 4; decide) (by show 3 < 4; decide)
    · exact ⟨_, a_p, by simp⟩
    · exact ⟨_, a_p, by simp⟩
  first := ⟨_, _, _, _, _, _, _, _, rfl⟩
theorem sch_touch {v : Wd} (ok : WdOk v) {x : LX} {nm z1 z2 h1 h2 : Str} (n : NmOk nm) (a : Here v x z1 h1) (b : Here v x z2 h2) : SchOk v ⟨nm, "put", [z1], [.step "do" h1 [(z1, x.no)] [] ["mark"] 1 4, .step "do" h2 [(z2, x.no)] [(z2, x.no)] [] 2 4, .step "do" h1 [(z1, x.no)] [(z1, x.row)] ["same"] 3 5, .say "done", .say "refused", .step "do" h1 [(z1, x.row)] [] [] 4 0]⟩ where
  nm := n
  so := so_put
  wt := watch_one ok a
  lo := by show 2 ≤ 6; decide
  hi := by show 6 ≤ 12; decide
  each := fun r hr => by
    simp only [List.mem_cons, List.not_mem_nil, or_false] at hr
    rcases hr with rfl | rfl | rfl | rfl | rfl | rfl
    · exact step_by (a.home ok) a.no (pt_nil _) (by rw [home_one a]; exact fl_mark) (by show 1 < 6; decide) (by show 4 < 6; decide)
    · exact step_by (b.home ok) b.no b.no fl_nil (by show 2 < 6; decide) (by show 4 < 6; decide)
    · exact step_by (a.home ok) a.no a.row (by rw [home_one a]; exact fl_same) (by show 3 < 6; decide) (by show 5 < 6; decide)
    · exact ⟨_, a_p, by simp⟩
    · exact ⟨_, a_p, by simp⟩
    · exact step_by (a.home ok) a.row (pt_nil _) fl_nil (by show 4 < 6; decide) (by show 0 < 6; decide)
  first := ⟨_, _, _, _, _, _, _, _, rfl⟩
theorem sch_drop {v : Wd} (ok : WdOk v) {x : LX} {nm z1 h1 : Str} (n : NmOk nm) (a : Here v x z1 h1) : SchOk v ⟨nm, "drop", [], [.step "do" h1 [(z1, x.row)] [(z1, x.no)] [] 1 2, .say "done", .say "again"]⟩ where
  nm := n
  so := so_drop
  wt := watch_nil v
  lo := by show 2 ≤ 3; decide
  hi := by show 3 ≤ 12; decide
  each := fun r hr => by
    simp only [List.mem_cons, List.not_mem_nil, or_false] at hr
    rcases hr with rfl | rfl | rfl
    · exact step_by (a.home ok) a.row a.no fl_nil (by show 1 < 3; decide) (by show 2 < 3; decide)
    · exact ⟨_, a_d, by simp⟩
    · exact ⟨_, a_d, by simp⟩
  first := ⟨_, _, _, _, _, _, _, _, rfl⟩
theorem sch_look {v : Wd} (ok : WdOk v) {x : LX} {nm z1 h1 : Str} (n : NmOk nm) (a : Here v x z1 h1) : SchOk v ⟨nm, "look", [], [.step "do" h1 [(z1, x.row)] [] [] 1 2, .say "there", .say "again"]⟩ where
  nm := n
  so := so_look
  wt := watch_nil v
  lo := by show 2 ≤ 3; decide
  hi := by show 3 ≤ 12; decide
  each := fun r hr => by
    simp only [List.mem_cons, List.not_mem_nil, or_false] at hr
    rcases hr with rfl | rfl | rfl
    · exact step_by (a.home ok) a.row (pt_nil _) fl_nil (by show 1 < 3; decide) (by show 2 < 3; decide)
    · exact ⟨_, a_l, by simp⟩
    · exact ⟨_, a_l, by simp⟩
  first := ⟨_, _, _, _, _, _, _, _, rfl⟩
section
variable {P : Program} {w : World} {K : PySem.W.Frag} {mg : Str → Option Value} {base : Heap}
abbrev DHouse (P : Program) (w : World) (K : PySem.W.Frag) (mg : Str → Option Value) (base : Heap) : Prop := DefOk P w K mg base "_law_house" ["_law_lore", "_law_slot"] 1 S_lhouse
def S_hand2 (f : LX → Str → Str → Str → Str → Str → Sch) : SpW := fun ws mu P => ∃ Lo Nm v x nm z1 z2 h1 h2, ws = [.m Lo, .str nm, .str z1, .str z2] ∧ Lw mu Lo Nm v x ∧ WdOk v ∧ Here v x z1 h1 ∧ Here v x z2 h2 ∧ ∀ mu', Ext mu mu' → P (schW (f x nm z1 z2 h1 h2)) mu'
def S_hand1 (f : LX → Str → Str → Str → Sch) : SpW := fun ws mu P => ∃ Lo Nm v x nm z1 h1, ws = [.m Lo, .str nm, .str z1] ∧ Lw mu Lo Nm v x ∧ WdOk v ∧ Here v x z1 h1 ∧ ∀ mu', Ext mu mu' → P (schW (f x nm z1 h1)) mu'
abbrev putS (x : LX) (nm z1 z2 h1 h2 : Str) : Sch := ⟨nm, "put", [], [.step "do" h2 [(z2, x.no)] [] [] 1 3, .step "do" h1 [(z1, x.no)] [(z1, x.row)] [] 2 3, .say "done", .say "refused"]⟩
abbrev touchS (x : LX) (nm z1 z2 h1 h2 : Str) : Sch := ⟨nm, "put", [z1], [.step "do" h1 [(z1, x.no)] [] ["mark"] 1 4, .step "do" h2 [(z2, x.no)] [(z2, x.no)] [] 2 4, .step "do" h1 [(z1, x.no)] [(z1, x.row)] ["same"] 3 5, .say "done", .say "refused", .step "do" h1 [(z1, x.row)] [] [] 4 0]⟩
abbrev dropS (x : LX) (nm z1 h1 : Str) : Sch := ⟨nm, "drop", [], [.step "do" h1 [(z1, x.row)] [(z1, x.no)] [] 1 2, .say "done", .say "again"]⟩
abbrev lookS (x : LX) (nm z1 h1 : Str) : Sch := ⟨nm, "look", [], [.step "do" h1 [(z1, x.row)] [] [] 1 2, .say "there", .say "again"]⟩
abbrev s_Lput : Stmt := top 78
theorem sc_Lput : FnScope ["_law_lore", "_law_name", "_law_here", "_law_there", "_law_no", "_law_row_here", "_law_rows"] ["_law_lore", "_law_name", "_law_here", "_law_there"] (defScope s_Lput) := ⟨rfl, rfl, rfl, by decide +kernel, rfl, by decide +kernel, by decide +kernel⟩
set_option maxHeartbeats 4000000 in
theorem d_Lput (D : Dfn K mg "_law_put" s_Lput ["_law_lore", "_law_name", "_law_here", "_law_there"]) (D_house : DHouse P w K mg base) : DefOk P w K mg base "_law_put" ["_law_lore", "_law_name", "_law_here", "_law_there"] 3 (S_hand2 putS) := by
  refine dfnOk D sc_Lput (fun ws mu P ⟨_, _, _, _, _, _, _, _, _, e, _⟩ => by rw [e]; rfl) (fun f cdv A outer s H E hr ws mu Pt ⟨Lo, Nm, v, x, nm, z1, z2, h1, h2, e, lw, ok, a, b, h⟩ => ?_)
  subst e
  have e0 : Ext mu mu := Ext.refl
  refine sss_cons ?_
  refine ss_par (i := 4) (j := 5) ?_ rfl sc_Lput.nd (by decide) (by rfl)  -- (_law_no, _law_row_here) =
  refine se_dget (hu_of hr) ?_  -- _law_lore['no']
  refine se_var (i := 0) rfl ?_  -- _law_lore
  refine se_str ?_  -- 'no'
  refine (lw.ext e0).gno ?_
  refine se_dget (hu_of hr) ?_  -- _law_lore['row']
  refine se_var (i := 0) rfl ?_  -- _law_lore
  refine se_str ?_  -- 'row'
  refine (lw.ext e0).grow ?_
  refine sss_cons ?_
  refine ss_asg ?_
  refine se_tup ?_
  refine sa_cons ?_
  refine se_tup ?_
  refine sa_cons ?_
  refine se_str ?_  -- 'do'
  refine sa_cons ?_
  refine se_callD D_house (hr.mono (by decide)) ?_
  refine sa_cons ?_
  refine se_var (i := 0) rfl ?_  -- _law_lore
  refine sa_cons ?_
  refine se_var (i := 3) rfl ?_  -- _law_there
  refine sa_nil ?_
  refine ⟨Lo, v, (z2, h2, [x.no, x.row]), rfl, lw.lore.ext e0, ok, b, fun mu1 f1 => ?_⟩
  have e1 := e0.trans f1
  refine sa_cons ?_
  refine se_tup ?_
  refine sa_cons ?_
  refine se_tup ?_
  refine sa_cons ?_
  refine se_var (i := 3) rfl ?_  -- _law_there
  refine sa_cons ?_
  refine se_var (i := 4) rfl ?_  -- _law_no
  refine sa_nil ?_
  refine ⟨by show 2 ≤ sizeLine; decide, ?_⟩
  refine sa_nil ?_
  refine ⟨by show 1 ≤ sizeLine; decide, ?_⟩
  refine sa_cons ?_
  refine se_tup ?_
  refine sa_nil ?_
  refine ⟨by show 0 ≤ sizeLine; decide, ?_⟩
  refine sa_cons ?_
  refine se_tup ?_
  refine sa_nil ?_
  refine ⟨by show 0 ≤ sizeLine; decide, ?_⟩
  refine sa_cons ?_
  refine se_int ?_  -- 1
  refine sa_cons ?_
  refine se_int ?_  -- 3
  refine sa_nil ?_
  refine ⟨by show 7 ≤ sizeLine; decide, ?_⟩
  refine sa_cons ?_
  refine se_tup ?_
  refine sa_cons ?_
  refine se_str ?_  -- 'do'
  refine sa_cons ?_
  refine se_callD D_house (hr.mono (by decide)) ?_
  refine sa_cons ?_
  refine se_var (i := 0) rfl ?_  -- _law_lore
  refine sa_cons ?_
  refine se_var (i := 2) rfl ?_  -- _law_here
  refine sa_nil ?_
  refine ⟨Lo, v, (z1, h1, [x.no, x.row]), rfl, lw.lore.ext e1, ok, a, fun mu2 f2 => ?_⟩
  have e2 := e1.trans f2
  refine sa_cons ?_
  refine se_tup ?_
  refine sa_cons ?_
  refine se_tup ?_
  refine sa_cons ?_
  refine se_var (i := 2) rfl ?_  -- _law_here
  refine sa_cons ?_
  refine se_var (i := 4) rfl ?_  -- _law_no
  refine sa_nil ?_
  refine ⟨by show 2 ≤ sizeLine; decide, ?_⟩
  refine sa_nil ?_
  refine ⟨by show 1 ≤ sizeLine; decide, ?_⟩
  refine sa_cons ?_
  refine se_tup ?_
  refine sa_cons ?_
  refine se_tup ?_
  refine sa_cons ?_
  refine se_var (i := 2) rfl ?_  -- _law_here
  refine sa_cons ?_
  refine se_var (i := 5) rfl ?_  -- _law_row_here
  refine sa_nil ?_
  refine ⟨by show 2 ≤ sizeLine; decide, ?_⟩
  refine sa_nil ?_
  refine ⟨by show 1 ≤ sizeLine; decide, ?_⟩
  refine sa_cons ?_
  refine se_tup ?_
  refine sa_nil ?_
  refine ⟨by show 0 ≤ sizeLine; decide, ?_⟩
  refine sa_cons ?_
  refine se_int ?_  -- 2
  refine sa_cons ?_
  refine se_int ?_  -- 3
  refine sa_nil ?_
  refine ⟨by show 7 ≤ sizeLine; decide, ?_⟩
  refine sa_cons ?_
  refine se_tup ?_
  refine sa_cons ?_
  refine se_str ?_  -- 'say'
  refine sa_cons ?_
  refine se_str ?_  -- 'done'
  refine sa_nil ?_
  refine ⟨by show 2 ≤ sizeLine; decide, ?_⟩
  refine sa_cons ?_
  refine se_tup ?_
  refine sa_cons ?_
  refine se_str ?_  -- 'say'
  refine sa_cons ?_
  refine se_str ?_  -- 'refused'
  refine sa_nil ?_
  refine ⟨by show 2 ≤ sizeLine; decide, ?_⟩
  refine sa_nil ?_
  refine ⟨by show 4 ≤ sizeLine; decide, ?_⟩
  refine sg_name (i := 6) ?_ sc_Lput.nd  -- _law_rows =
  refine sss_cons ?_
  refine ss_ret ?_
  refine se_tup ?_
  refine sa_cons ?_
  refine se_var (i := 1) rfl ?_  -- _law_name
  refine sa_cons ?_
  refine se_str ?_  -- 'put'
  refine sa_cons ?_
  refine se_tup ?_
  refine sa_nil ?_
  refine ⟨by show 0 ≤ sizeLine; decide, ?_⟩
  refine sa_cons ?_
  refine se_var (i := 6) rfl ?_  -- _law_rows
  refine sa_nil ?_
  refine ⟨by show 4 ≤ sizeLine; decide, ?_⟩
  exact h _ e2
abbrev s_Ltouch : Stmt := top 79
theorem sc_Ltouch : FnScope ["_law_lore", "_law_name", "_law_here", "_law_there", "_law_no", "_law_row_here", "_law_home", "_law_away", "_law_rows"] ["_law_lore", "_law_name", "_law_here", "_law_there"] (defScope s_Ltouch) := ⟨rfl, rfl, rfl, by decide +kernel, rfl, by decide +kernel, by decide +kernel⟩
set_option maxHeartbeats 4000000 in
theorem d_Ltouch (D : Dfn K mg "_law_touch" s_Ltouch ["_law_lore", "_law_name", "_law_here", "_law_there"]) (D_house : DHouse P w K mg base) : DefOk P w K mg base "_law_touch" ["_law_lore", "_law_name", "_law_here", "_law_there"] 3 (S_hand2 touchS) := by
  refine dfnOk D sc_Ltouch (fun ws mu P ⟨_, _, _, _, _, _, _, _, _, e, _⟩ => by rw [e]; rfl) (fun f cdv A outer s H E hr ws mu Pt ⟨Lo, Nm, v, x, nm, z1, z2, h1, h2, e, lw, ok, a, b, h⟩ => ?_)
  subst e
  have e0 : Ext mu mu := Ext.refl
  refine sss_cons ?_
  refine ss_asg ?_
  refine se_tup ?_
  refine sa_cons ?_
  refine se_dget (hu_of hr) ?_  -- _law_lore['no']
  refine se_var (i := 0) rfl ?_  -- _law_lore
  refine se_str ?_  -- 'no'
  refine (lw.ext e0).gno ?_
  refine sa_cons ?_
  refine se_dget (hu_of hr) ?_  -- _law_lore['row']
  refine se_var (i := 0) rfl ?_  -- _law_lore
  refine se_str ?_  -- 'row'
  refine (lw.ext e0).grow ?_
  refine sa_cons ?_
  refine se_callD D_house (hr.mono (by decide)) ?_
  refine sa_cons ?_
  refine se_var (i := 0) rfl ?_  -- _law_lore
  refine sa_cons ?_
  refine se_var (i := 2) rfl ?_  -- _law_here
  refine sa_nil ?_
  refine ⟨Lo, v, (z1, h1, [x.no, x.row]), rfl, lw.lore.ext e0, ok, a, fun mu1 f1 => ?_⟩
  have e1 := e0.trans f1
  refine sa_cons ?_
  refine se_callD D_house (hr.mono (by decide)) ?_
  refine sa_cons ?_
  refine se_var (i := 0) rfl ?_  -- _law_lore
  refine sa_cons ?_
  refine se_var (i := 3) rfl ?_  -- _law_there
  refine sa_nil ?_
  refine ⟨Lo, v, (z2, h2, [x.no, x.row]), rfl, lw.lore.ext e1, ok, b, fun mu2 f2 => ?_⟩
  have e2 := e1.trans f2
  refine sa_nil ?_
  refine ⟨by show 4 ≤ sizeLine; decide, ?_⟩
  refine sg_tup ?_
  refine sgs_cons (sg_name (i := 4) ?_ sc_Ltouch.nd)
  refine sgs_cons (sg_name (i := 5) ?_ sc_Ltouch.nd)
  refine sgs_cons (sg_name (i := 6) ?_ sc_Ltouch.nd)
  refine sgs_cons (sg_name (i := 7) ?_ sc_Ltouch.nd)
  refine sgs_nil ?_
  refine sss_cons ?_
  refine ss_asg ?_
  refine se_tup ?_
  refine sa_cons ?_
  refine se_tup ?_
  refine sa_cons ?_
  refine se_str ?_  -- 'do'
  refine sa_cons ?_
  refine se_var (i := 6) rfl ?_  -- _law_home
  refine sa_cons ?_
  refine se_tup ?_
  refine sa_cons ?_
  refine se_tup ?_
  refine sa_cons ?_
  refine se_var (i := 2) rfl ?_  -- _law_here
  refine sa_cons ?_
  refine se_var (i := 4) rfl ?_  -- _law_no
  refine sa_nil ?_
  refine ⟨by show 2 ≤ sizeLine; decide, ?_⟩
  refine sa_nil ?_
  refine ⟨by show 1 ≤ sizeLine; decide, ?_⟩
  refine sa_cons ?_
  refine se_tup ?_
  refine sa_nil ?_
  refine ⟨by show 0 ≤ sizeLine; decide, ?_⟩
  refine sa_cons ?_
  refine se_tup ?_
  refine sa_cons ?_
  refine se_str ?_  -- 'mark'
  refine sa_nil ?_
  refine ⟨by show 1 ≤ sizeLine; decide, ?_⟩
  refine sa_cons ?_
  refine se_int ?_  -- 1
  refine sa_cons ?_
  refine se_int ?_  -- 4
  refine sa_nil ?_
  refine ⟨by show 7 ≤ sizeLine; decide, ?_⟩
  refine sa_cons ?_
  refine se_tup ?_
  refine sa_cons ?_
  refine se_str ?_  -- 'do'
  refine sa_cons ?_
  refine se_var (i := 7) rfl ?_  -- _law_away
  refine sa_cons ?_
  refine se_tup ?_
  refine sa_cons ?_
  refine se_tup ?_
  refine sa_cons ?_
  refine se_var (i := 3) rfl ?_  -- _law_there
  refine sa_cons ?_
  refine se_var (i := 4) rfl ?_  -- _law_no
  refine sa_nil ?_
  refine ⟨by show 2 ≤ sizeLine; decide, ?_⟩
  refine sa_nil ?_
  refine ⟨by show 1 ≤ sizeLine; decide, ?_⟩
  refine sa_cons ?_
  refine se_tup ?_
  refine sa_cons ?_
  refine se_tup ?_
  refine sa_cons ?_
  refine se_var (i := 3) rfl ?_  -- _law_there
  refine sa_cons ?_
  refine se_var (i := 4) rfl ?_  -- _law_no
  refine sa_nil ?_
  refine ⟨by show 2 ≤ sizeLine; decide, ?_⟩
  refine sa_nil ?_
  refine ⟨by show 1 ≤ sizeLine; decide, ?_⟩
  refine sa_cons ?_
  refine se_tup ?_
  refine sa_nil ?_
  refine ⟨by show 0 ≤ sizeLine; decide, ?_⟩
  refine sa_cons ?_
  refine se_int ?_  -- 2
  refine sa_cons ?_
  refine se_int ?_  -- 4
  refine sa_nil ?_
  refine ⟨by show 7 ≤ sizeLine; decide, ?_⟩
  refine sa_cons ?_
  refine se_tup ?_
  refine sa_cons ?_
  refine se_str ?_  -- 'do'
  refine sa_cons ?_
  refine se_var (i := 6) rfl ?_  -- _law_home
  refine sa_cons ?_
  refine se_tup ?_
  refine sa_cons ?_
  refine se_tup ?_
  refine sa_cons ?_
  refine se_var (i := 2) rfl ?_  -- _law_here
  refine sa_cons ?_
  refine se_var (i := 4) rfl ?_  -- _law_no
  refine sa_nil ?_
  refine ⟨by show 2 ≤ sizeLine; decide, ?_⟩
  refine sa_nil ?_
  refine ⟨by show 1 ≤ sizeLine; decide, ?_⟩
  refine sa_cons ?_
  refine se_tup ?_
  refine sa_cons ?_
  refine se_tup ?_
  refine sa_cons ?_
  refine se_var (i := 2) rfl ?_  -- _law_here
  refine sa_cons ?_
  refine se_var (i := 5) rfl ?_  -- _law_row_here
  refine sa_nil ?_
  refine ⟨by show 2 ≤ sizeLine; decide, ?_⟩
  refine sa_nil ?_
  refine ⟨by show 1 ≤ sizeLine; decide, ?_⟩
  refine sa_cons ?_
  refine se_tup ?_
  refine sa_cons ?_
  refine se_str ?_  -- 'same'
  refine sa_nil ?_
  refine ⟨by show 1 ≤ sizeLine; decide, ?_⟩
  refine sa_cons ?_
  refine se_int ?_  -- 3
  refine sa_cons ?_
  refine se_int ?_  -- 5
  refine sa_nil ?_
  refine ⟨by show 7 ≤ sizeLine; decide, ?_⟩
  refine sa_cons ?_
  refine se_tup ?_
  refine sa_cons ?_
  refine se_str ?_  -- 'say'
  refine sa_cons ?_
  refine se_str ?_  -- 'done'
  refine sa_nil ?_
  refine ⟨by show 2 ≤ sizeLine; decide, ?_⟩
  refine sa_cons ?_
  refine se_tup ?_
  refine sa_cons ?_
  refine se_str ?_  -- 'say'
  refine sa_cons ?_
  refine se_str ?_  -- 'refused'
  refine sa_nil ?_
  refine ⟨by show 2 ≤ sizeLine; decide, ?_⟩
  refine sa_cons ?_
  refine se_tup ?_
  refine sa_cons ?_
  refine se_str ?_  -- 'do'
  refine sa_cons ?_
  refine se_var (i := 6) rfl ?_  -- _law_home
  refine sa_cons ?_
  refine se_tup ?_
  refine sa_cons ?_
  refine se_tup ?_
  refine sa_cons ?_
  refine se_var (i := 2) rfl ?_  -- _law_here
  refine sa_cons ?_
  refine se_var (i := 5) rfl ?_  -- _law_row_here
  refine sa_nil ?_
  refine ⟨by show 2 ≤ sizeLine; decide, ?_⟩
  refine sa_nil ?_
  refine ⟨by show 1 ≤ sizeLine; decide, ?_⟩
  refine sa_cons ?_
  refine se_tup ?_
  refine sa_nil ?_
  refine ⟨by show 0 ≤ sizeLine; decide, ?_⟩
  refine sa_cons ?_
  refine se_tup ?_
  refine sa_nil ?_
  refine ⟨by show 0 ≤ sizeLine; decide, ?_⟩
  refine sa_cons ?_
  refine se_int ?_  -- 4
  refine sa_cons ?_
  refine se_int ?_  -- 0
  refine sa_nil ?_
  refine ⟨by show 7 ≤ sizeLine; decide, ?_⟩
  refine sa_nil ?_
  refine ⟨by show 6 ≤ sizeLine; decide, ?_⟩
  refine sg_name (i := 8) ?_ sc_Ltouch.nd  -- _law_rows =
  refine sss_cons ?_
  refine ss_ret ?_
  refine se_tup ?_
  refine sa_cons ?_
  refine se_var (i := 1) rfl ?_  -- _law_name
  refine sa_cons ?_
  refine se_str ?_  -- 'put'
  refine sa_cons ?_
  refine se_tup ?_
  refine sa_cons ?_
  refine se_var (i := 2) rfl ?_  -- _law_here
  refine sa_nil ?_
  refine ⟨by show 1 ≤ sizeLine; decide, ?_⟩
  refine sa_cons ?_
  refine se_var (i := 8) rfl ?_  -- _law_rows
  refine sa_nil ?_
  refine ⟨by show 4 ≤ sizeLine; decide, ?_⟩
  exact h _ e2
abbrev s_Ldrop : Stmt := top 80
theorem sc_Ldrop : FnScope ["_law_lore", "_law_name", "_law_here", "_law_row_here", "_law_no", "_law_home", "_law_rows"] ["_law_lore", "_law_name", "_law_here"] (defScope s_Ldrop) := ⟨rfl, rfl, rfl, by decide +kernel, rfl, by decide +kernel, by decide +kernel⟩
set_option maxHeartbeats 4000000 in
theorem d_Ldrop (D : Dfn K mg "_law_drop" s_Ldrop ["_law_lore", "_law_name", "_law_here"]) (D_house : DHouse P w K mg base) : DefOk P w K mg base "_law_drop" ["_law_lore", "_law_name", "_law_here"] 3 (S_hand1 dropS) := by
  refine dfnOk D sc_Ldrop (fun ws mu P ⟨_, _, _, _, _, _, _, e, _⟩ => by rw [e]; rfl) (fun f cdv A outer s H E hr ws mu Pt ⟨Lo, Nm, v, x, nm, z1, h1, e, lw, ok, a, h⟩ => ?_)
  subst e
  have e0 : Ext mu mu := Ext.refl
  refine sss_cons ?_
  refine ss_par3 (i := 3) (j := 4) (l := 5) ?_ rfl sc_Ldrop.nd (by decide) (by decide) (by decide) (by rfl)
  refine se_dget (hu_of hr) ?_  -- _law_lore['row']
  refine se_var (i := 0) rfl ?_  -- _law_lore
  refine se_str ?_  -- 'row'
  refine (lw.ext e0).grow ?_
  refine se_dget (hu_of hr) ?_  -- _law_lore['no']
  refine se_var (i := 0) rfl ?_  -- _law_lore
  refine se_str ?_  -- 'no'
  refine (lw.ext e0).gno ?_
  refine se_callD D_house (hr.mono (by decide)) ?_
  refine sa_cons ?_
  refine se_var (i := 0) rfl ?_  -- _law_lore
  refine sa_cons ?_
  refine se_var (i := 2) rfl ?_  -- _law_here
  refine sa_nil ?_
  refine ⟨Lo, v, (z1, h1, [x.no, x.row]), rfl, lw.lore.ext e0, ok, a, fun mu1 f1 => ?_⟩
  have e1 := e0.trans f1
  refine sss_cons ?_
  refine ss_asg ?_
  refine se_tup ?_
  refine sa_cons ?_
  refine se_tup ?_
  refine sa_cons ?_
  refine se_str ?_  -- 'do'
  refine sa_cons ?_
  refine se_var (i := 5) rfl ?_  -- _law_home
  refine sa_cons ?_
  refine se_tup ?_
  refine sa_cons ?_
  refine se_tup ?_
  refine sa_cons ?_
  refine se_var (i := 2) rfl ?_  -- _law_here
  refine sa_cons ?_
  refine se_var (i := 3) rfl ?_  -- _law_row_here
  refine sa_nil ?_
  refine ⟨by show 2 ≤ sizeLine; decide, ?_⟩
  refine sa_nil ?_
  refine ⟨by show 1 ≤ sizeLine; decide, ?_⟩
  refine sa_cons ?_
  refine se_tup ?_
  refine sa_cons ?_
  refine se_tup ?_
  refine sa_cons ?_
  refine se_var (i := 2) rfl ?_  -- _law_here
  refine sa_cons ?_
  refine se_var (i := 4) rfl ?_  -- _law_no
  refine sa_nil ?_
  refine ⟨by show 2 ≤ sizeLine; decide, ?_⟩
  refine sa_nil ?_
  refine ⟨by show 1 ≤ sizeLine; decide, ?_⟩
  refine sa_cons ?_
  refine se_tup ?_
  refine sa_nil ?_
  refine ⟨by show 0 ≤ sizeLine; decide, ?_⟩
  refine sa_cons ?_
  refine se_int ?_  -- 1
  refine sa_cons ?_
  refine se_int ?_  -- 2
  refine sa_nil ?_
  refine ⟨by show 7 ≤ sizeLine; decide, ?_⟩
  refine sa_cons ?_
  refine se_tup ?_
  refine sa_cons ?_
  refine se_str ?_  -- 'say'
  refine sa_cons ?_
  refine se_str ?_  -- 'done'
  refine sa_nil ?_
  refine ⟨by show 2 ≤ sizeLine; decide, ?_⟩
  refine sa_cons ?_
  refine se_tup ?_
  refine sa_cons ?_
  refine se_str ?_  -- 'say'
  refine sa_cons ?_
  refine se_str ?_  -- 'again'
  refine sa_nil ?_
  refine ⟨by show 2 ≤ sizeLine; decide, ?_⟩
  refine sa_nil ?_
  refine ⟨by show 3 ≤ sizeLine; decide, ?_⟩
  refine sg_name (i := 6) ?_ sc_Ldrop.nd  -- _law_rows =
  refine sss_cons ?_
  refine ss_ret ?_
  refine se_tup ?_
  refine sa_cons ?_
  refine se_var (i := 1) rfl ?_  -- _law_name
  refine sa_cons ?_
  refine se_str ?_  -- 'drop'
  refine sa_cons ?_
  refine se_tup ?_
  refine sa_nil ?_
  refine ⟨by show 0 ≤ sizeLine; decide, ?_⟩
  refine sa_cons ?_
  refine se_var (i := 6) rfl ?_  -- _law_rows
  refine sa_nil ?_
  refine ⟨by show 4 ≤ sizeLine; decide, ?_⟩
  exact h _ e1
abbrev s_Llook : Stmt := top 81
theorem sc_Llook : FnScope ["_law_lore", "_law_name", "_law_here", "_law_row_here", "_law_home"] ["_law_lore", "_law_name", "_law_here"] (defScope s_Llook) := ⟨rfl, rfl, rfl, by decide +kernel, rfl, by decide +kernel, by decide +kernel⟩
set_option maxHeartbeats 4000000 in
theorem d_Llook (D : Dfn K mg "_law_look" s_Llook ["_law_lore", "_law_name", "_law_here"]) (D_house : DHouse P w K mg base) : DefOk P w K mg base "_law_look" ["_law_lore", "_law_name", "_law_here"] 3 (S_hand1 lookS) := by
  refine dfnOk D sc_Llook (fun ws mu P ⟨_, _, _, _, _, _, _, e, _⟩ => by rw [e]; rfl) (fun f cdv A outer s H E hr ws mu Pt ⟨Lo, Nm, v, x, nm, z1, h1, e, lw, ok, a, h⟩ => ?_)
  subst e
  have e0 : Ext mu mu := Ext.refl
  refine sss_cons ?_
  refine ss_par (i := 3) (j := 4) ?_ rfl sc_Llook.nd (by decide) (by rfl)  -- (_law_row_here, _law_home) =
  refine se_dget (hu_of hr) ?_  -- _law_lore['row']
  refine se_var (i := 0) rfl ?_  -- _law_lore
  refine se_str ?_  -- 'row'
  refine (lw.ext e0).grow ?_
  refine se_callD D_house (hr.mono (by decide)) ?_
  refine sa_cons ?_
  refine se_var (i := 0) rfl ?_  -- _law_lore
  refine sa_cons ?_
  refine se_var (i := 2) rfl ?_  -- _law_here
  refine sa_nil ?_
  refine ⟨Lo, v, (z1, h1, [x.no, x.row]), rfl, lw.lore.ext e0, ok, a, fun mu1 f1 => ?_⟩
  have e1 := e0.trans f1
  refine sss_cons ?_
  refine ss_ret ?_
  refine se_tup ?_
  refine sa_cons ?_
  refine se_var (i := 1) rfl ?_  -- _law_name
  refine sa_cons ?_
  refine se_str ?_  -- 'look'
  refine sa_cons ?_
  refine se_tup ?_
  refine sa_nil ?_
  refine ⟨by show 0 ≤ sizeLine; decide, ?_⟩
  refine sa_cons ?_
  refine se_tup ?_
  refine sa_cons ?_
  refine se_tup ?_
  refine sa_cons ?_
  refine se_str ?_  -- 'do'
  refine sa_cons ?_
  refine se_var (i := 4) rfl ?_  -- _law_home
  refine sa_cons ?_
  refine se_tup ?_
  refine sa_cons ?_
  refine se_tup ?_
  refine sa_cons ?_
  refine se_var (i := 2) rfl ?_  -- _law_here
  refine sa_cons ?_
  refine se_var (i := 3) rfl ?_  -- _law_row_here
  refine sa_nil ?_
  refine ⟨by show 2 ≤ sizeLine; decide, ?_⟩
  refine sa_nil ?_
  refine ⟨by show 1 ≤ sizeLine; decide, ?_⟩
  refine sa_cons ?_
  refine se_tup ?_
  refine sa_nil ?_
  refine ⟨by show 0 ≤ sizeLine; decide, ?_⟩
  refine sa_cons ?_
  refine se_tup ?_
  refine sa_nil ?_
  refine ⟨by show 0 ≤ sizeLine; decide, ?_⟩
  refine sa_cons ?_
  refine se_int ?_  -- 1
  refine sa_cons ?_
  refine se_int ?_  -- 2
  refine sa_nil ?_
  refine ⟨by show 7 ≤ sizeLine; decide, ?_⟩
  refine sa_cons ?_
  refine se_tup ?_
  refine sa_cons ?_
  refine se_str ?_  -- 'say'
  refine sa_cons ?_
  refine se_str ?_  -- 'there'
  refine sa_nil ?_
  refine ⟨by show 2 ≤ sizeLine; decide, ?_⟩
  refine sa_cons ?_
  refine se_tup ?_
  refine sa_cons ?_
  refine se_str ?_  -- 'say'
  refine sa_cons ?_
  refine se_str ?_  -- 'again'
  refine sa_nil ?_
  refine ⟨by show 2 ≤ sizeLine; decide, ?_⟩
  refine sa_nil ?_
  refine ⟨by show 3 ≤ sizeLine; decide, ?_⟩
  refine sa_nil ?_
  refine ⟨by show 4 ≤ sizeLine; decide, ?_⟩
  exact h _ e1
end
end K1
set_option Elab.async false
set_option linter.all false
set_option maxRecDepth 100000
/-! k10: the law's page. -/
namespace K1
open PySem L2 Dv
/-- what stands beside old cells that all stay -/
structure Kp (mu0 mu : Mu) (l : List (Addr × C)) : Prop where
  cell : ∀ q ∈ l, mu q.1 = some q.2 ∧ mu0 q.1 = none
  nd : (l.map (·.1)).Nodup
  ex : Ext mu0 mu
theorem Kp.zero {mu0 : Mu} : Kp mu0 mu0 [] := ⟨fun q hq => (by cases hq), by simp, Ext.refl⟩
section
variable {mu0 mu mu' : Mu} {a b : Addr} {l : List (Addr × C)} {x y : C}
theorem Kp.at (L : Kp mu0 mu l) (i : Nat) (h : l[i]? = some (a, x)) : mu a = some x := (L.cell _ (List.mem_of_getElem? h)).1
theorem Kp.ext (L : Kp mu0 mu l) (e : Ext mu mu') : Kp mu0 mu' l := ⟨fun q hq => ⟨e _ _ (L.cell q hq).1, (L.cell q hq).2⟩, L.nd, L.ex.trans e⟩
theorem Kp.call (L : Kp mu0 mu l) (h : mu a = none) (e : Ext mu mu') (h2 : mu' a = some x) : Kp mu0 mu' (l ++ [(a, x)]) := by
  refine ⟨fun q hq => ?_, ?_, L.ex.trans e⟩
  · rcases List.mem_append.mp hq with z | z
    · exact ⟨e _ _ (L.cell q z).1, (L.cell q z).2⟩
    · rw [List.mem_singleton.mp z]
      exact ⟨h2, free_of L.ex h⟩
  · rw [List.map_append, List.nodup_append]
    refine ⟨L.nd, by simp, fun b hb d hd z => ?_⟩
    obtain ⟨q, hq, rfl⟩ := List.mem_map.mp hb
    rw [List.map_cons, List.map_nil, List.mem_singleton] at hd
    have := (L.cell q hq).1
    rw [z, hd, h] at this
    cases this
theorem Kp.new (L : Kp mu0 mu l) (h : mu a = none) (x : C) : Kp mu0 (setM mu a x) (l ++ [(a, x)]) := L.call h (Ext.refl.set h) setM_same
theorem Kp.sub {l' : List (Addr × C)} (L : Kp mu0 mu l) (h : l'.Sublist l) : Kp mu0 mu l' := ⟨fun q hq => L.cell q (h.subset hq), (h.map _).nodup L.nd, L.ex⟩
theorem Kp.put (L : Kp mu0 mu l) (i : Nat) (h : l[i]? = some (a, x)) (y : C) : Kp mu0 (setM mu a y) (l.set i (a, y)) := by
  have ha := L.cell _ (List.mem_of_getElem? h)
  have sm := set_map h y
  refine ⟨fun q hq => ?_, by rw [sm]; exact L.nd, Ext.set L.ex ha.2⟩
  obtain ⟨j, hj⟩ := List.getElem?_of_mem hq
  rw [List.getElem?_set] at hj
  by_cases z : i = j
  · subst z
    rw [if_pos rfl, if_pos (List.getElem?_eq_some_iff.mp h).1] at hj
    cases hj
    exact ⟨setM_same, ha.2⟩
  · rw [if_neg z] at hj
    have hq2 := L.cell q (List.mem_of_getElem? hj)
    have ne : q.1 ≠ a := fun e => by
      have h1 : (l.map (·.1))[j]? = some a := by rw [List.getElem?_map, hj]; exact congrArg some e
      have h2 : (l.map (·.1))[i]? = some a := by rw [List.getElem?_map, h]; rfl
      exact z ((List.getElem?_inj (List.getElem?_eq_some_iff.mp h2).1 L.nd).mp (h2.trans h1.symm))
    rw [setM_ne ne]
    exact hq2
theorem Kp.cat {P : PW1} {xs ys : List Str} (L : Kp mu0 mu (l ++ [(a, .lst (stW xs)), (b, .lst (stW ys))])) (hl : xs.length + ys.length ≤ 60) (h : ∀ q mu', Kp mu0 mu' (l ++ [(q, .lst (stW (xs ++ ys)))]) → P (.m q) mu') : catLV (.m a) (.m b) mu P := by
  have ha := (L.cell (a, .lst (stW xs)) (by simp)).1
  have hb := (L.cell (b, .lst (stW ys)) (by simp)).1
  refine ⟨a, b, _, _, rfl, rfl, ha, hb, by rw [stW_len, stW_len]; exact Nat.le_trans hl (by decide), fun q n => ?_⟩
  have L2 := (L.sub (l' := l) (by simp)).new n (.lst (stW (xs ++ ys)))
  rw [st_app]
  exact h q _ L2
end
/-! the words of a row -/
def rowL : Rw → List Str
  | .say a => ["say", a]
  | .step wd ho ne mk fl th ot => [wd, ho] ++ pairsS ne ++ [(":" : Str)] ++ pairsS mk ++ [(":" : Str)] ++ fl ++ [(":" : Str), numS th, numS ot]
def RwN : Rw → Prop
  | .say a => NmOk a
  | .step wd ho ne mk fl th ot => (wd = "do" ∨ wd = "ask") ∧ NmOk ho ∧ (ne.length ≤ 6 ∧ ∀ q ∈ ne, NmOk q.1 ∧ NmOk q.2) ∧ (mk.length ≤ 6 ∧ ∀ q ∈ mk, NmOk q.1 ∧ NmOk q.2) ∧ (fl.length ≤ 4 ∧ ∀ f ∈ fl, NmOk f) ∧ th ≤ 100 ∧ ot ≤ 100
theorem four_nm : NmOk "do" ∧ NmOk "ask" ∧ NmOk "say" ∧ NmOk "scheme" := by unfold NmOk; decide +kernel
theorem word_nm {z : Str} (h : z = "do" ∨ z = "ask") : NmOk z := by
  rcases h with e | e <;> rw [e]
  · exact four_nm.1
  · exact four_nm.2.1
theorem word_say {z : Str} (h : z = "do" ∨ z = "ask") : z ≠ "say" := by
  rcases h with e | e <;> rw [e] <;> decide +kernel
theorem sorts4_nm : ∀ s ∈ sorts4, NmOk s := by unfold NmOk sorts4; decide +kernel
theorem answers4_nm {s : Str} {ys : List Str} (h : answers4 s = some ys) : ys.length ≤ 3 ∧ ∀ y ∈ ys, NmOk y := by
  have h1 : ∀ y ∈ [("done" : Str), "refused", "again"], NmOk y := by unfold NmOk; decide +kernel
  have h2 : ∀ y ∈ [("done" : Str), "none", "again"], NmOk y := by unfold NmOk; decide +kernel
  have h3 : ∀ y ∈ [("there" : Str), "none", "again"], NmOk y := by unfold NmOk; decide +kernel
  have h4 : ∀ y ∈ [("done" : Str), "again"], NmOk y := by unfold NmOk; decide +kernel
  unfold answers4 at h
  split at h
  · cases h; exact ⟨by decide, h1⟩
  · split at h
    · cases h; exact ⟨by decide, h2⟩
    · split at h
      · cases h; exact ⟨by decide, h3⟩
      · split at h
        · cases h; exact ⟨by decide, h4⟩
        · cases h
theorem ptf_nm {v : Wd} (ok : WdOk v) {ho : Str} {p : Pat} (k : PtOk (v.slots.filter (atHome ho)) p) : p.length ≤ 6 ∧ ∀ q ∈ p, NmOk q.1 ∧ NmOk q.2 :=
  ⟨k.len, pt_nm ok fun q hq => let ⟨s, h1, h2⟩ := k.pr q hq; ⟨s, (List.mem_filter.mp h1).1, h2⟩⟩
theorem rwN_of {v : Wd} (ok : WdOk v) {so : Str} {wt : List Str} {many : Nat} (m : many ≤ 100) : ∀ {r : Rw}, RwOk v so wt many r → RwN r
  | .say a, ⟨ys, h1, h2⟩ => (answers4_nm h1).2 a h2
  | .step wd ho ne mk fl th ot, h => ⟨h.wd, ok.hs.nm _ h.ho, ptf_nm ok h.nee, ptf_nm ok h.mak, ⟨h.fl.raw.len, fun f hf => flags_nm f (h.fl.raw.mem f hf)⟩, by have := h.th; omega, by have := h.ot; omega⟩
theorem colon20 : (":" : Str).length ≤ 20 := by decide +kernel
theorem rowL_ok : ∀ {r : Rw}, RwN r → LnOk (rowL r)
  | .say a, h => ⟨by show 2 ≤ 30; decide, fun z hz => by
      simp only [rowL, List.mem_cons, List.not_mem_nil, or_false] at hz
      rcases hz with rfl | rfl
      · exact nm20 four_nm.2.2.1
      · exact nm20 h⟩
  | .step wd ho ne mk fl th ot, ⟨h0, h2, ⟨h3, h4⟩, ⟨h5, h6⟩, ⟨h7, h8⟩, h9, h10⟩ => by
    have h1 := word_nm h0
    obtain ⟨a1, a2⟩ := pairs_ok h3 h4
    obtain ⟨b1, b2⟩ := pairs_ok h5 h6
    refine ⟨by simp only [rowL, List.length_append, List.length_cons, List.length_nil]; omega, fun z hz => ?_⟩
    simp only [rowL, List.mem_append, List.mem_cons, List.not_mem_nil, or_false] at hz
    rcases hz with (((((e | e) | e) | e) | e) | e) | e | e | e
    all_goals first
      | (rw [e]; first | exact nm20 h1 | exact nm20 h2 | exact colon20 | exact num20 h9 | exact num20 h10)
      | exact a2 z e
      | exact b2 z e
      | skip
    all_goals first | exact nm20 (h8 z e) | (rcases e with e | e <;> (rw [e]; first | exact nm20 h1 | exact nm20 h2)) | skip
theorem num_log {i : Nat} (h : i ≤ 100) : ((i : Nat) : Int).natAbs.log2 < 1920 := by
  have := log2_lt (n := i) (m := 60) (Nat.lt_of_le_of_lt h (by decide)) (by decide)
  show Nat.log2 i < 1920
  omega
theorem say_line (a : Str) : ("say " : Str) ++ a = Txt.join " " ["say", a] := by
  rw [TL.join_eq]
  show _ = (("say" : Str) ++ " ") ++ a
  rw [show (("say" : Str) ++ " ") = "say " from by decide +kernel]
section
variable {P : Program} {w : World} {K : PySem.W.Frag} {mg : Str → Option Value} {base : Heap}
abbrev N_Lrow_line : List Str := ["_law_row_here", "_law_word", "_law_house_here", "_law_needs", "_law_makes", "_law_flags", "_law_then", "_law_other", "_law_parts"]
abbrev s_Lrow_line : Stmt := top 84
theorem sc_Lrow_line : FnScope N_Lrow_line ["_law_row_here"] (defScope s_Lrow_line) := ⟨rfl, rfl, rfl, by decide +kernel, rfl, by decide +kernel, by decide +kernel⟩
def S_lrow_line : SpW := fun ws mu P => ∃ r, ws = [rwW r] ∧ RwN r ∧ ∀ mu', Ext mu mu' → P (.str (Txt.join " " (rowL r))) mu'
set_option maxHeartbeats 1000000 in
theorem d_Lrow_line (D : Dfn K mg "_law_row_line" s_Lrow_line ["_law_row_here"]) (B : Bl mg) (D_pairs : DefOk P w K mg base "_law_pairs" ["_law_pattern_here"] 1 S_pairs) : DefOk P w K mg base "_law_row_line" ["_law_row_here"] 2 S_lrow_line := by
  refine dfnOk D sc_Lrow_line (fun ws mu P ⟨_, e, _⟩ => by rw [e]; rfl) (fun f cdv A outer s H E hr ws mu Pt ⟨r, e, ok, h⟩ => ?_)
  subst e
  cases r with
  | say a =>
    refine sss_cons (ss_if (st_cmp op_eq eqT_w (nomark _) (se_ix (se_var (i := 0) rfl (se_int ⟨.str "say", atI_nat' (i := 0) rfl, se_str ⟨_, _, rfl, rfl, fun b hb => ?_⟩⟩)))))
    refine if2_t (by rw [hb]; decide +kernel) ?_
    refine sss_cons (ss_ret (se_bin op_add_str cat_w (se_str (se_ix (se_var (i := 0) rfl (se_int ⟨.str a, atI_nat' (i := 1) rfl, ?_⟩))))))
    have l1 : ("say " : Str).length = 4 := by decide +kernel
    have l2 : a.length ≤ 8 := ok.2.1
    refine ⟨Nat.le_trans (by omega : ("say " : Str).length + a.length ≤ 12) (by decide), ?_⟩
    rw [say_line]
    exact h _ Ext.refl
  | step wd ho ne mk fl th ot =>
    obtain ⟨k1, k2, ⟨k3, k4⟩, ⟨k5, k6⟩, ⟨k7, k8⟩, k9, k10⟩ := ok
    have pl1 := (pairs_ok k3 k4).1
    have pl2 := (pairs_ok k5 k6).1
    have RN : RwN (.step wd ho ne mk fl th ot) := ⟨k1, k2, ⟨k3, k4⟩, ⟨k5, k6⟩, ⟨k7, k8⟩, k9, k10⟩
    refine sss_cons (ss_if (st_cmp op_eq eqT_w (nomark _) (se_ix (se_var (i := 0) rfl (se_int ⟨.str wd, atI_nat' (i := 0) rfl, se_str ⟨_, _, rfl, rfl, fun b hb => ?_⟩⟩)))))
    refine if2_f (by rw [hb]; exact decide_eq_false (word_say k1)) (sss_nil ?_)
    refine sss_cons (ss_asg (se_var (i := 0) rfl ?_))
    refine sg_tup (ws := [.str wd, .str ho, ptW ne, ptW mk, nmW fl, .int (th : Nat), .int (ot : Nat)]) (sgs_cons (sg_name (i := 1) (sgs_cons (sg_name (i := 2) (sgs_cons (sg_name (i := 3) (sgs_cons (sg_name (i := 4) (sgs_cons (sg_name (i := 5) (sgs_cons (sg_name (i := 6) (sgs_cons (sg_name (i := 7) (sgs_nil ?_) sc_Lrow_line.nd)) sc_Lrow_line.nd)) sc_Lrow_line.nd)) sc_Lrow_line.nd)) sc_Lrow_line.nd)) sc_Lrow_line.nd)) sc_Lrow_line.nd))
    refine sss_cons (ss_asg (se_bin op_cat catL_w (se_bin op_cat catL_w (se_bin op_cat catL_w (se_bin op_cat catL_w (se_lst (sa_cons (se_var (i := 1) rfl (sa_cons (se_var (i := 2) rfl (sa_nil ⟨by show 2 ≤ sizeLine; decide, fun b1 n1 => ?_⟩)))))))))))
    have L1 := Kp.zero.new n1 (.lst (stW [wd, ho]))
    refine se_callD D_pairs (hr.mono (by decide)) (sa_cons (se_var (i := 3) rfl (sa_nil ?_)))
    refine ⟨ne, rfl, k3, k4, fun b2 m2 n2 hb2 e2 => ?_⟩
    refine Kp.cat (l := []) (L1.call n2 e2 hb2) (by show 2 + _ ≤ 60; omega) fun b3 m3 L3 => ?_
    refine se_lst (sa_cons (se_str (sa_nil ⟨by show 1 ≤ sizeLine; decide, fun b4 n4 => ?_⟩)))
    refine Kp.cat (l := []) (L3.new n4 (.lst (stW [":"]))) (by simp only [List.length_append, List.length_cons, List.length_nil]; omega) fun b5 m5 L5 => ?_
    refine se_callD D_pairs (hr.mono (by decide)) (sa_cons (se_var (i := 4) rfl (sa_nil ?_)))
    refine ⟨mk, rfl, k5, k6, fun b6 m6 n6 hb6 e6 => ?_⟩
    refine Kp.cat (l := []) (L5.call n6 e6 hb6) (by simp only [List.length_append, List.length_cons, List.length_nil]; omega) fun b7 m7 L7 => ?_
    refine se_lst (sa_cons (se_str (sa_nil ⟨by show 1 ≤ sizeLine; decide, fun b8 n8 => ?_⟩)))
    refine Kp.cat (l := []) (L7.new n8 (.lst (stW [":"]))) (by simp only [List.length_append, List.length_cons, List.length_nil]; omega) fun b9 m9 L9 => ?_
    refine sg_name (i := 8) ?_ sc_Lrow_line.nd
    refine sss_cons (ss_ret (se_join (se_str ⟨_, rfl, ?_⟩)))
    refine se_bin op_cat catL_w (se_bin op_cat catL_w (se_var (i := 8) rfl (se_listC (se_var (i := 5) rfl ?_) B.list)))
    intro c1 o1
    refine Kp.cat (l := []) (L9.new o1 (.lst (stW fl))) (by simp only [List.length_append, List.length_cons, List.length_nil]; omega) fun c2 m10 L10 => ?_
    refine se_lst (sa_cons (se_str (sa_cons (se_strI (se_var (i := 6) rfl ⟨_, rfl, num_log k9, ?_⟩) B.str))))
    refine sa_cons (se_strI (se_var (i := 7) rfl ⟨_, rfl, num_log k10, ?_⟩) B.str)
    refine sa_nil ⟨by show 3 ≤ sizeLine; decide, fun c3 o3 => ?_⟩
    refine Kp.cat (l := []) (L10.new o3 (.lst (stW [(":" : Str), numS th, numS ot]))) (by simp only [List.length_append, List.length_cons, List.length_nil]; omega) fun c4 m11 L11 => ?_
    have LO := rowL_ok RN
    have sm := sum_le LO.2
    have l1 : (" " : Str).length = 1 := by decide +kernel
    exact ⟨c4, rowL (.step wd ho ne mk fl th ot), rfl, L11.at 0 rfl, by rw [l1]; have := LO.1; omega, h _ L11.ex⟩
end
/-! the page -/
def headL (s : Sch) : List Str := [("scheme" : Str), s.nm, s.sort] ++ s.watch
def schL (s : Sch) : List (List Str) := headL s :: s.rows.map rowL
def plansL (ps : List Sch) : List (List Str) := ps.flatMap schL
def pageP (ps : List Sch) : Str := Txt.join "\n" ((plansL ps).map (Txt.join " "))
structure PlOk (v : Wd) (ps : List Sch) : Prop where
  lo : 1 ≤ ps.length
  hi : ps.length ≤ 3
  each : ∀ s ∈ ps, SchOk v s
  nd : (ps.map (·.nm)).Nodup
theorem watch_nm {v : Wd} (ok : WdOk v) {wt : List Str} (h : WatchOk v wt) : ∀ z ∈ wt, NmOk z := fun z hz => by
  obtain ⟨s, hs, e⟩ := h.sub z hz
  exact e ▸ (ok.ss.each s hs).nm
theorem headL_ok {v : Wd} (ok : WdOk v) {s : Sch} (h : SchOk v s) : LnOk (headL s) := by
  refine ⟨by have := h.wt.len; simp only [headL, List.length_append, List.length_cons, List.length_nil]; omega, fun z hz => ?_⟩
  simp only [headL, List.mem_append, List.mem_cons, List.not_mem_nil, or_false] at hz
  rcases hz with (e | e | e) | e
  · rw [e]; exact nm20 four_nm.2.2.2
  · rw [e]; exact nm20 h.nm
  · rw [e]; exact nm20 (sorts4_nm _ h.so)
  · exact nm20 (watch_nm ok h.wt z e)
theorem sch_rw {v : Wd} (ok : WdOk v) {s : Sch} (h : SchOk v s) : ∀ r ∈ s.rows, RwN r := fun r hr => rwN_of ok (by have := h.hi; omega) (h.each r hr)
theorem schL_ok {v : Wd} (ok : WdOk v) {s : Sch} (h : SchOk v s) : (schL s).length ≤ 13 ∧ ∀ l ∈ schL s, LnOk l := by
  refine ⟨by have := h.hi; unfold schL; rw [List.length_cons, List.length_map]; omega, fun l hl => ?_⟩
  rcases List.mem_cons.mp hl with z | z
  · rw [z]; exact headL_ok ok h
  · obtain ⟨r, hr, rfl⟩ := List.mem_map.mp z
    exact rowL_ok (sch_rw ok h r hr)
theorem plansL_ok {v : Wd} (ok : WdOk v) : ∀ {ps : List Sch}, (∀ s ∈ ps, SchOk v s) → (plansL ps).length ≤ 13 * ps.length ∧ ∀ l ∈ plansL ps, LnOk l
  | [], _ => ⟨by decide, fun l hl => (by cases hl)⟩
  | s :: ps, h => by
    obtain ⟨h1, h2⟩ := plansL_ok ok (ps := ps) fun t ht => h t (by simp [ht])
    obtain ⟨h3, h4⟩ := schL_ok ok (h s (by simp))
    refine ⟨?_, fun l hl => ?_⟩
    · show (schL s ++ plansL ps).length ≤ _
      rw [List.length_append, List.length_cons]
      omega
    · have hl : l ∈ schL s ++ plansL ps := hl
      rcases List.mem_append.mp hl with z | z
      · exact h4 l z
      · exact h2 l z
theorem plansL_take {ps : List Sch} {i : Nat} {s : Sch} (h : ps[i]? = some s) : plansL (ps.take (i + 1)) = plansL (ps.take i) ++ schL s := by
  unfold plansL
  rw [List.take_add_one, h, List.flatMap_append]
  simp
theorem line_len {l : List Str} (h : LnOk l) : (Txt.join " " l).length ≤ 700 := by
  have a1 := join_le " " l
  have a2 := sum_le h.2
  have := h.1
  have l2 : (" " : Str).length = 1 := by decide +kernel
  rw [l2] at a1
  omega
theorem page_size {ls : List (List Str)} (hl : ls.length ≤ 60) (h : ∀ l ∈ ls, LnOk l) : ((ls.map (Txt.join " ")).map (·.length)).sum + (ls.map (Txt.join " ")).length * ("\n" : Str).length ≤ 16777216 := by
  have each : ∀ z ∈ ls.map (Txt.join " "), z.length ≤ 700 := fun z hz => by
    obtain ⟨l, hl, rfl⟩ := List.mem_map.mp hz
    exact line_len (h l hl)
  have sm := sum_le each
  have l1 : ("\n" : Str).length = 1 := by decide +kernel
  rw [List.length_map] at sm ⊢
  rw [l1]
  omega
theorem line_size {l : List Str} (h : LnOk l) : (l.map (·.length)).sum + l.length * (" " : Str).length ≤ 16777216 := by
  have sm := sum_le h.2
  have l1 : (" " : Str).length = 1 := by decide +kernel
  rw [l1]
  have := h.1
  omega
def joinsW (ls : List (List Str)) : List W := stW (ls.map (Txt.join " "))
theorem joins_app (a b : List (List Str)) : joinsW a ++ joinsW b = joinsW (a ++ b) := by unfold joinsW; rw [st_app, List.map_append]
theorem joins_len (a : List (List Str)) : (joinsW a).length = a.length := by unfold joinsW; rw [stW_len, List.length_map]
theorem Kp.comp {mu0 mu mu' : Mu} {D : Addr} {l : List (Addr × C)} (L : Kp mu0 mu l) (e : Ext mu mu') (h : mu D = none) (x : C) : Kp mu0 (setM mu' D x) (l ++ [(D, x)]) := L.call h (Ext.set e h) setM_same
section
variable {P : Program} {w : World} {K : PySem.W.Frag} {mg : Str → Option Value} {base : Heap}
abbrev N_Lschemes_page : List Str := ["_law_plans_here", "_law_lines", "_law_name", "_law_sort", "_law_watch", "_law_rows", "_law_row_here"]
abbrev s_Lschemes_page : Stmt := top 85
theorem sc_Lschemes_page : FnScope N_Lschemes_page ["_law_plans_here"] (defScope s_Lschemes_page) := ⟨rfl, rfl, rfl, by decide +kernel, rfl, by decide +kernel, by decide +kernel⟩
def S_lpage : SpW := fun ws mu P => ∃ v ps, ws = [.tup (ps.map schW)] ∧ WdOk v ∧ PlOk v ps ∧ ∀ mu', Ext mu mu' → P (.str (pageP ps)) mu'
set_option maxHeartbeats 1000000 in
theorem d_Lschemes_page (D : Dfn K mg "_law_schemes_page" s_Lschemes_page ["_law_plans_here"]) (B : Bl mg) (D_row : DefOk P w K mg base "_law_row_line" ["_law_row_here"] 2 S_lrow_line) : DefOk P w K mg base "_law_schemes_page" ["_law_plans_here"] 3 S_lpage := by
  refine dfnOk D sc_Lschemes_page (fun ws mu P ⟨_, _, e, _⟩ => by rw [e]; rfl) (fun f cdv A outer s H E hr ws mu Pt ⟨v, ps, e, ok, pl, h⟩ => ?_)
  subst e
  refine sss_cons (ss_asg (se_lst (sa_nil ⟨by decide, fun Ln nLn => ?_⟩)))
  have L0 : Kp mu (setM mu Ln (.lst (joinsW []))) [(Ln, .lst (joinsW []))] := Kp.zero.new nLn (.lst (joinsW []))
  refine sg_name (i := 1) ?_ sc_Lschemes_page.nd
  change SSs _ _ _ (setM mu Ln (.lst (joinsW []))) _
  generalize setM mu Ln (.lst (joinsW [])) = mu0 at L0 ⊢
  refine sss_cons ?_
  refine ss_for PassesOwn.never rfl (by intro _; rfl) ?_
  refine si_tup (se_var (i := 0) rfl ?_)
  refine ⟨fun i G' mu' => ∃ y1 y2 y3 y4, G' = [some (.tup (ps.map schW)), some (.m Ln), y1, y2, y3, y4, none] ∧ Kp mu mu' [(Ln, .lst (joinsW (plansL (ps.take i))))],
    ⟨none, none, none, none, rfl, L0⟩, fun i G' mu' _ _ => trivial, fun i u G' mu' hu ⟨y1, y2, y3, y4, eG, LL⟩ => ?_, fun G' mu' ⟨y1, y2, y3, y4, eG, LL⟩ => ?_⟩
  · subst eG
    rw [List.getElem?_map] at hu
    cases ht : ps[i]? with
    | none => rw [ht] at hu; cases hu
    | some sc =>
    rw [ht] at hu
    cases hu
    have sm := List.mem_of_getElem? ht
    have so := pl.each sc sm
    have i3 : i < ps.length := (List.getElem?_eq_some_iff.mp ht).1
    have p3 := pl.hi
    have tl := (plansL_ok ok (ps := ps.take i) fun t ht => pl.each t (List.mem_of_mem_take ht)).1
    have tk : (ps.take i).length ≤ i := by rw [List.length_take]; omega
    have hk := headL_ok ok so
    refine sg_tup (ws := [.str sc.nm, .str sc.sort, nmW sc.watch, .tup (sc.rows.map rwW)]) (sgs_cons (sg_name (i := 2) (sgs_cons (sg_name (i := 3) (sgs_cons (sg_name (i := 4) (sgs_cons (sg_name (i := 5) (sgs_nil ?_) sc_Lschemes_page.nd)) sc_Lschemes_page.nd)) sc_Lschemes_page.nd)) sc_Lschemes_page.nd))
    refine sss_cons (ss_expr (se_append (se_var (i := 1) rfl ⟨⟨_, LL.at 0 rfl⟩, sa_one ?_⟩)))
    refine se_join (se_str ⟨_, rfl, ?_⟩)
    refine se_bin op_cat catL_w (se_lst (sa_cons (se_str (sa_cons (se_var (i := 2) rfl (sa_cons (se_var (i := 3) rfl (sa_nil ⟨by show 3 ≤ sizeLine; decide, fun b1 n1 => ?_⟩))))))))
    have L1 := LL.new n1 (.lst (stW [("scheme" : Str), sc.nm, sc.sort]))
    refine se_listC (se_var (i := 4) rfl ?_) B.list
    intro b2 n2
    have L2 := L1.new n2 (.lst (stW sc.watch))
    refine Kp.cat (l := [(Ln, .lst (joinsW (plansL (ps.take i))))]) L2 (by have := so.wt.len; show 3 + _ ≤ 60; omega) fun b3 m3 L3 => ?_
    refine ⟨b3, headL sc, rfl, L3.at 1 rfl, line_size hk, ?_⟩
    refine ⟨_, L3.at 0 rfl, by rw [joins_len]; exact Nat.lt_of_le_of_lt (by omega : _ ≤ 39) (by decide), ?_⟩
    have em : joinsW (plansL (ps.take i)) ++ [W.str (Txt.join " " (headL sc))] = joinsW (plansL (ps.take i) ++ [headL sc]) := joins_app _ [headL sc]
    rw [em]
    have L4 := (L3.put 0 rfl (.lst (joinsW (plansL (ps.take i) ++ [headL sc])))).sub (l' := [(Ln, .lst (joinsW (plansL (ps.take i) ++ [headL sc])))]) (by simp)
    generalize setM m3 Ln (.lst (joinsW (plansL (ps.take i) ++ [headL sc]))) = m4 at L4 ⊢
    refine sss_cons (ss_expr (se_extend (se_var (i := 1) rfl ⟨⟨_, L4.at 0 rfl⟩, sa_one ?_⟩)))
    refine se_lc (own := [("_law_row_here", 6)]) (.nm 6) rfl sc_Lschemes_page.nd (blkOk_by (N := N_Lschemes_page) (sc := defScope s_Lschemes_page) (by decide +kernel)) rfl (fun _ _ _ _ _ => (pg_name (i := 6) sc_Lschemes_page.nd rfl (Or.inl rfl))) (by intro _; rfl) ?_
    refine si_tup (se_var (i := 5) rfl ?_)
    intro Dd hDd
    refine ⟨fun j acc mu2 => acc = joinsW ((sc.rows.take j).map rowL) ∧ Ext m4 mu2, ⟨rfl, Ext.refl⟩, fun j acc mu2 _ q => trivial, fun j u acc mu2 hu q => ?_, fun acc mu2 q => ?_⟩
    · obtain ⟨ea, ex⟩ := q
      rw [List.getElem?_map] at hu
      cases hj : sc.rows[j]? with
      | none => rw [hj] at hu; cases hu
      | some r =>
      rw [hj] at hu
      cases hu
      have rm := List.mem_of_getElem? hj
      have r12 := so.hi
      refine ⟨by rw [ea, joins_len, List.length_map, List.length_take]; exact Nat.lt_of_le_of_lt (by omega : min j sc.rows.length ≤ 12) (by decide), _, rfl, fun s H C cl fp => ?_⟩
      refine se_callD D_row (hr.mono (by decide)) (sa_cons (se_var (i := 6) rfl (sa_nil ?_)))
      exact ⟨r, rfl, sch_rw ok so r rm, fun mu3 e3 => ⟨by rw [ea, List.take_add_one, hj, List.map_append, ← joins_app]; rfl, ex.trans e3⟩⟩
    · obtain ⟨ea, ex⟩ := q
      rw [List.length_map, List.take_length] at ea
      subst ea
      have L5 := L4.comp ex hDd (.lst (joinsW (sc.rows.map rowL)))
      refine ⟨_, _, L5.at 0 rfl, L5.at 1 rfl, by rw [joins_len, joins_len, List.length_append, List.length_map]; have := so.hi; exact Nat.le_trans (by show _ + 1 + _ ≤ 52; omega) (by decide), ?_⟩
      have em2 : joinsW (plansL (ps.take i) ++ [headL sc]) ++ joinsW (sc.rows.map rowL) = joinsW (plansL (ps.take (i + 1))) := by
        rw [joins_app, plansL_take ht, List.append_assoc]
        rfl
      rw [em2]
      exact sss_nil ⟨_, _, _, _, rfl, (L5.put 0 rfl (.lst (joinsW (plansL (ps.take (i + 1)))))).sub (l' := [(Ln, .lst (joinsW (plansL (ps.take (i + 1)))))]) (by simp)⟩
  · subst eG
    rw [List.length_map, List.take_length] at LL
    obtain ⟨z1, z2⟩ := plansL_ok ok pl.each
    have p3 := pl.hi
    refine sss_cons (ss_ret (se_join (se_str ⟨_, rfl, ?_⟩)))
    refine se_var (i := 1) rfl ?_
    exact ⟨Ln, (plansL ps).map (Txt.join " "), rfl, LL.at 0 rfl, page_size (by omega) z2, h _ LL.ex⟩
end
end K1
set_option Elab.async false
set_option linter.all false
set_option maxRecDepth 100000
/-! k10: _law_plans. -/
namespace K1
open PySem L2 Dv
section
variable {P : Program} {w : World} {K : PySem.W.Frag} {mg : Str → Option Value} {base : Heap}
abbrev N_Lplans : List Str := ["_law_jar_here", "_law_lore", "_law_found", "_law_one", "_law_two", "_law_name", "_law_here", "_law_there", "_law_some", "_law_way"]
abbrev s_Lplans : Stmt := top 86
theorem sc_Lplans : FnScope N_Lplans ["_law_jar_here", "_law_lore"] (defScope s_Lplans) := ⟨rfl, rfl, rfl, by decide +kernel, rfl, by decide +kernel, by decide +kernel⟩
def S_lplans : SpW := fun ws mu P => ∃ p Lo Nm v x c, ws = [.m p, .m Lo] ∧ Lw mu Lo Nm v x ∧ WdOk v ∧ LxOk v x ∧ Lo ≠ p ∧ Nm ≠ p ∧ JarOk mu p c ∧ c + 2000 < 10000 ∧ ∀ ps mu', PlOk v ps → JarOk mu' p (c + 1300) → ExtBut p mu mu' → P (.tup (ps.map schW)) mu'
theorem four_get {v : Wd} {nm : Str} {a b c d : Sch} (ha : SchOk v a ∧ a.nm = nm) (hb : SchOk v b ∧ b.nm = nm) (hc : SchOk v c ∧ c.nm = nm) (hd : SchOk v d ∧ d.nm = nm) {t : Nat} (h : t < 4) : ∃ s, ([a, b, c, d].map schW)[t]? = some (schW s) ∧ SchOk v s ∧ s.nm = nm := by
  match t, h with
  | 0, _ => exact ⟨a, rfl, ha⟩
  | 1, _ => exact ⟨b, rfl, hb⟩
  | 2, _ => exact ⟨c, rfl, hc⟩
  | 3, _ => exact ⟨d, rfl, hd⟩
theorem most_get {t : Nat} (h4 : 4 ≤ t) (h7 : t < 7) : ∃ most : Nat, atI [W.int 6, .int 4, .int 1] ((t : Int) - 4) = some (.int (most : Nat)) ∧ 1 ≤ most ∧ most ≤ 6 := by
  have : t = 4 ∨ t = 5 ∨ t = 6 := by omega
  rcases this with rfl | rfl | rfl
  · exact ⟨6, rfl, by decide, by decide⟩
  · exact ⟨4, rfl, by decide, by decide⟩
  · exact ⟨1, rfl, by decide, by decide⟩
set_option maxHeartbeats 4000000 in
theorem d_Lplans (D : Dfn K mg "_law_plans" s_Lplans ["_law_jar_here", "_law_lore"]) (B : Bl mg) (D_take : DTake P w K mg base) (D_of : DOf P w K mg base)
    (D_put : DefOk P w K mg base "_law_put" ["_law_lore", "_law_name", "_law_here", "_law_there"] 3 (S_hand2 putS)) (D_touch : DefOk P w K mg base "_law_touch" ["_law_lore", "_law_name", "_law_here", "_law_there"] 3 (S_hand2 touchS))
    (D_drop : DefOk P w K mg base "_law_drop" ["_law_lore", "_law_name", "_law_here"] 3 (S_hand1 dropS)) (D_look : DefOk P w K mg base "_law_look" ["_law_lore", "_law_name", "_law_here"] 3 (S_hand1 lookS))
    (D_drawn : DefOk P w K mg base "_law_drawn_scheme" ["_law_jar_here", "_law_lore", "_law_name", "_law_most"] 5 S_ldrawn) : DefOk P w K mg base "_law_plans" ["_law_jar_here", "_law_lore"] 6 S_lplans := by
  refine dfnOk D sc_Lplans (fun ws mu P ⟨_, _, _, _, _, _, e, _⟩ => by rw [e]; rfl) (fun f cdv A outer s H E hr ws mu Pt ⟨p, Lo, Nm, v, x, c, e, lw, ok, lx, Lp, Np, jar, c1, h⟩ => ?_)
  subst e
  refine sss_cons ?_
  refine ss_par3 (i := 2) (j := 3) (l := 4) ?_ rfl sc_Lplans.nd (by decide) (by decide) (by decide) (by rfl)
  refine se_lst (sa_nil ⟨by decide, fun F nF => ?_⟩)
  have L1 : Live mu (setM mu F (.lst (([] : List Sch).map schW))) p c [(F, .lst (([] : List Sch).map schW))] := (Live.zero jar).new nF (.lst (([] : List Sch).map schW))
  refine se_ix (se_dget (hu_of hr) (se_var (i := 1) rfl (se_str ((lw.but L1.ex Lp Np).grows (se_int ⟨.str x.r1, atI_nat' (i := 0) rfl, ?_⟩)))))
  refine se_ix (se_dget (hu_of hr) (se_var (i := 1) rfl (se_str ((lw.but L1.ex Lp Np).grows (se_int ⟨.str x.r2, atI_nat' (i := 1) rfl, ?_⟩)))))
  change SSs _ _ _ (setM mu F (.lst (([] : List Sch).map schW))) _
  generalize setM mu F (.lst (([] : List Sch).map schW)) = mu1 at L1 ⊢
  refine sss_cons ?_
  refine ss_for PassesOwn.never rfl (by intro _; rfl) ?_
  refine si_lst (se_slTo (se_bin op_cat catL_w (se_dget (hu_of hr) (se_var (i := 1) rfl (se_str ((lw.but L1.ex Lp Np).gnames ?_))))))
  refine se_lst (sa_cons (se_dget (hu_of hr) (se_var (i := 1) rfl (se_str ((lw.but L1.ex Lp Np).glock (sa_nil ⟨by show 1 ≤ sizeLine; decide, fun b1 n1 => ?_⟩))))))
  have hN := (lw.but L1.ex Lp Np).nms
  have L2 := L1.new n1 (.lst (stW [x.lock]))
  have nb : Nm ≠ b1 := fun z => by rw [z, n1] at hN; cases hN
  refine ⟨Nm, b1, _, _, rfl, rfl, by rw [setM_ne nb]; exact hN, setM_same, by show 3 ≤ sizeLine; decide, fun b2 n2 => ?_⟩
  have L3 := L2.new n2 (.lst (stW [x.n1, x.n2, x.lock]))
  change SE _ _ _ (setM (setM mu1 b1 (.lst (stW [x.lock]))) b2 (.lst (stW [x.n1, x.n2, x.lock]))) _
  generalize setM (setM mu1 b1 (.lst (stW [x.lock]))) b2 (.lst (stW [x.n1, x.n2, x.lock])) = mu3 at L3 ⊢
  refine se_bin op_Add Add_w (se_int (se_callD D_take (hr.mono (by decide)) (sa_cons (se_var (i := 0) rfl (sa_cons (se_int (sa_nil ?_)))))))
  refine ⟨p, 3, _, rfl, by decide, by decide, L3.jar, by omega, fun t mu4 t0 t1 j4 e4 => ?_⟩
  have L4 := L3.step e4 j4
  obtain ⟨t, rfl⟩ := Int.eq_ofNat_of_zero_le t0
  refine ⟨_, L4.at 2 rfl, fun T nT => ?_⟩
  have ec : cutW (stW [x.n1, x.n2, x.lock]) none (some ((1 : Int) + (t : Int))) = stW ([x.n1, x.n2, x.lock].take (1 + t)) := by
    rw [cut_to (by omega), st_take]
    congr 2
  rw [ec]
  have t3 : 1 + t ≤ 3 := by omega
  have nd3 : [x.n1, x.n2, x.lock].Nodup := by simp [lx.d12, Ne.symm lx.dl1, Ne.symm lx.dl2]
  have al3 : ∀ z ∈ [x.n1, x.n2, x.lock], NmOk z := fun z hz => by
    simp only [List.mem_cons, List.not_mem_nil, or_false] at hz
    rcases hz with rfl | rfl | rfl
    · exact lx.nm1
    · exact lx.nm2
    · exact lx.nml
  obtain ⟨nms, enms⟩ : ∃ nms, nms = [x.n1, x.n2, x.lock].take (1 + t) := ⟨_, rfl⟩
  have ndn : nms.Nodup := by rw [enms]; exact nd3.sublist (List.take_sublist _ _)
  have aln : ∀ z ∈ nms, NmOk z := fun z hz => al3 z (by rw [enms] at hz; exact List.mem_of_mem_take hz)
  have lnn : nms.length = 1 + t := by rw [enms, List.length_take]; show min (1 + t) 3 = 1 + t; omega
  rw [← enms]
  have L5 := (L4.new nT (.lst (stW nms))).sub (l' := [(F, .lst (([] : List Sch).map schW)), (T, .lst (stW nms))]) (by simp)
  refine ⟨_, setM_same, ?_⟩
  generalize setM mu4 T (.lst (stW nms)) = mu5 at L5 ⊢
  refine ⟨fun i G' mu' => ∃ y5 y6 y7 y8 y9, ∃ ss : List Sch, G' = [some (.m p), some (.m Lo), some (.m F), some (.str x.r1), some (.str x.r2), y5, y6, y7, y8, y9] ∧ ss.map (·.nm) = nms.take i ∧ (∀ s ∈ ss, SchOk v s) ∧ Live mu mu' p (c + 1 + 410 * i) [(F, .lst (ss.map schW)), (T, .lst (stW nms))],
    ⟨none, none, none, none, none, [], rfl, rfl, by simp, L5⟩, fun i G' mu' _ ⟨y5, y6, y7, y8, y9, ss, eG, en, al, LL⟩ => LL.at 1 rfl, fun i u G' mu' hu ⟨y5, y6, y7, y8, y9, ss, eG, en, al, LL⟩ => ?_, fun G' mu' ⟨y5, y6, y7, y8, y9, ss, eG, en, al, LL⟩ => ?_⟩
  · subst eG
    obtain ⟨nm, hnm, rfl⟩ : ∃ nm, nms[i]? = some nm ∧ u = .str nm := by
      unfold stW at hu
      rw [List.getElem?_map] at hu
      cases ht : nms[i]? with
      | none => rw [ht] at hu; cases hu
      | some nm => rw [ht] at hu; cases hu; exact ⟨nm, rfl, rfl⟩
    have nok := aln nm (List.mem_of_getElem? hnm)
    have i3 : i < 3 := by have := (List.getElem?_eq_some_iff.mp hnm).1; omega
    have sl : ss.length = i := by
      have h1 := congrArg List.length en
      rw [List.length_map, List.length_take] at h1
      have := (List.getElem?_eq_some_iff.mp hnm).1
      omega
    have fin : ∀ s mu9, SchOk v s → s.nm = nm → Live mu mu9 p (c + 1 + 410 * (i + 1)) [(F, .lst (ss.map schW)), (T, .lst (stW nms))] → Live mu (setM mu9 F (.lst (ss.map schW ++ [schW s]))) p (c + 1 + 410 * (i + 1)) [(F, .lst ((ss ++ [s]).map schW)), (T, .lst (stW nms))] ∧ (ss ++ [s]).map (·.nm) = nms.take (i + 1) ∧ ∀ s' ∈ ss ++ [s], SchOk v s' := fun s mu9 so sn L9 => by
      have er : ss.map schW ++ [schW s] = (ss ++ [s]).map schW := by rw [List.map_append]; rfl
      refine ⟨by rw [er]; exact L9.put 0 rfl (.lst ((ss ++ [s]).map schW)), by rw [List.map_append, en, List.take_add_one, hnm, ← sn]; rfl, fun s' hs' => ?_⟩
      rcases List.mem_append.mp hs' with z | z
      · exact al s' z
      · rw [List.mem_singleton.mp z]; exact so
    refine sg_name (i := 5) ?_ sc_Lplans.nd
    refine sss_cons (ss_asg (se_callD D_of (hr.mono (by decide)) (sa_cons (se_var (i := 0) rfl (sa_cons (se_lst ?_))))))
    refine sa_cons (se_tup (sa_cons (se_var (i := 3) rfl (sa_cons (se_var (i := 4) rfl (sa_nil ⟨by show 2 ≤ sizeLine; decide, ?_⟩))))))
    refine sa_cons (se_tup (sa_cons (se_var (i := 4) rfl (sa_cons (se_var (i := 3) rfl (sa_nil ⟨by show 2 ≤ sizeLine; decide, ?_⟩))))))
    refine sa_nil ⟨by show 2 ≤ sizeLine; decide, fun q nq => sa_nil ?_⟩
    have LA := LL.tmp nq (.lst [.tup [.str x.r1, .str x.r2], .tup [.str x.r2, .str x.r1]])
    refine ⟨p, _, _, _, rfl, .inr (.inl ⟨q, rfl, Ne.symm (LL.jar.ne nq), setM_same⟩), by simp, by simp, LA.jar, by omega, fun u mu6 hu j6 e6 => ?_⟩
    have LB := LA.step e6 j6
    obtain ⟨g1, hg1⟩ := lx.one
    obtain ⟨g2, hg2⟩ := lx.two
    obtain ⟨z1, z2, h1, h2, rfl, ha, hb⟩ : ∃ z1 z2 h1 h2, u = .tup [.str z1, .str z2] ∧ Here v x z1 h1 ∧ Here v x z2 h2 := by
      simp only [List.mem_cons, List.not_mem_nil, or_false] at hu
      rcases hu with rfl | rfl
      · exact ⟨x.r1, x.r2, g1, g2, rfl, hg1, hg2⟩
      · exact ⟨x.r2, x.r1, g2, g1, rfl, hg2, hg1⟩
    refine sg_tup (ws := [.str z1, .str z2]) (sgs_cons (sg_name (i := 6) (sgs_cons (sg_name (i := 7) (sgs_nil ?_) sc_Lplans.nd)) sc_Lplans.nd))
    refine sss_cons (ss_asg (se_lst (sa_cons (se_callD D_put (hr.mono (by decide)) (sa_cons (se_var (i := 1) rfl (sa_cons (se_var (i := 5) rfl (sa_cons (se_var (i := 6) rfl (sa_cons (se_var (i := 7) rfl (sa_nil ?_)))))))))))))
    refine ⟨Lo, Nm, v, x, nm, z1, z2, h1, h2, rfl, lw.but LB.ex Lp Np, ok, ha, hb, fun mu7 e7 => ?_⟩
    have LC := LB.ext e7
    refine sa_cons (se_callD D_touch (hr.mono (by decide)) (sa_cons (se_var (i := 1) rfl (sa_cons (se_var (i := 5) rfl (sa_cons (se_var (i := 6) rfl (sa_cons (se_var (i := 7) rfl (sa_nil ?_))))))))))
    refine ⟨Lo, Nm, v, x, nm, z1, z2, h1, h2, rfl, lw.but LC.ex Lp Np, ok, ha, hb, fun mu8 e8 => ?_⟩
    have LD := LC.ext e8
    refine sa_cons (se_callD D_drop (hr.mono (by decide)) (sa_cons (se_var (i := 1) rfl (sa_cons (se_var (i := 5) rfl (sa_cons (se_var (i := 6) rfl (sa_nil ?_))))))))
    refine ⟨Lo, Nm, v, x, nm, z1, h1, rfl, lw.but LD.ex Lp Np, ok, ha, fun mu9 e9 => ?_⟩
    have LE := LD.ext e9
    refine sa_nil ⟨by show 3 ≤ sizeLine; decide, fun S nS => ?_⟩
    have LF := LE.new nS (.lst [schW (putS x nm z1 z2 h1 h2), schW (touchS x nm z1 z2 h1 h2), schW (dropS x nm z1 h1)])
    refine sg_name (i := 8) ?_ sc_Lplans.nd
    change SSs _ _ _ (setM mu9 S (.lst [schW (putS x nm z1 z2 h1 h2), schW (touchS x nm z1 z2 h1 h2), schW (dropS x nm z1 h1)])) _
    generalize setM mu9 S (.lst [schW (putS x nm z1 z2 h1 h2), schW (touchS x nm z1 z2 h1 h2), schW (dropS x nm z1 h1)]) = mu10 at LF ⊢
    refine sss_cons (ss_asg (se_callD D_take (hr.mono (by decide)) (sa_cons (se_var (i := 0) rfl (sa_cons (se_int (sa_nil ?_)))))))
    refine ⟨p, 7, _, rfl, by decide, by decide, LF.jar, by omega, fun k mu11 k0 k1 j11 e11 => ?_⟩
    have LG := LF.step e11 j11
    obtain ⟨k, rfl⟩ := Int.eq_ofNat_of_zero_le k0
    refine sg_name (i := 9) ?_ sc_Lplans.nd
    refine sss_cons (ss_expr (se_append (se_var (i := 8) rfl ⟨⟨_, LG.at 2 rfl⟩, sa_one ?_⟩)))
    refine se_callD D_look (hr.mono (by decide)) (sa_cons (se_var (i := 1) rfl (sa_cons (se_var (i := 5) rfl (sa_cons (se_var (i := 6) rfl (sa_nil ?_)))))))
    refine ⟨Lo, Nm, v, x, nm, z1, h1, rfl, lw.but LG.ex Lp Np, ok, ha, fun mu12 e12 => ?_⟩
    have LH := LG.ext e12
    refine ⟨_, LH.at 2 rfl, by show 3 < sizeLine; decide, ?_⟩
    have LI := LH.put 2 rfl (.lst ([putS x nm z1 z2 h1 h2, touchS x nm z1 z2 h1 h2, dropS x nm z1 h1, lookS x nm z1 h1].map schW))
    change SSs _ _ _ (setM mu12 S (.lst ([putS x nm z1 z2 h1 h2, touchS x nm z1 z2 h1 h2, dropS x nm z1 h1, lookS x nm z1 h1].map schW))) _
    generalize setM mu12 S (.lst ([putS x nm z1 z2 h1 h2, touchS x nm z1 z2 h1 h2, dropS x nm z1 h1, lookS x nm z1 h1].map schW)) = mu13 at LI ⊢
    refine sss_cons (ss_expr (se_append (se_var (i := 2) rfl ⟨⟨_, LI.at 0 rfl⟩, sa_one ?_⟩)))
    refine se_if (st_cmp op_lt cmpN_w (nomark _) (se_var (i := 9) rfl (se_int ⟨_, _, rfl, rfl, fun b hb4 => ?_⟩)))
    refine if2_split (fun hk => ?_) (fun hk => ?_)
    · have k4 : k < 4 := by
        have := of_decide_eq_true (hb4.symm.trans hk)
        omega
      obtain ⟨sc, hsc, so, sn⟩ := four_get (v := v) (nm := nm) ⟨sch_put ok nok ha hb, rfl⟩ ⟨sch_touch ok nok ha hb, rfl⟩ ⟨sch_drop ok nok ha, rfl⟩ ⟨sch_look ok nok ha, rfl⟩ k4
      refine se_ix (se_var (i := 8) rfl (se_var (i := 9) rfl ⟨_, _, LI.at 2 rfl, atI_nat' (i := k) hsc, ?_⟩))
      refine ⟨_, LI.at 0 rfl, by rw [List.length_map, sl]; exact Nat.lt_trans i3 (by decide), ?_⟩
      obtain ⟨q1, q2, q3⟩ := fin sc mu13 so sn ((LI.mono (by omega)).sub (by simp))
      exact sss_nil ⟨_, _, _, _, _, _, rfl, q2, q3, q1⟩
    · have k4 : 4 ≤ k := by
        have := of_decide_eq_false (hb4.symm.trans hk)
        omega
      obtain ⟨most, hm, m1, m6⟩ := most_get k4 (by omega)
      refine se_callD D_drawn (hr.mono (by decide)) (sa_cons (se_var (i := 0) rfl (sa_cons (se_var (i := 1) rfl (sa_cons (se_var (i := 5) rfl (sa_cons (se_ix ?_))))))))
      refine se_lst (sa_cons (se_int (sa_cons (se_int (sa_cons (se_int (sa_nil ⟨by show 3 ≤ sizeLine; decide, fun q nq => ?_⟩)))))))
      have LJ := LI.tmp nq (.lst [.int 6, .int 4, .int 1])
      refine se_bin op_Sub Sub_w (se_var (i := 9) rfl (se_int ⟨_, _, setM_same, hm, sa_nil ?_⟩))
      refine ⟨p, Lo, v, nm, most, _, rfl, (lw.but LJ.ex Lp Np).lore, ok, Lp, nok, m1, m6, LJ.jar, by omega, fun sc mu14 so sn j14 e14 => ?_⟩
      have LK := LJ.step e14 j14
      refine ⟨_, LK.at 0 rfl, by rw [List.length_map, sl]; exact Nat.lt_trans i3 (by decide), ?_⟩
      obtain ⟨q1, q2, q3⟩ := fin sc mu14 so sn ((LK.mono (by omega)).sub (by simp))
      exact sss_nil ⟨_, _, _, _, _, _, rfl, q2, q3, q1⟩
  · subst eG
    have ln : (stW nms).length = 1 + t := by rw [stW_len, lnn]
    rw [ln] at en LL
    have en2 : ss.map (·.nm) = nms := by rw [en]; exact List.take_of_length_le (by omega)
    have sl : ss.length = 1 + t := by rw [← lnn, ← en2, List.length_map]
    refine sss_cons (ss_ret (se_tupleC (se_var (i := 2) rfl ⟨_, LL.at 0 rfl, ?_⟩) B.tuple))
    exact h ss _ ⟨by omega, by omega, al, by rw [en2]; exact ndn⟩ (LL.jar.mono (by omega)) LL.ex
end
end K1
set_option Elab.async false
set_option linter.all false
set_option maxRecDepth 100000
/-! k10: numbers, watches, says, flags. -/
namespace K1
open PySem L2 Dv
theorem in_namesE {P : PW1} {mu : Mu} {ng : Bool} {ns : List Str} {h : Str} (hh : NmOk h) (hn : ∀ n ∈ ns, NmOk n) (k : ∀ b, b = (ng != decide (h ∈ ns)) → P (.bl b) mu) : inW ng (.str h) (nmW ns) mu P := in_names hh hn (k _ rfl)
theorem neT_w {X : Cx} : OpW X rNe fun w1 w2 mu P => ∃ i j, w1 = .str i ∧ w2 = .str j ∧ ∀ b, b = (!decide (i = j)) → P (.bl b) mu := fun w1 w2 x y mu H P Q dx dy m ⟨i, j, e1, e2, q⟩ k => by
  subst e1 e2
  have dx : x = .str i := dx
  have dy : y = .str j := dy
  subst dx dy
  refine ⟨rfl, ?_⟩
  have : decide (V.str i = V.str j) = decide (i = j) := by
    rw [Bool.eq_iff_iff, decide_eq_true_iff, decide_eq_true_iff]
    exact ⟨fun e => by injection e, fun e => by rw [e]⟩
  rw [this]
  exact k.now (q _ rfl) rfl m
theorem neN_w {X : Cx} : OpW X rNe fun w1 w2 mu P => ∃ i j, w1 = .int i ∧ w2 = .int j ∧ ∀ b, b = (!(i == j)) → P (.bl b) mu := fun w1 w2 x y mu H P Q dx dy m ⟨i, j, e1, e2, q⟩ k => by
  subst e1 e2
  have dx : x = .int i := dx
  have dy : y = .int j := dy
  subst dx dy
  refine ⟨rfl, ?_⟩
  rw [dec_int]
  exact k.now (q _ rfl) rfl m
theorem digits_mem {c : Nat} (h : 48 ≤ c ∧ c ≤ 57) : c ∈ ("0123456789" : Str).cps.toList := by
  have hd : ∀ c, c < 58 → 48 ≤ c → c ∈ ("0123456789" : Str).cps.toList := by decide +kernel
  exact hd c (by omega) h.1
theorem once_one {h : Str} : ∀ {xs acc : List Str}, (∀ z ∈ xs, z = h) → (acc = [] ∨ acc = [h]) → (xs.foldl TxSet.oncePut acc).length ≤ 1
  | [], acc, _, ha => by rcases ha with rfl | rfl <;> simp
  | x :: xs, acc, hx, ha => by
    rw [List.foldl_cons]
    refine once_one (fun z hz => hx z (by simp [hz])) (.inr ?_)
    have ex := hx x (by simp)
    subst ex
    unfold TxSet.oncePut
    rcases ha with rfl | rfl <;> simp
def flags2 (z : Str) : Option (List Str) := if z = "do" then some [("mark" : Str), "same"] else if z = "ask" then some [("kept" : Str), "late", "mark", "same"] else none
theorem flags2_of {z : Str} (h : z = "do" ∨ z = "ask") : flags2 z = some (flagsOf z) := by
  rcases h with rfl | rfl
  · decide +kernel
  · decide +kernel
def isSay : Rw → Bool
  | .say _ => true
  | .step .. => false
section
variable {P : Program} {w : World} {K : PySem.W.Frag} {mg : Str → Option Value} {base : Heap}
abbrev s_is_integer : Stmt := top 10
theorem sc_is_integer : FnScope ["value"] ["value"] (defScope s_is_integer) := ⟨rfl, rfl, rfl, by decide +kernel, rfl, by decide +kernel, by decide +kernel⟩
def S_is_integer : SpW := S_t fun ws mu => ∃ i, ws = [.int i]
theorem d_is_integer (D : Dfn K mg "is_integer" s_is_integer ["value"]) (B : Bl mg) (Kb : KNo mg "bool") : DefOk P w K mg base "is_integer" ["value"] 1 S_is_integer := by
  refine dfnOk D sc_is_integer (fun ws mu P ⟨⟨i, e⟩, _⟩ => by rw [e]; rfl) (fun f cdv A outer s H E hr ws mu Pt ⟨⟨i, e⟩, h⟩ => ?_)
  subst e
  refine sss_cons (ss_ret (se_and (se_isi (T := "int") (se_var (i := 0) rfl ⟨"int", true, rfl, by decide +kernel, ?_⟩) B.isinstance B.int)))
  refine se_one (se_not (se_isi (T := "bool") (se_var (i := 0) rfl ⟨"int", false, rfl, by decide +kernel, ?_⟩) B.isinstance Kb.no))
  exact h _ Ext.refl
abbrev s_is_decimal : Stmt := top 19
theorem sc_is_decimal : FnScope ["word", "sign"] ["word"] (defScope s_is_decimal) := ⟨rfl, rfl, rfl, by decide +kernel, rfl, by decide +kernel, by decide +kernel⟩
def S_is_decimal : SpW := S_t fun ws mu => ∃ i, ws = [.str (numS i)] ∧ i < 10 ^ 18
theorem d_is_decimal (D : Dfn K mg "is_decimal" s_is_decimal ["word"]) (B : Bl mg) (Kd : KStr mg "DIGITS" "0123456789") : DefOk P w K mg base "is_decimal" ["word"] 1 S_is_decimal := by
  refine dfnOk D sc_is_decimal (fun ws mu P ⟨⟨i, e, _⟩, _⟩ => by rw [e]; rfl) (fun f cdv A outer s H E hr ws mu Pt ⟨⟨i, e, hi⟩, h⟩ => ?_)
  subst e
  obtain ⟨n1, n2⟩ := numS_len hi
  have ne0 : numS i ≠ "" := fun e => by rw [e] at n1; exact absurd n1 (by decide)
  have hz : (numS i).length ≤ sizeLine := Nat.le_trans n2 (by decide)
  refine sss_cons (ss_if (st_of_w (sw_or (st_cmp op_eq eqT_w (nomark _) (se_var (i := 0) rfl (se_str ⟨_, _, rfl, rfl, fun b hb => ?_⟩))))))
  refine if2_f (by rw [hb]; exact decide_eq_false ne0) ?_
  refine sw_or1 (st_not (st_val (se_all ?_ B.all)))
  refine se_lc (own := [("sign", 1)]) (.nm 1) rfl sc_is_decimal.nd (blkOk_by (N := ["word", "sign"]) (sc := defScope s_is_decimal) (by decide +kernel)) rfl (fun _ _ _ _ _ => (pg_name (i := 1) sc_is_decimal.nd rfl (Or.inl rfl))) (by intro _; rfl) ?_
  refine si_str (se_var (i := 0) rfl ?_)
  refine lc_all_t (fun _ _ => trivial) (by rw [List.length_map, Array.length_toList]; exact hz) InBlk.mono ?_ fun mu' e => ?_
  · intro w mu' hw he
    obtain ⟨c, hc, rfl⟩ := List.mem_map.mp hw
    refine ⟨_, rfl, fun s H C cl fp => ?_⟩
    refine se_cmp op_in_sign inC_w (by rfl) (se_var (i := 1) rfl (se_globS Kd ?_))
    refine ⟨c, _, rfl, rfl, ?_, Ext.refl⟩
    rw [numS_cps] at hc
    rw [decide_eq_true (digits_mem (TL.numL_digits i c hc))]
  refine sss_nil ?_
  refine sss_cons (ss_ret (se_or (se_cmp op_eq eqT_w (nomark _) (se_var (i := 0) rfl (se_str ⟨_, _, rfl, rfl, fun b hb => ?_⟩)))))
  by_cases h0 : i = 0
  · subst h0
    have : numS 0 = "0" := by decide +kernel
    refine bW_t (by rw [hb]; exact decide_eq_true this) (h _ e)
  · obtain ⟨c, r, ec, c1, c2⟩ := numL_first (i := i) (by omega)
    have hne : numS i ≠ "0" := fun q => by
      have : TL.numL i = [48] := by rw [← numS_cps, q, zero_eq]
      rw [ec] at this
      injection this with h1 _
      omega
    refine bW_f (by rw [hb]; exact decide_eq_false hne) ?_
    refine se_one (se_cmp op_ne neT_w (nomark _) (se_ix (se_var (i := 0) rfl (se_int ⟨c, hz, ?_, se_str ⟨_, _, rfl, rfl, fun b2 hb2 => ?_⟩⟩))))
    · rw [numS_cps, ec]; exact atI_nat' (i := 0) rfl
    · have : (⟨#[c]⟩ : Str) ≠ "0" := fun q => by
        rw [zero_eq] at q
        injection q with q
        injection q with q
        injection q with q _
        omega
      rw [hb2, decide_eq_false this]
      exact h _ e
abbrev s_is_number_of : Stmt := top 11
theorem sc_is_number_of : FnScope ["many", "value"] ["many", "value"] (defScope s_is_number_of) := ⟨rfl, rfl, rfl, by decide +kernel, rfl, by decide +kernel, by decide +kernel⟩
def S_is_number_of : SpW := S_t fun ws mu => ∃ m i : Nat, ws = [.int (m : Nat), .int (i : Nat)] ∧ i < m
theorem d_is_number_of (D : Dfn K mg "is_number_of" s_is_number_of ["many", "value"]) (D_integer : DefOk P w K mg base "is_integer" ["value"] 1 S_is_integer) : DefOk P w K mg base "is_number_of" ["many", "value"] 2 S_is_number_of := by
  refine dfnOk D sc_is_number_of (fun ws mu P ⟨⟨_, _, e, _⟩, _⟩ => by rw [e]; rfl) (fun f cdv A outer s H E hr ws mu Pt ⟨⟨m, i, e, hi⟩, h⟩ => ?_)
  subst e
  refine sss_cons (ss_ret (se_and (se_callD D_integer (hr.mono (by decide)) (sa_cons (se_var (i := 1) rfl (sa_nil ?_))))))
  refine ⟨⟨_, rfl⟩, fun mu2 e2 => ?_⟩
  refine se_one (se_chain op_le cmpN_w op_lt cmpN_w (se_int (se_var (i := 1) rfl ⟨_, _, rfl, rfl, fun b hb => ?_⟩)))
  refine bW_t (hb.trans (decide_eq_true (by omega))) ?_
  refine se_var (i := 0) rfl ⟨_, _, rfl, rfl, fun b2 hb2 => ?_⟩
  have : b2 = true := hb2.trans (decide_eq_true (by omega))
  rw [this]
  exact h _ e2
/-! watches -/
abbrev N_watched : List Str := ["world", "watch", "name", "house", "_"]
abbrev s_watched_houses : Stmt := top 53
theorem sc_watched_houses : FnScope N_watched ["world", "watch"] (defScope s_watched_houses) := ⟨rfl, rfl, rfl, by decide +kernel, rfl, by decide +kernel, by decide +kernel⟩
def S_watched (Cl : Addr) : SpW := fun ws mu P => ∃ y v wt, ws = [.m y, nmW wt] ∧ mu y = some (.ins Cl (wdFs v)) ∧ WdOk v ∧ (∀ z ∈ wt, NmOk z) ∧ ∀ a mu', mu a = none → mu' a = some (.lst (stW (homesOf v wt))) → Ext mu mu' → P (.m a) mu'
theorem d_watched_houses {Cl : Addr} (D : Dfn K mg "watched_houses" s_watched_houses ["world", "watch"]) (C : WCls K mg Cl) : DefOk P w K mg base "watched_houses" ["world", "watch"] 1 (S_watched Cl) := by
  refine dfnOk D sc_watched_houses (fun ws mu P ⟨_, _, _, e, _⟩ => by rw [e]; rfl) (fun f cdv A outer s H E hr ws mu Pt ⟨y, v, wt, e, hy, ok, wn, h⟩ => ?_)
  subst e
  have hu65 : (A.deeper (PyProof.Rows.envOfC "watched_houses" (defScope s_watched_houses) s.heap.objs.size f cdv)).units + 65 < cLine := by have := hr.un; omega
  refine sss_cons (ss_ret ?_)
  refine se_lc1 (own := [("name", 2), ("house", 3), ("_", 4)]) (.tp [(.nm 2), (.nm 3), (.nm 4)]) rfl sc_watched_houses.nd (blkOk_by (N := N_watched) (sc := defScope s_watched_houses) (by decide +kernel)) rfl (fun _ _ _ _ _ => (pg_tup rfl (pgs_cons (pg_name (i := 2) sc_watched_houses.nd rfl (Or.inl rfl)) (pgs_cons (pg_name (i := 3) sc_watched_houses.nd rfl (Or.inl rfl)) (pgs_cons (pg_name (i := 4) sc_watched_houses.nd rfl (Or.inl rfl)) pgs_nil))))) (by intro _; rfl) ?_
  refine si_tup (se_fld (se_var (i := 0) rfl ⟨y, Cl, wdFs v, slsW v.slots, rfl, hy, C.cls, C.slots, rfl, ?_⟩))
  refine lc_filter (fun w => match w with | .tup [.str x, _, _] => decide (x ∈ wt) | _ => false) (fun w => match w with | .tup [_, y, _] => y | _ => .non) (fun _ _ => trivial) (by rw [List.length_map]; exact Nat.le_trans ok.ss.hi (by decide)) ?_ InBlk.mono ?_
  · intro w mu' hw he
    obtain ⟨t, ht, rfl⟩ := List.mem_map.mp hw
    refine ⟨_, rfl, fun s H C cl fp => ?_⟩
    refine st_cmp (op_inT hu65) (in_w false) (by rfl) (se_var (i := 2) rfl (se_var (i := 1) rfl ?_))
    refine in_namesE (ok.ss.each t ht).nm wn fun b hb => ?_
    refine ⟨by rw [hb]; simp [slW1], Ext.refl, fun _ s H C cl fp => ?_⟩
    exact se_var (i := 3) rfl ⟨rfl, Ext.refl⟩
  · intro D mu' hD he he2
    have em : ((v.slots.map slW1).filter fun w => match w with | .tup [.str x, _, _] => decide (x ∈ wt) | _ => false).map (fun w => match w with | .tup [_, y, _] => y | _ => .non) = stW (homesOf v wt) := by
      unfold stW homesOf
      rw [List.filter_map, List.map_map, List.map_map]
      rfl
    rw [em] at he2 ⊢
    exact h D _ hD setM_same he2
abbrev N_slot_name : List Str := ["world", "value", "name", "_"]
abbrev s_is_slot_name : Stmt := top 52
theorem sc_is_slot_name : FnScope N_slot_name ["world", "value"] (defScope s_is_slot_name) := ⟨rfl, rfl, rfl, by decide +kernel, rfl, by decide +kernel, by decide +kernel⟩
def S_slot_name (Cl : Addr) : SpW := S_t fun ws mu => ∃ y v z, ws = [.m y, .str z] ∧ mu y = some (.ins Cl (wdFs v)) ∧ WdOk v ∧ ∃ s ∈ v.slots, s.1 = z
theorem d_is_slot_name {Cl : Addr} (D : Dfn K mg "is_slot_name" s_is_slot_name ["world", "value"]) (C : WCls K mg Cl) : DefOk P w K mg base "is_slot_name" ["world", "value"] 1 (S_slot_name Cl) := by
  refine dfnOk D sc_is_slot_name (fun ws mu P ⟨⟨_, _, _, e, _⟩, _⟩ => by rw [e]; rfl) (fun f cdv A outer s H E hr ws mu Pt ⟨⟨y, v, z, e, hy, ok, sl, hs, ez⟩, h⟩ => ?_)
  subst e
  have hu65 : (A.deeper (PyProof.Rows.envOfC "is_slot_name" (defScope s_is_slot_name) s.heap.objs.size f cdv)).units + 65 < cLine := by have := hr.un; omega
  refine sss_cons (ss_ret (se_cmp (op_inT hu65) (in_w false) (by rfl) (se_var (i := 1) rfl ?_)))
  refine se_lc (own := [("name", 2), ("_", 3)]) (.tp [(.nm 2), (.nm 3), (.nm 3)]) rfl sc_is_slot_name.nd (blkOk_by (N := N_slot_name) (sc := defScope s_is_slot_name) (by decide +kernel)) rfl (fun _ _ _ _ _ => (pg_tup rfl (pgs_cons (pg_name (i := 2) sc_is_slot_name.nd rfl (Or.inl rfl)) (pgs_cons (pg_name (i := 3) sc_is_slot_name.nd rfl (Or.inl rfl)) (pgs_cons (pg_name (i := 3) sc_is_slot_name.nd rfl (Or.inl rfl)) pgs_nil))))) (by intro _; rfl) ?_
  refine si_tup (se_fld (se_var (i := 0) rfl ⟨y, Cl, wdFs v, slsW v.slots, rfl, hy, C.cls, C.slots, rfl, ?_⟩))
  refine lc_pure (fun w => match w with | .tup [x, _, _] => x | _ => .non) (fun _ _ => trivial) (by rw [List.length_map]; exact Nat.le_trans ok.ss.hi (by decide)) ?_ InBlk.mono ?_
  · intro w mu' hw he
    obtain ⟨t, ht, rfl⟩ := List.mem_map.mp hw
    refine ⟨_, rfl, fun s H C cl fp => ?_⟩
    exact se_var (i := 2) rfl ⟨rfl, Ext.refl⟩
  · intro D mu' hD he he2
    have em : (v.slots.map slW1).map (fun w => match w with | .tup [x, _, _] => x | _ => .non) = stW (v.slots.map (·.1)) := by
      unfold stW
      rw [List.map_map, List.map_map]
      rfl
    rw [em] at he2 ⊢
    have zn : NmOk z := ez ▸ (ok.ss.each sl hs).nm
    refine in_namesL (ns := v.slots.map (·.1)) setM_same zn (fun n hn => ?_) ?_
    · obtain ⟨t, ht, rfl⟩ := List.mem_map.mp hn
      exact (ok.ss.each t ht).nm
    · rw [decide_eq_true (List.mem_map.mpr ⟨sl, hs, ez⟩)]
      exact h _ he2
abbrev s_is_watch : Stmt := top 51
theorem sc_is_watch : FnScope ["world", "value", "slot"] ["world", "value"] (defScope s_is_watch) := ⟨rfl, rfl, rfl, by decide +kernel, rfl, by decide +kernel, by decide +kernel⟩
def S_is_watch (Cl : Addr) : SpW := S_t fun ws mu => ∃ y v wt, ws = [.m y, nmW wt] ∧ mu y = some (.ins Cl (wdFs v)) ∧ WdOk v ∧ WatchOk v wt
theorem d_is_watch {Cl : Addr} (D : Dfn K mg "is_watch" s_is_watch ["world", "value"]) (B : Bl mg) (D_slot : DefOk P w K mg base "is_slot_name" ["world", "value"] 1 (S_slot_name Cl)) (D_rising : DefOk P w K mg base "is_rising" ["values"] 1 S_is_rising) (D_watched : DefOk P w K mg base "watched_houses" ["world", "watch"] 1 (S_watched Cl)) : DefOk P w K mg base "is_watch" ["world", "value"] 2 (S_is_watch Cl) := by
  refine dfnOk D sc_is_watch (fun ws mu P ⟨⟨_, _, _, e, _⟩, _⟩ => by rw [e]; rfl) (fun f cdv A outer s H E hr ws mu Pt ⟨⟨y, v, wt, e, hy, ok, wo⟩, h⟩ => ?_)
  subst e
  have wn := watch_nm ok wo
  refine sss_cons ?_
  refine ss_if ?_
  refine st_of_w ?_
  refine sw_or ?_
  refine st_not ?_
  refine st_val ?_
  refine se_isi (T := "tuple") ?_ B.isinstance B.tuple
  refine se_var (i := 1) rfl ?_
  refine ⟨"tuple", true, rfl, by decide +kernel, ?_⟩
  refine sw_or1 ?_
  refine st_not ?_
  refine st_val ?_
  refine se_all ?_ B.all
  refine se_lc (own := [("slot", 2)]) (.nm 2) rfl sc_is_watch.nd (blkOk_by (N := ["world", "value", "slot"]) (sc := defScope s_is_watch) (by decide +kernel)) rfl (fun _ _ _ _ _ => (pg_name (i := 2) sc_is_watch.nd rfl (Or.inl rfl))) (by intro _; rfl) ?_
  refine si_tup (se_var (i := 1) rfl ?_)
  refine lc_all_t (fun _ _ => trivial) (by rw [stW_len]; exact Nat.le_trans wo.len (by decide)) InBlk.mono ?_ ?_
  · intro w mu' hw he
    obtain ⟨z, hz, rfl⟩ := List.mem_map.mp hw
    refine ⟨_, rfl, fun s H C cl fp => ?_⟩
    refine se_callD D_slot (hr.mono (by decide)) (sa_cons (se_var (i := 0) rfl (sa_cons (se_var (i := 2) rfl (sa_nil ?_)))))
    exact ⟨⟨y, v, z, rfl, he _ _ hy, ok, wo.sub z hz⟩, fun mu4 e4 => ⟨rfl, e4⟩⟩
  intro mu1 e1
  refine sss_nil ?_
  refine sss_cons (ss_ret (se_and (se_callD D_rising (hr.mono (by decide)) (sa_cons (se_var (i := 1) rfl (sa_nil ?_))))))
  refine ⟨stW wt, _, rfl, .inl rfl, okUs_st (Nat.le_trans wo.len (by decide)), fun r mu2 hr2 e2 => ?_⟩
  refine bW_t (hr2.trans wo.up) ?_
  refine se_one (se_cmp op_le cmpN_w (nomark _) (se_lenSet ?_ B.len B.set))
  refine se_callD D_watched (hr.mono (by decide)) (sa_cons (se_var (i := 0) rfl (sa_cons (se_var (i := 1) rfl (sa_nil ?_)))))
  refine ⟨y, v, wt, rfl, e2 _ _ (e1 _ _ hy), ok, wn, fun a mu3 _ ha e3 => ?_⟩
  have hl : (homesOf v wt).length ≤ 6 := by
    unfold homesOf
    rw [List.length_map]
    exact Nat.le_trans (List.length_filter_le _ _) ok.ss.hi
  refine ⟨homesOf v wt, .inr ⟨a, rfl, ha⟩, by omega, ?_⟩
  refine se_int ⟨_, _, rfl, rfl, fun b hb => ?_⟩
  obtain ⟨ho, one⟩ := wo.one
  have l1 : (TxSet.once (homesOf v wt)).length ≤ 1 := once_one (h := ho) (fun z hz => by
    obtain ⟨t, ht, rfl⟩ := List.mem_map.mp hz
    obtain ⟨h1, h2⟩ := List.mem_filter.mp ht
    exact one t h1 (of_decide_eq_true h2)) (.inl rfl)
  have : b = true := hb.trans (decide_eq_true (by omega))
  rw [this]
  exact h _ ((e1.trans e2).trans e3)
/-! says -/
abbrev s_is_say : Stmt := top 56
theorem sc_is_say : FnScope ["sort", "value"] ["sort", "value"] (defScope s_is_say) := ⟨rfl, rfl, rfl, by decide +kernel, rfl, by decide +kernel, by decide +kernel⟩
def S_is_say : SpW := fun ws mu P => ∃ so r, ws = [.str so, rwW r] ∧ (∀ a, r = .say a → ∃ ys, answers4 so = some ys ∧ a ∈ ys) ∧ ∀ mu', Ext mu mu' → P (.bl (isSay r)) mu'
theorem d_is_say (D : Dfn K mg "is_say" s_is_say ["sort", "value"]) (KA : KDic K w mg "ANSWERS" answers4) (D_tuple : DefOk P w K mg base "is_tuple" ["value", "least", "most"] 1 S_is_tuple) : DefOk P w K mg base "is_say" ["sort", "value"] 2 S_is_say := by
  refine dfnOk D sc_is_say (fun ws mu P ⟨_, _, e, _⟩ => by rw [e]; rfl) (fun f cdv A outer s H E hr ws mu Pt ⟨so, r, e, hs, h⟩ => ?_)
  subst e
  have hu65 : (A.deeper (PyProof.Rows.envOfC "is_say" (defScope s_is_say) s.heap.objs.size f cdv)).units + 65 < cLine := by have := hr.un; omega
  refine sss_cons (ss_ret (se_and (se_callD D_tuple (hr.mono (by decide)) (sa_cons (se_var (i := 1) rfl (sa_cons (se_int (sa_cons (se_int (sa_nil ?_))))))))))
  cases r with
  | step wd ho ne mk fl th ot =>
    refine ⟨_, 2, 2, rfl, fun b mu1 hb e1 => ?_⟩
    exact bW_f (hb.trans rfl) (h _ e1)
  | say a =>
    refine ⟨_, 2, 2, rfl, fun b mu1 hb e1 => ?_⟩
    refine bW_t (hb.trans rfl) ?_
    refine se_and (se_cmp op_eq eqT_w (nomark _) (se_ix (se_var (i := 1) rfl (se_int ⟨.str "say", atI_nat' (i := 0) rfl, se_str ⟨_, _, rfl, rfl, fun b2 hb2 => ?_⟩⟩))))
    refine bW_t (by rw [hb2]; decide +kernel) ?_
    obtain ⟨ys, hy, ha⟩ := hs a rfl
    obtain ⟨_, yn⟩ := answers4_nm hy
    refine se_one (se_cmp (op_inT hu65) (in_w false) (by rfl) (se_ix (se_var (i := 1) rfl (se_int ⟨.str a, atI_nat' (i := 1) rfl, ?_⟩))))
    refine se_globIx KA (se_var (i := 0) rfl ⟨so, ys, rfl, hy, ?_⟩)
    refine in_namesE (ns := ys) (yn a ha) yn fun b3 hb3 => ?_
    have : b3 = true := by rw [hb3, decide_eq_true ha]; rfl
    rw [this]
    exact h _ e1
/-! flags -/
abbrev s_are_flags : Stmt := top 58
theorem sc_are_flags : FnScope ["word", "watched", "value", "flag"] ["word", "watched", "value"] (defScope s_are_flags) := ⟨rfl, rfl, rfl, by decide +kernel, rfl, by decide +kernel, by decide +kernel⟩
def S_are_flags : SpW := S_t fun ws mu => ∃ word wd fl, ws = [.str word, .bl wd, nmW fl] ∧ (word = "do" ∨ word = "ask") ∧ FlOk word wd fl
set_option maxHeartbeats 1000000 in
theorem d_are_flags (D : Dfn K mg "are_flags" s_are_flags ["word", "watched", "value"]) (B : Bl mg) (KF : KDic K w mg "FLAGS" flags2) (D_rising : DefOk P w K mg base "is_rising" ["values"] 1 S_is_rising) : DefOk P w K mg base "are_flags" ["word", "watched", "value"] 2 S_are_flags := by
  refine dfnOk D sc_are_flags (fun ws mu P ⟨⟨_, _, _, e, _⟩, _⟩ => by rw [e]; rfl) (fun f cdv A outer s H E hr ws mu Pt ⟨⟨word, wd, fl, e, hw, ok⟩, h⟩ => ?_)
  subst e
  have hu65 : (A.deeper (PyProof.Rows.envOfC "are_flags" (defScope s_are_flags) s.heap.objs.size f cdv)).units + 65 < cLine := by have := hr.un; omega
  have fn : ∀ z ∈ fl, NmOk z := fun z hz => flags_nm z (ok.raw.mem z hz)
  refine sss_cons ?_
  refine ss_if ?_
  refine st_of_w ?_
  refine sw_or ?_
  refine st_not ?_
  refine st_val ?_
  refine se_isi (T := "tuple") ?_ B.isinstance B.tuple
  refine se_var (i := 2) rfl ?_
  refine ⟨"tuple", true, rfl, by decide +kernel, ?_⟩
  refine sw_or ?_
  refine st_not ?_
  refine st_val ?_
  refine se_all ?_ B.all
  refine se_lc (own := [("flag", 3)]) (.nm 3) rfl sc_are_flags.nd (blkOk_by (N := ["word", "watched", "value", "flag"]) (sc := defScope s_are_flags) (by decide +kernel)) rfl (fun _ _ _ _ _ => (pg_name (i := 3) sc_are_flags.nd rfl (Or.inl rfl))) (by intro _; rfl) ?_
  refine si_tup (se_var (i := 2) rfl ?_)
  refine lc_all_t (fun _ _ => trivial) (by rw [stW_len]; exact Nat.le_trans ok.raw.len (by decide)) InBlk.mono ?_ ?_
  · intro w mu' hw' he
    obtain ⟨z, hz, rfl⟩ := List.mem_map.mp hw'
    refine ⟨_, rfl, fun s H C cl fp => ?_⟩
    refine se_cmp (op_inT hu65) (in_w false) (by rfl) (se_var (i := 3) rfl ?_)
    refine se_globIx KF (se_var (i := 0) rfl ⟨word, flagsOf word, rfl, flags2_of hw, ?_⟩)
    refine in_namesE (ns := flagsOf word) (fn z hz) flags_nm fun b3 hb3 => ?_
    exact ⟨by rw [hb3, decide_eq_true (ok.raw.mem z hz)]; rfl, Ext.refl⟩
  intro mu1 e1
  refine sw_or1 ?_
  refine st_not ?_
  refine st_val ?_
  refine se_callD D_rising (hr.mono (by decide)) (sa_cons (se_var (i := 2) rfl (sa_nil ?_)))
  refine ⟨stW fl, _, rfl, .inl rfl, okUs_st (Nat.le_trans ok.raw.len (by decide)), fun r mu2 hr2 e2 => ?_⟩
  have hr3 : r = true := hr2.trans ok.up
  subst hr3
  refine sss_nil ?_
  have e12 := e1.trans e2
  have rest : SSs (cxOf CX0 P w K mg base ["word", "watched", "value", "flag"] "are_flags" (defScope s_are_flags) f cdv A outer s H E).nox ((defBody s_are_flags).drop 2) [some (.str word), some (.bl wd), some (nmW fl), none] mu2 { nx := fun _ mu' => Pt .non mu', rt := Pt } := by
    refine sss_cons (ss_ret (se_or (se_cmp (op_notInT hu65) (in_w true) (by rfl) (se_str (se_var (i := 2) rfl ?_)))))
    refine in_namesE (flag_nm _ (by simp)) fn fun b hb => ?_
    by_cases hk : ("kept" : Str) ∈ fl
    · obtain ⟨nl, nm⟩ := ok.raw.kp hk
      refine bW_f (by rw [hb, decide_eq_true hk]; rfl) ?_
      refine se_one (se_and (se_cmp (op_notInT hu65) (in_w true) (by rfl) (se_str (se_var (i := 2) rfl ?_))))
      refine in_namesE (flag_nm _ (by simp)) fn fun b2 hb2 => ?_
      refine bW_t (by rw [hb2, decide_eq_false nl]; rfl) ?_
      refine se_one (se_cmp (op_notInT hu65) (in_w true) (by rfl) (se_str (se_var (i := 2) rfl ?_)))
      refine in_namesE (flag_nm _ (by simp)) fn fun b3 hb3 => ?_
      have : b3 = true := by rw [hb3, decide_eq_false nm]; rfl
      rw [this]
      exact h _ e12
    · exact bW_t (by rw [hb, decide_eq_false hk]; rfl) (h _ e12)
  have wt : ("mark" : Str) ∈ fl ∨ ("same" : Str) ∈ fl → wd = true := ok.raw.wt
  refine sss_cons ?_
  refine ss_if ?_
  refine st_of_w ?_
  refine sw_and ?_
  refine st_of_w ?_
  refine sw_or ?_
  refine st_cmp (op_inT hu65) (in_w false) (by rfl) (se_str (se_var (i := 2) rfl ?_))
  refine in_namesE (flag_nm _ (by simp)) fn fun b hb => ?_
  by_cases hm : ("mark" : Str) ∈ fl
  · have wt1 := wt (.inl hm)
    subst wt1
    have : b = true := by rw [hb, decide_eq_true hm]; rfl
    rw [this]
    refine sw_and1 (st_not (st_val (se_var (i := 1) rfl ?_)))
    exact sss_nil rest
  · have : b = false := by rw [hb, decide_eq_false hm]; rfl
    rw [this]
    refine sw_or1 (st_cmp (op_inT hu65) (in_w false) (by rfl) (se_str (se_var (i := 2) rfl ?_)))
    refine in_namesE (flag_nm _ (by simp)) fn fun b2 hb2 => ?_
    by_cases hs : ("same" : Str) ∈ fl
    · have wt1 := wt (.inr hs)
      subst wt1
      have : b2 = true := by rw [hb2, decide_eq_true hs]; rfl
      rw [this]
      refine sw_and1 (st_not (st_val (se_var (i := 1) rfl ?_)))
      exact sss_nil rest
    · have : b2 = false := by rw [hb2, decide_eq_false hs]; rfl
      rw [this]
      exact sss_nil rest
end
end K1
set_option Elab.async false
set_option linter.all false
set_option maxRecDepth 100000
/-! k10: steps, rows, schemes. -/
namespace K1
open PySem L2 Dv
theorem bne_f (b : Bool) : (false != b) = b := by cases b <;> rfl
section
variable {P : Program} {w : World} {K : PySem.W.Frag} {mg : Str → Option Value} {base : Heap}
abbrev DTuple (P : Program) (w : World) (K : PySem.W.Frag) (mg : Str → Option Value) (base : Heap) : Prop := DefOk P w K mg base "is_tuple" ["value", "least", "most"] 1 S_is_tuple
abbrev N_is_step : List Str := ["world", "watch", "many", "value", "word", "house", "needs", "makes", "flags", "then", "other"]
abbrev s_is_step : Stmt := top 57
theorem sc_is_step : FnScope N_is_step ["world", "watch", "many", "value"] (defScope s_is_step) := ⟨rfl, rfl, rfl, by decide +kernel, rfl, by decide +kernel, by decide +kernel⟩
def S_is_step (Cl : Addr) : SpW := S_t fun ws mu => ∃ y v wt many wd ho ne mk fl th ot, ws = [.m y, nmW wt, .int ((many : Nat) : Int), rwW (.step wd ho ne mk fl th ot)] ∧ mu y = some (.ins Cl (wdFs v)) ∧ WdOk v ∧ WatchOk v wt ∧ StepOk v wt many wd ho ne mk fl th ot
set_option maxHeartbeats 2000000 in
theorem d_is_step {Cl : Addr} (D : Dfn K mg "is_step" s_is_step ["world", "watch", "many", "value"]) (C : WCls K mg Cl) (D_tuple : DTuple P w K mg base)
    (D_pat : DefOk P w K mg base "is_pattern_at" ["slots", "house", "value"] 4 S_is_pattern_at) (D_flags : DefOk P w K mg base "are_flags" ["word", "watched", "value"] 2 S_are_flags)
    (D_watched : DefOk P w K mg base "watched_houses" ["world", "watch"] 1 (S_watched Cl)) (D_num : DefOk P w K mg base "is_number_of" ["many", "value"] 2 S_is_number_of) : DefOk P w K mg base "is_step" ["world", "watch", "many", "value"] 5 (S_is_step Cl) := by
  refine dfnOk D sc_is_step (fun ws mu P ⟨⟨_, _, _, _, _, _, _, _, _, _, _, e, _⟩, _⟩ => by rw [e]; rfl) (fun f cdv A outer s H E hr ws mu Pt ⟨⟨y, v, wt, many, wd, ho, ne, mk, fl, th, ot, e, hy, ok, wo, so⟩, h⟩ => ?_)
  subst e
  have hu65 : (A.deeper (PyProof.Rows.envOfC "is_step" (defScope s_is_step) s.heap.objs.size f cdv)).units + 65 < cLine := by have := hr.un; omega
  have wn := watch_nm ok wo
  have hn := ok.hs.nm _ so.ho
  refine sss_cons (ss_if (st_not (st_val (se_callD D_tuple (hr.mono (by decide)) (sa_cons (se_var (i := 3) rfl (sa_cons (se_int (sa_cons (se_int (sa_nil ?_)))))))))))
  refine ⟨_, 7, 7, rfl, fun r mu1 hr1 e1 => ?_⟩
  have hr2 : r = true := hr1.trans rfl
  subst hr2
  refine sss_nil ?_
  refine sss_cons (ss_asg (se_var (i := 3) rfl ?_))
  refine sg_tup (ws := [.str wd, .str ho, ptW ne, ptW mk, nmW fl, .int (th : Nat), .int (ot : Nat)]) (sgs_cons (sg_name (i := 4) (sgs_cons (sg_name (i := 5) (sgs_cons (sg_name (i := 6) (sgs_cons (sg_name (i := 7) (sgs_cons (sg_name (i := 8) (sgs_cons (sg_name (i := 9) (sgs_cons (sg_name (i := 10) (sgs_nil ?_) sc_is_step.nd)) sc_is_step.nd)) sc_is_step.nd)) sc_is_step.nd)) sc_is_step.nd)) sc_is_step.nd)) sc_is_step.nd))
  refine sss_cons (ss_if (st_of_w (sw_or (st_cmp (op_notInT hu65) (in_w true) (by rfl) (se_var (i := 4) rfl (se_tup (sa_cons (se_str (sa_cons (se_str (sa_nil ⟨by show 2 ≤ sizeLine; decide, ?_⟩)))))))))))
  have wm : wd ∈ [("do" : Str), "ask"] := by rcases so.wd with z | z <;> simp [z]
  refine in_namesE (ns := [("do" : Str), "ask"]) (word_nm so.wd) (fun z hz => word_nm (by simpa using hz)) fun b hb => ?_
  have hb1 : b = false := by rw [hb, decide_eq_true wm]; rfl
  subst hb1
  refine sw_or1 (st_cmp (op_notInT hu65) (in_w true) (by rfl) (se_var (i := 5) rfl (se_fld (se_var (i := 0) rfl ⟨y, Cl, wdFs v, nmW v.houses, rfl, e1 _ _ hy, C.cls, C.houses, rfl, ?_⟩))))
  refine in_namesE hn ok.hs.nm fun b2 hb2 => ?_
  have hb3 : b2 = false := by rw [hb2, decide_eq_true so.ho]; rfl
  subst hb3
  refine sss_nil ?_
  refine sss_cons (ss_if (st_of_w (sw_or (st_not (st_val (se_callD D_pat (hr.mono (by decide)) (sa_cons (se_fld (se_var (i := 0) rfl ⟨y, Cl, wdFs v, slsW v.slots, rfl, e1 _ _ hy, C.cls, C.slots, rfl, ?_⟩)))))))))
  refine sa_cons (se_var (i := 5) rfl (sa_cons (se_var (i := 6) rfl (sa_nil ?_))))
  refine ⟨⟨v.slots, ho, ne, rfl, ok.ss.nm ok.hs, hn, so.nee⟩, fun mu2 e2 => ?_⟩
  have E2 := e1.trans e2
  refine sw_or1 (st_not (st_val (se_callD D_pat (hr.mono (by decide)) (sa_cons (se_fld (se_var (i := 0) rfl ⟨y, Cl, wdFs v, slsW v.slots, rfl, E2 _ _ hy, C.cls, C.slots, rfl, ?_⟩))))))
  refine sa_cons (se_var (i := 5) rfl (sa_cons (se_var (i := 7) rfl (sa_nil ?_))))
  refine ⟨⟨v.slots, ho, mk, rfl, ok.ss.nm ok.hs, hn, so.mak⟩, fun mu3 e3 => ?_⟩
  have E3 := E2.trans e3
  refine sss_nil ?_
  refine sss_cons (ss_if (st_not (st_val (se_callD D_flags (hr.mono (by decide)) (sa_cons (se_var (i := 4) rfl (sa_cons (se_cmp (op_inT hu65) (in_w false) (by rfl) (se_var (i := 5) rfl ?_)))))))))
  refine se_callD D_watched (hr.mono (by decide)) (sa_cons (se_var (i := 0) rfl (sa_cons (se_var (i := 1) rfl (sa_nil ?_)))))
  refine ⟨y, v, wt, rfl, E3 _ _ hy, ok, wn, fun a mu4 _ ha e4 => ?_⟩
  have E4 := E3.trans e4
  refine in_namesL ha hn (fun z hz => ?_) ?_
  · obtain ⟨t, ht, rfl⟩ := List.mem_map.mp hz
    exact ok.hs.nm _ (ok.ss.each t (List.mem_filter.mp ht).1).home
  rw [bne_f]
  refine sa_cons (se_var (i := 8) rfl (sa_nil ?_))
  refine ⟨⟨wd, _, fl, rfl, so.wd, so.fl⟩, fun mu5 e5 => ?_⟩
  have E5 := E4.trans e5
  refine sss_nil ?_
  refine sss_cons (ss_ret (se_and (se_callD D_num (hr.mono (by decide)) (sa_cons (se_var (i := 2) rfl (sa_cons (se_var (i := 9) rfl (sa_nil ?_))))))))
  refine ⟨⟨many, th, rfl, so.th⟩, fun mu6 e6 => ?_⟩
  refine se_one (se_callD D_num (hr.mono (by decide)) (sa_cons (se_var (i := 2) rfl (sa_cons (se_var (i := 10) rfl (sa_nil ?_))))))
  exact ⟨⟨many, ot, rfl, so.ot⟩, fun mu7 e7 => h _ ((E5.trans e6).trans e7)⟩
abbrev s_is_row : Stmt := top 55
theorem sc_is_row : FnScope ["world", "sort", "watch", "many", "value"] ["world", "sort", "watch", "many", "value"] (defScope s_is_row) := ⟨rfl, rfl, rfl, by decide +kernel, rfl, by decide +kernel, by decide +kernel⟩
def S_is_row (Cl : Addr) : SpW := S_t fun ws mu => ∃ y v so wt many r, ws = [.m y, .str so, nmW wt, .int ((many : Nat) : Int), rwW r] ∧ mu y = some (.ins Cl (wdFs v)) ∧ WdOk v ∧ WatchOk v wt ∧ RwOk v so wt many r
theorem d_is_row {Cl : Addr} (D : Dfn K mg "is_row" s_is_row ["world", "sort", "watch", "many", "value"]) (D_say : DefOk P w K mg base "is_say" ["sort", "value"] 2 S_is_say) (D_step : DefOk P w K mg base "is_step" ["world", "watch", "many", "value"] 5 (S_is_step Cl)) : DefOk P w K mg base "is_row" ["world", "sort", "watch", "many", "value"] 6 (S_is_row Cl) := by
  refine dfnOk D sc_is_row (fun ws mu P ⟨⟨_, _, _, _, _, _, e, _⟩, _⟩ => by rw [e]; rfl) (fun f cdv A outer s H E hr ws mu Pt ⟨⟨y, v, so, wt, many, r, e, hy, ok, wo, ro⟩, h⟩ => ?_)
  subst e
  refine sss_cons (ss_ret (se_or (se_callD D_say (hr.mono (by decide)) (sa_cons (se_var (i := 1) rfl (sa_cons (se_var (i := 4) rfl (sa_nil ?_))))))))
  refine ⟨so, r, rfl, fun a ea => by subst ea; exact ro, fun mu1 e1 => ?_⟩
  cases r with
  | say a => exact h _ e1
  | step wd ho ne mk fl th ot =>
    refine se_one (se_callD D_step (hr.mono (by decide)) (sa_cons (se_var (i := 0) rfl (sa_cons (se_var (i := 2) rfl (sa_cons (se_var (i := 3) rfl (sa_cons (se_var (i := 4) rfl (sa_nil ?_))))))))))
    exact ⟨⟨y, v, wt, many, wd, ho, ne, mk, fl, th, ot, rfl, e1 _ _ hy, ok, wo, ro⟩, fun mu2 e2 => h _ (e1.trans e2)⟩
abbrev s_are_rows : Stmt := top 54
theorem sc_are_rows : FnScope ["world", "sort", "watch", "value", "row"] ["world", "sort", "watch", "value"] (defScope s_are_rows) := ⟨rfl, rfl, rfl, by decide +kernel, rfl, by decide +kernel, by decide +kernel⟩
def S_are_rows (Cl : Addr) : SpW := S_t fun ws mu => ∃ y v s, ws = [.m y, .str s.sort, nmW s.watch, .tup (s.rows.map rwW)] ∧ mu y = some (.ins Cl (wdFs v)) ∧ WdOk v ∧ SchOk v s
theorem d_are_rows {Cl : Addr} (D : Dfn K mg "are_rows" s_are_rows ["world", "sort", "watch", "value"]) (B : Bl mg) (D_tuple : DTuple P w K mg base) (D_row : DefOk P w K mg base "is_row" ["world", "sort", "watch", "many", "value"] 6 (S_is_row Cl)) : DefOk P w K mg base "are_rows" ["world", "sort", "watch", "value"] 7 (S_are_rows Cl) := by
  refine dfnOk D sc_are_rows (fun ws mu P ⟨⟨_, _, _, e, _⟩, _⟩ => by rw [e]; rfl) (fun f cdv A outer s H E hr ws mu Pt ⟨⟨y, v, sc, e, hy, ok, so⟩, h⟩ => ?_)
  subst e
  have lo := so.lo
  have hi := so.hi
  refine sss_cons (ss_if (st_not (st_val (se_callD D_tuple (hr.mono (by decide)) (sa_cons (se_var (i := 3) rfl (sa_cons (se_int (sa_cons (se_int (sa_nil ?_)))))))))))
  refine ⟨_, 2, 12, rfl, fun r mu1 hr1 e1 => ?_⟩
  have hr2 : r = true := by
    rw [hr1, List.length_map]
    simp
    omega
  subst hr2
  refine sss_nil ?_
  refine sss_cons ?_
  refine ss_if ?_
  refine st_not ?_
  refine st_val ?_
  refine se_all ?_ B.all
  refine se_lc (own := [("row", 4)]) (.nm 4) rfl sc_are_rows.nd (blkOk_by (N := ["world", "sort", "watch", "value", "row"]) (sc := defScope s_are_rows) (by decide +kernel)) rfl (fun _ _ _ _ _ => (pg_name (i := 4) sc_are_rows.nd rfl (Or.inl rfl))) (by intro _; rfl) ?_
  refine si_tup (se_var (i := 3) rfl ?_)
  refine lc_all_t (fun _ _ => trivial) (by rw [List.length_map]; exact Nat.le_trans hi (by decide)) InBlk.mono ?_ ?_
  · intro w mu' hw he
    obtain ⟨r, hrm, rfl⟩ := List.mem_map.mp hw
    refine ⟨_, rfl, fun s H C cl fp => ?_⟩
    refine se_callD D_row (hr.mono (by decide)) (sa_cons (se_var (i := 0) rfl (sa_cons (se_var (i := 1) rfl (sa_cons (se_var (i := 2) rfl (sa_cons (se_len (se_var (i := 3) rfl ?_) B.len))))))))
    refine sa_cons (se_var (i := 4) rfl (sa_nil ?_))
    exact ⟨⟨y, v, sc.sort, sc.watch, sc.rows.length, r, by rw [List.length_map], he _ _ (e1 _ _ hy), ok, so.wt, so.each r hrm⟩, fun mu4 e4 => ⟨rfl, e4⟩⟩
  intro mu2 e2
  refine sss_nil ?_
  obtain ⟨wd, ho, ne, mk, fl, th, ot, rr, er⟩ := so.first
  have so0 : StepOk v sc.watch sc.rows.length wd ho ne mk fl th ot := so.each (.step wd ho ne mk fl th ot) (by rw [er]; simp)
  refine sss_cons (ss_ret (se_cmp op_ne neT_w (nomark _) (se_ix (se_ix (se_var (i := 3) rfl (se_int ⟨rwW (.step wd ho ne mk fl th ot), by rw [er]; exact atI_nat' (i := 0) rfl, ?_⟩))))))
  refine se_int ⟨.str wd, atI_nat' (i := 0) rfl, se_str ⟨_, _, rfl, rfl, fun b hb => ?_⟩⟩
  have hb1 : b = true := by rw [hb, decide_eq_false (word_say so0.wd)]; rfl
  subst hb1
  exact h _ (e1.trans e2)
abbrev s_is_scheme : Stmt := top 50
theorem sc_is_scheme : FnScope ["world", "value", "name", "sort", "watch", "rows"] ["world", "value"] (defScope s_is_scheme) := ⟨rfl, rfl, rfl, by decide +kernel, rfl, by decide +kernel, by decide +kernel⟩
def S_is_scheme (Cl : Addr) : SpW := S_t fun ws mu => ∃ y v s, ws = [.m y, schW s] ∧ mu y = some (.ins Cl (wdFs v)) ∧ WdOk v ∧ SchOk v s
theorem d_is_scheme {Cl : Addr} (D : Dfn K mg "is_scheme" s_is_scheme ["world", "value"]) (KS : KTup K mg "SORTS" sorts4) (D_tuple : DTuple P w K mg base) (D_name : DefOk P w K mg base "is_name" ["value"] 1 S_is_name) (D_watch : DefOk P w K mg base "is_watch" ["world", "value"] 2 (S_is_watch Cl)) (D_rows : DefOk P w K mg base "are_rows" ["world", "sort", "watch", "value"] 7 (S_are_rows Cl)) : DefOk P w K mg base "is_scheme" ["world", "value"] 8 (S_is_scheme Cl) := by
  refine dfnOk D sc_is_scheme (fun ws mu P ⟨⟨_, _, _, e, _⟩, _⟩ => by rw [e]; rfl) (fun f cdv A outer s H E hr ws mu Pt ⟨⟨y, v, sc, e, hy, ok, so⟩, h⟩ => ?_)
  subst e
  have hu65 : (A.deeper (PyProof.Rows.envOfC "is_scheme" (defScope s_is_scheme) s.heap.objs.size f cdv)).units + 65 < cLine := by have := hr.un; omega
  refine sss_cons (ss_if (st_not (st_val (se_callD D_tuple (hr.mono (by decide)) (sa_cons (se_var (i := 1) rfl (sa_cons (se_int (sa_cons (se_int (sa_nil ?_)))))))))))
  refine ⟨_, 4, 4, rfl, fun r mu1 hr1 e1 => ?_⟩
  have hr2 : r = true := hr1.trans rfl
  subst hr2
  refine sss_nil ?_
  refine sss_cons (ss_asg (se_var (i := 1) rfl ?_))
  refine sg_tup (ws := [.str sc.nm, .str sc.sort, nmW sc.watch, .tup (sc.rows.map rwW)]) (sgs_cons (sg_name (i := 2) (sgs_cons (sg_name (i := 3) (sgs_cons (sg_name (i := 4) (sgs_cons (sg_name (i := 5) (sgs_nil ?_) sc_is_scheme.nd)) sc_is_scheme.nd)) sc_is_scheme.nd)) sc_is_scheme.nd))
  refine sss_cons (ss_ret (se_and (se_callD D_name (hr.mono (by decide)) (sa_cons (se_var (i := 2) rfl (sa_nil ?_))))))
  refine ⟨⟨sc.nm, rfl, so.nm⟩, fun mu2 e2 => ?_⟩
  refine se_and (se_cmp (op_inT hu65) (in_w false) (by rfl) (se_var (i := 3) rfl (se_globT KS ?_)))
  refine in_namesE (ns := sorts4) (sorts4_nm _ so.so) sorts4_nm fun b hb => ?_
  refine bW_t (by rw [hb, decide_eq_true so.so]; rfl) ?_
  refine se_and (se_callD D_watch (hr.mono (by decide)) (sa_cons (se_var (i := 0) rfl (sa_cons (se_var (i := 4) rfl (sa_nil ?_))))))
  have E2 := e1.trans e2
  refine ⟨⟨y, v, sc.watch, rfl, E2 _ _ hy, ok, so.wt⟩, fun mu3 e3 => ?_⟩
  refine se_one (se_callD D_rows (hr.mono (by decide)) (sa_cons (se_var (i := 0) rfl (sa_cons (se_var (i := 3) rfl (sa_cons (se_var (i := 4) rfl (sa_cons (se_var (i := 5) rfl (sa_nil ?_))))))))))
  have E3 := E2.trans e3
  exact ⟨⟨y, v, sc, rfl, E3 _ _ hy, ok, so⟩, fun mu4 e4 => h _ (E3.trans e4)⟩
abbrev s_is_schemes : Stmt := top 48
theorem sc_is_schemes : FnScope ["world", "value", "scheme"] ["world", "value"] (defScope s_is_schemes) := ⟨rfl, rfl, rfl, by decide +kernel, rfl, by decide +kernel, by decide +kernel⟩
def S_is_schemes (Cl : Addr) : SpW := S_t fun ws mu => ∃ y v ps, ws = [.m y, .tup (ps.map schW)] ∧ mu y = some (.ins Cl (wdFs v)) ∧ WdOk v ∧ PlOk v ps
theorem d_is_schemes {Cl : Addr} (D : Dfn K mg "is_schemes" s_is_schemes ["world", "value"]) (B : Bl mg) (D_tuple : DTuple P w K mg base) (D_diff : DefOk P w K mg base "are_different" ["names"] 1 S_are_different) (D_scheme : DefOk P w K mg base "is_scheme" ["world", "value"] 8 (S_is_scheme Cl)) : DefOk P w K mg base "is_schemes" ["world", "value"] 9 (S_is_schemes Cl) := by
  refine dfnOk D sc_is_schemes (fun ws mu P ⟨⟨_, _, _, e, _⟩, _⟩ => by rw [e]; rfl) (fun f cdv A outer s H E hr ws mu Pt ⟨⟨y, v, ps, e, hy, ok, pl⟩, h⟩ => ?_)
  subst e
  have lo := pl.lo
  have hi := pl.hi
  refine sss_cons ?_
  refine ss_if ?_
  refine st_of_w ?_
  refine sw_or ?_
  refine st_not (st_val (se_callD D_tuple (hr.mono (by decide)) (sa_cons (se_var (i := 1) rfl (sa_cons (se_int (sa_cons (se_int (sa_nil ?_)))))))))
  refine ⟨_, 1, 3, rfl, fun r mu1 hr1 e1 => ?_⟩
  have hr2 : r = true := by
    rw [hr1, List.length_map]
    simp
    omega
  subst hr2
  refine sw_or1 ?_
  refine st_not ?_
  refine st_val ?_
  refine se_all ?_ B.all
  refine se_lc (own := [("scheme", 2)]) (.nm 2) rfl sc_is_schemes.nd (blkOk_by (N := ["world", "value", "scheme"]) (sc := defScope s_is_schemes) (by decide +kernel)) rfl (fun _ _ _ _ _ => (pg_name (i := 2) sc_is_schemes.nd rfl (Or.inl rfl))) (by intro _; rfl) ?_
  refine si_tup (se_var (i := 1) rfl ?_)
  refine lc_all_t (fun _ _ => trivial) (by rw [List.length_map]; exact Nat.le_trans hi (by decide)) InBlk.mono ?_ ?_
  · intro w mu' hw he
    obtain ⟨sc, hs, rfl⟩ := List.mem_map.mp hw
    refine ⟨_, rfl, fun s H C cl fp => ?_⟩
    refine se_callD D_scheme (hr.mono (by decide)) (sa_cons (se_var (i := 0) rfl (sa_cons (se_var (i := 2) rfl (sa_nil ?_)))))
    exact ⟨⟨y, v, sc, rfl, he _ _ (e1 _ _ hy), ok, pl.each sc hs⟩, fun mu4 e4 => ⟨rfl, e4⟩⟩
  intro mu2 e2
  refine sss_nil ?_
  refine sss_cons (ss_ret (se_callD D_diff (hr.mono (by decide)) (sa_cons ?_)))
  refine se_lc (own := [("scheme", 2)]) (.nm 2) rfl sc_is_schemes.nd (blkOk_by (N := ["world", "value", "scheme"]) (sc := defScope s_is_schemes) (by decide +kernel)) rfl (fun _ _ _ _ _ => (pg_name (i := 2) sc_is_schemes.nd rfl (Or.inl rfl))) (by intro _; rfl) ?_
  refine si_tup (se_var (i := 1) rfl ?_)
  refine lc_pure (fun w => match w with | .tup (x :: _) => x | _ => .non) (fun _ _ => trivial) (by rw [List.length_map]; exact Nat.le_trans hi (by decide)) ?_ InBlk.mono ?_
  · intro w mu' hw he
    obtain ⟨sc, hs, rfl⟩ := List.mem_map.mp hw
    refine ⟨_, rfl, fun s H C cl fp => ?_⟩
    exact se_ix (se_var (i := 2) rfl (se_int ⟨.str sc.nm, atI_nat' (i := 0) rfl, rfl, Ext.refl⟩))
  · intro Dd mu' hD he he2
    have em : (ps.map schW).map (fun w => match w with | .tup (x :: _) => x | _ => .non) = stW (ps.map (·.nm)) := by
      unfold stW
      rw [List.map_map, List.map_map]
      rfl
    rw [em] at he2 ⊢
    refine sa_nil ?_
    exact ⟨⟨ps.map (·.nm), _, rfl, .inr ⟨Dd, rfl, setM_same⟩, pl.nd, by rw [List.length_map]; omega, fun n hn => by
      obtain ⟨sc, hs, rfl⟩ := List.mem_map.mp hn
      exact (pl.each sc hs).nm⟩, fun mu4 e4 => h _ ((e1.trans (e2.trans he2)).trans e4)⟩
abbrev s_check_schemes : Stmt := top 49
theorem sc_check_schemes : FnScope ["world", "value"] ["world", "value"] (defScope s_check_schemes) := ⟨rfl, rfl, rfl, by decide +kernel, rfl, by decide +kernel, by decide +kernel⟩
def S_check (Cl : Addr) : SpW := fun ws mu P => ∃ y v ps, ws = [.m y, .tup (ps.map schW)] ∧ mu y = some (.ins Cl (wdFs v)) ∧ WdOk v ∧ PlOk v ps ∧ ∀ mu', Ext mu mu' → P .non mu'
theorem d_check_schemes {Cl : Addr} (D : Dfn K mg "check_schemes" s_check_schemes ["world", "value"]) (D_schemes : DefOk P w K mg base "is_schemes" ["world", "value"] 9 (S_is_schemes Cl)) : DefOk P w K mg base "check_schemes" ["world", "value"] 10 (S_check Cl) := by
  refine dfnOk D sc_check_schemes (fun ws mu P ⟨_, _, _, e, _⟩ => by rw [e]; rfl) (fun f cdv A outer s H E hr ws mu Pt ⟨y, v, ps, e, hy, ok, pl, h⟩ => ?_)
  subst e
  refine sss_cons (ss_if (st_not (st_val (se_callD D_schemes (hr.mono (by decide)) (sa_cons (se_var (i := 0) rfl (sa_cons (se_var (i := 1) rfl (sa_nil ?_)))))))))
  exact ⟨⟨y, v, ps, rfl, hy, ok, pl⟩, fun mu1 e1 => sss_nil (sss_nil (h _ e1))⟩
end
end K1
set_option Elab.async false
set_option linter.all false
set_option maxRecDepth 100000
/-! A def of two parameters: called by two places, and by a place and a name. -/
namespace Dv
open PySem PySem.Spec PyProof.Rows L2
structure DefKw2 (P : Program) (w : World) (K : PySem.W.Frag) (mg : Str → Option Value) (base : Heap) (x n1 nm : Str) (k : Nat) (S : SpW) : Prop where
  ex : ∃ f fd, FnOk P w K mg base CX0 k f fd [n1, nm] (spW K S) ∧ mg x = some (.ref f) ∧ PySem.W.keepIn K (.ref f) = true ∧ ∀ (s : Shared) (u v : Value), BindsTo s fd ⟨[u], [(nm, v)]⟩ [(n1, u), (nm, v)]
section
variable {X : Cx} {a e : Expr} {G : Gs} {mu : Mu} {pos p kpos : Pos} {P : PW1}
theorem se_kw2 {x n1 nm : Str} {k : Nat} {S : SpW} (D : DefKw2 X.prog X.w X.K X.mg X.base x n1 nm k S) (hr : Room k X.A) (h : SE X a G mu fun w1 mu1 => SE X e G mu1 fun w2 mu2 => S [w1, w2] mu2 P)
    (hg : Gl X x := by rfl) (hdb : (x == ("__debug__" : Str)) = false := by decide) (hall : (backToKw pos (keywordEach [⟨some nm, e, kpos⟩] X.env)).all (·.1.isSome) = true := by rfl) (hks : (backToKw pos (keywordEach [⟨some nm, e, kpos⟩] X.env)).filterMap (·.1) = [nm] := by rfl)
    (he : starEach [a] X.env = (false, eval a X.env) :: starEach [] X.env := by rfl)
    (hpl : ((backTo pos (starEach [a] X.env)).any (·.1) || (backToKw pos (keywordEach [⟨some nm, e, kpos⟩] X.env)).any (·.1.isNone)) = false := by rfl) : SE X (.Call (.Name x p) [a] [⟨some nm, e, kpos⟩] pos) G mu P := by
  obtain ⟨f, fd, F, hm, hk, hb⟩ := D.ex
  intro σ H Q d m kk pins s I
  refine wpAny_Call_Name_kw (ld_glob I hg hm ?_ hdb)
  have pa : PA X [a] (tCons (tE X a) tNil) := pa_cons peE pa_nil he
  have pk : PK X [⟨some nm, e, kpos⟩] (tCons (tE X e) tNil) := pk_cons peE pk_nil
  refine PySem.W.callWith_KW (h₀ := X.base) I.ok.mod.kin hk hall (thn (pa.run pos pins s σ H (fun vs H1 => (∃ v1, vs = [v1]) ∧ tCons (tE X e) tNil σ H1 fun zs H2 => (∃ v2, zs = [v2]) ∧ spW X.K S (vs ++ zs) H2 Q fun _ _ _ => False) I ?_) fun us s1 ⟨vs, H1, I1, r, ⟨v1, e1⟩, q⟩ => ?_) hpl he
  · exact h σ H _ d m fun v w1 mu1 H1 h1 c1 d1 m1 => ⟨⟨v, rfl⟩, h1 σ H1 _ (c1.denG m d) m1 fun v2 w2 mu2 H2 h2 c2 d2 m2 => ⟨⟨v2, rfl⟩, [w1, w2], mu2, P, h2, ⟨v, [v2], rfl, c2.den m1 d1, ⟨v2, [], rfl, d2, rfl⟩⟩, m2, kk.step (c1.trans c2)⟩⟩
  · refine thn (pk.run pos pins s1 σ H1 _ I1 q) fun ws s2 ⟨zs, H2, I2, rz, ⟨v2, e2⟩, q2⟩ => ⟨I2.kIn, ?_⟩
    rw [hks]
    subst e1 e2
    obtain ⟨u1, rfl⟩ : ∃ u1, us = [u1] := by
      match us, r.length with
      | [u], _ => exact ⟨u, rfl⟩
    obtain ⟨u2, rfl⟩ : ∃ u2, ws = [u2] := by
      match ws, rz.length with
      | [u], _ => exact ⟨u, rfl⟩
    refine wpAny_call (codeAny_mono (F.run X.A X.stack s2 H2 ⟨[u1], [(nm, u2)]⟩ [u1, u2] [v1, v2] Q _ hr I2.env0 (hb s2 u1 u2) (r.append rz) q2) fun z s' hq => ?_)
    cases z with
    | error e => exact False.elim hq
    | ok fl => cases fl with
      | ret u => exact I2.after hq
      | next => exact False.elim hq
      | brk => exact False.elim hq
      | cont => exact False.elim hq
end
section
variable {P : Program} {w : World} {K : PySem.W.Frag} {mg : Str → Option Value} {base : Heap}
theorem dfnBoth2 {x n1 nm : Str} {st : Stmt} {N : List Str} {k : Nat} {S : SpW} (D : Dfn K mg x st [n1, nm]) (Sc : FnScope N [n1, nm] (defScope st))
    (hkw : ∀ (kV doc pm : Value) (an : Option Addr) (cdv ct : Value) (s : Shared) (u v : Value), BindsTo s (PySem.W.fnOf x x (defArgs st) (defBody st) (defScope st) .none kV doc pm an cdv ct) ⟨[u], [(nm, v)]⟩ [(n1, u), (nm, v)])
    (len : ∀ ws mu P, S ws mu P → ws.length = [n1, nm].length)
    (body : ∀ (f : Addr) (cdv : Value) (A : Around) (outer : List Env) (s : Shared) (H : Hp) (E : XK), Room k (A.deeper (PyProof.Rows.envOfC x (defScope st) s.heap.objs.size f cdv)) → ∀ ws mu Pt, S ws mu Pt →
      SSs (cxOf CX0 P w K mg base N x (defScope st) f cdv A outer s H E).nox (defBody st) (startW N ws) mu { nx := fun _ mu' => Pt .non mu', rt := Pt }) : DefOk P w K mg base x [n1, nm] (k + 1) S ∧ DefKw2 P w K mg base x n1 nm (k + 1) S := by
  obtain ⟨f, fd, F, hm, hb⟩ := D.ex
  refine ⟨⟨f, fd, okW F Sc len (body f), hm, F.kp, hb⟩, ⟨f, fd, okW F Sc len (body f), hm, F.kp, ?_⟩⟩
  obtain ⟨oc, od, kV, doc, pm, an, cdv, ct, osl, efd, lk, hcd⟩ := F.ex
  subst efd
  exact fun s u v => hkw _ _ _ _ _ _ s u v
end
end Dv
set_option Elab.async false
set_option linter.all false
set_option maxRecDepth 100000
/-! k10: words_of_row, show_schemes. -/
namespace K1
open PySem L2 Dv
/-- the lines that stand so far, each a list of its own -/
structure Pg (mu : Mu) (Ln : Addr) (rs : List (Addr × List Str)) (mu' : Mu) : Prop where
  lines : mu' Ln = some (.lst (rs.map fun r => W.m r.1))
  rows : ∀ r ∈ rs, mu' r.1 = some (.lst (stW r.2)) ∧ r.1 ≠ Ln
  ex : Ext mu mu'
theorem Pg.ext {mu mu' mu2 : Mu} {Ln : Addr} {rs : List (Addr × List Str)} (h : Pg mu Ln rs mu') (e : Ext mu' mu2) : Pg mu Ln rs mu2 := ⟨e _ _ h.lines, fun r hr => ⟨e _ _ (h.rows r hr).1, (h.rows r hr).2⟩, h.ex.trans e⟩
theorem Pg.add {mu mu' mu2 : Mu} {Ln : Addr} {rs rs2 : List (Addr × List Str)} (h : Pg mu Ln rs mu') (hL : mu Ln = none) (h2 : ∀ r ∈ rs2, mu' r.1 = some (.lst (stW r.2)) ∧ r.1 ≠ Ln) : Pg mu Ln (rs ++ rs2) (setM mu' Ln (.lst (rs.map (fun r => W.m r.1) ++ rs2.map fun r => W.m r.1))) where
  lines := by rw [setM_same, List.map_append]
  rows := fun r hr => by
    rcases List.mem_append.mp hr with hr | hr
    · exact ⟨by rw [setM_ne (h.rows r hr).2]; exact (h.rows r hr).1, (h.rows r hr).2⟩
    · exact ⟨by rw [setM_ne (h2 r hr).2]; exact (h2 r hr).1, (h2 r hr).2⟩
  ex := Ext.set h.ex hL
/-- rows told by values are rows told by lines -/
theorem rows_of {α : Type} {mu' : Mu} {g : W → List W} {f : α → W} {k : α → List Str} {Q : Addr → Prop} (hg : ∀ x, g (f x) = stW (k x)) : ∀ {xs : List α} {rs : List (Addr × W)}, rs.map (·.2) = xs.map f → (∀ r ∈ rs, mu' r.1 = some (.lst (g r.2)) ∧ Q r.1) →
    ∃ r2 : List (Addr × List Str), (rs.map fun r => W.m r.1) = r2.map (fun r => W.m r.1) ∧ r2.map (·.2) = xs.map k ∧ ∀ r ∈ r2, mu' r.1 = some (.lst (stW r.2)) ∧ Q r.1
  | [], [], _, _ => ⟨[], rfl, rfl, fun r hr => (by cases hr)⟩
  | x :: xs, [], e, _ => by cases e
  | [], r :: rs, e, _ => by cases e
  | x :: xs, r :: rs, e, h => by
    simp only [List.map_cons, List.cons.injEq] at e
    obtain ⟨r2, e1, e2, h2⟩ := rows_of hg e.2 fun q hq => h q (by simp [hq])
    refine ⟨(r.1, k x) :: r2, by rw [List.map_cons, List.map_cons, e1], by rw [List.map_cons, List.map_cons, e2], fun q hq => ?_⟩
    rcases List.mem_cons.mp hq with z | z
    · rw [z]
      have := h r (by simp)
      rw [e.1, hg] at this
      exact this
    · exact h2 q z
/-- the lines that are told to stand, one more bunch behind them -/
theorem Pg.more {mu mua mu' : Mu} {Ln Dd : Addr} {ra : List (Addr × List Str)} {α : Type} {f : α → W} {g : W → List W} {k : α → List Str} {xs : List α} {rs : List (Addr × W)} (G1 : Pg mu Ln ra mua) (muL : mu Ln = none)
    (hg : ∀ x, g (f x) = stW (k x)) (hD' : mu' Dd = none) (he : Ext mua mu') (er : rs.map (·.2) = xs.map f) (hrs : ∀ r ∈ rs, mu' r.1 = some (.lst (g r.2)) ∧ mua r.1 = none) (hl : ra.length + xs.length ≤ sizeLine) {P : PW1}
    (h : ∀ rb mub, Pg mu Ln rb mub → rb.map (·.2) = ra.map (·.2) ++ xs.map k → P .non mub) : extW (.m Ln) [.m Dd] (setM mu' Dd (.lst (rs.map fun r => .m r.1))) P := by
  obtain ⟨r2, e1, e2, h2⟩ := rows_of (Q := fun a => mua a = none) hg er hrs
  rw [e1]
  have G2 := G1.ext he
  have LD : Ln ≠ Dd := fun z => by have := G2.lines; rw [z, hD'] at this; cases this
  have G2' := G2.ext (Ext.refl.set (c := .lst (r2.map fun r => W.m r.1)) hD')
  have l2 : r2.length = xs.length := by have := congrArg List.length e2; rwa [List.length_map, List.length_map] at this
  refine ⟨_, _, G2'.lines, setM_same, by rw [List.length_map, List.length_map, l2]; exact hl, ?_⟩
  have G3 := G2'.add (mu2 := mua) (rs2 := r2) muL fun r hr' => ⟨by
    rw [setM_ne fun z => (by have := (h2 r hr').1; rw [z, hD'] at this; cases this)]; exact (h2 r hr').1, fun z => by have := (h2 r hr').2; rw [z, G1.lines] at this; cases this⟩
  exact h _ _ G3 (by rw [List.map_append, e2])
def gR (w : W) : List W := match w with
  | .tup [.str a, .str b] => [.str a, .str b]
  | .tup [.str wd, .str ho, .tup ne, .tup mk, .tup fl, .int th, .int ot] => [.str wd, .str ho] ++ ne.map (fun u => match u with | .tup [.str a, .str b] => W.str (a ++ "=" ++ b) | _ => .non) ++ [.str ":"] ++ mk.map (fun u => match u with | .tup [.str a, .str b] => W.str (a ++ "=" ++ b) | _ => .non) ++ [.str ":"] ++ fl ++ [.str ":", .str (numS th.toNat), .str (numS ot.toNat)]
  | _ => []
theorem pairs_map (p : Pat) : (p.map prW).map (fun u => match u with | .tup [.str a, .str b] => W.str (a ++ "=" ++ b) | _ => .non) = stW (pairsS p) := by
  unfold stW pairsS
  rw [List.map_map, List.map_map]
  rfl
theorem gR_rw : ∀ r : Rw, gR (rwW r) = stW (rowL r)
  | .say a => rfl
  | .step wd ho ne mk fl th ot => by
    show [W.str wd, .str ho] ++ (ne.map prW).map _ ++ [W.str ":"] ++ (mk.map prW).map _ ++ [W.str ":"] ++ stW fl ++ [W.str ":", .str (numS (Int.toNat (th : Nat))), .str (numS (Int.toNat (ot : Nat)))] = _
    rw [pairs_map, pairs_map, Int.toNat_natCast, Int.toNat_natCast]
    unfold rowL
    rw [← st_app, ← st_app, ← st_app, ← st_app, ← st_app, ← st_app]
    rfl
section
variable {P : Program} {w : World} {K : PySem.W.Frag} {mg : Str → Option Value} {base : Heap}
abbrev N_words_of_row : List Str := ["row", "word", "house", "needs", "makes", "flags", "then", "other"]
abbrev s_words_of_row : Stmt := top 63
theorem sc_words_of_row : FnScope N_words_of_row ["row"] (defScope s_words_of_row) := ⟨rfl, rfl, rfl, by decide +kernel, rfl, by decide +kernel, by decide +kernel⟩
def S_words_of_row : SpW := fun ws mu P => ∃ r, ws = [rwW r] ∧ RwN r ∧ ∀ a mu', mu a = none → mu' a = some (.lst (stW (rowL r))) → Ext mu mu' → P (.m a) mu'
set_option maxHeartbeats 1000000 in
theorem d_words_of_row (D : Dfn K mg "words_of_row" s_words_of_row ["row"]) (B : Bl mg) (D_words : DefOk P w K mg base "words_of" ["pattern"] 1 S_pairs) : DefOk P w K mg base "words_of_row" ["row"] 2 S_words_of_row := by
  refine dfnOk D sc_words_of_row (fun ws mu P ⟨_, e, _⟩ => by rw [e]; rfl) (fun f cdv A outer s H E hr ws mu Pt ⟨r, e, ok, h⟩ => ?_)
  subst e
  cases r with
  | say a =>
    refine sss_cons (ss_if (st_cmp op_eq eqT_w (nomark _) (se_ix (se_var (i := 0) rfl (se_int ⟨.str "say", atI_nat' (i := 0) rfl, se_str ⟨_, _, rfl, rfl, fun b hb => ?_⟩⟩)))))
    refine if2_t (by rw [hb]; decide +kernel) ?_
    refine sss_cons (ss_ret (se_listC (se_var (i := 0) rfl ?_) B.list))
    intro q nq
    exact h q _ nq setM_same (Ext.refl.set nq)
  | step wd ho ne mk fl th ot =>
    obtain ⟨k1, k2, ⟨k3, k4⟩, ⟨k5, k6⟩, ⟨k7, k8⟩, k9, k10⟩ := ok
    have pl1 := (pairs_ok k3 k4).1
    have pl2 := (pairs_ok k5 k6).1
    refine sss_cons (ss_if (st_cmp op_eq eqT_w (nomark _) (se_ix (se_var (i := 0) rfl (se_int ⟨.str wd, atI_nat' (i := 0) rfl, se_str ⟨_, _, rfl, rfl, fun b hb => ?_⟩⟩)))))
    refine if2_f (by rw [hb]; exact decide_eq_false (word_say k1)) (sss_nil ?_)
    refine sss_cons (ss_asg (se_var (i := 0) rfl ?_))
    refine sg_tup (ws := [.str wd, .str ho, ptW ne, ptW mk, nmW fl, .int (th : Nat), .int (ot : Nat)]) (sgs_cons (sg_name (i := 1) (sgs_cons (sg_name (i := 2) (sgs_cons (sg_name (i := 3) (sgs_cons (sg_name (i := 4) (sgs_cons (sg_name (i := 5) (sgs_cons (sg_name (i := 6) (sgs_cons (sg_name (i := 7) (sgs_nil ?_) sc_words_of_row.nd)) sc_words_of_row.nd)) sc_words_of_row.nd)) sc_words_of_row.nd)) sc_words_of_row.nd)) sc_words_of_row.nd)) sc_words_of_row.nd))
    refine sss_cons (ss_ret (se_lst (sa_cons (se_var (i := 1) rfl (sa_cons (se_var (i := 2) rfl (sa_starL ?_)))))))
    refine se_callD D_words (hr.mono (by decide)) (sa_cons (se_var (i := 3) rfl (sa_nil ?_)))
    refine ⟨ne, rfl, k3, k4, fun b2 m2 n2 hb2 e2 => ?_⟩
    refine ⟨b2, _, rfl, hb2, sa_cons (se_str (sa_starL ?_))⟩
    refine se_callD D_words (hr.mono (by decide)) (sa_cons (se_var (i := 4) rfl (sa_nil ?_)))
    refine ⟨mk, rfl, k5, k6, fun b4 m4 n4 hb4 e4 => ?_⟩
    refine ⟨b4, _, rfl, hb4, sa_cons (se_str (sa_star (se_var (i := 5) rfl ?_)))⟩
    refine sa_cons (se_str (sa_cons (se_strI (se_var (i := 6) rfl ⟨_, rfl, num_log k9, ?_⟩) B.str)))
    refine sa_cons (se_strI (se_var (i := 7) rfl ⟨_, rfl, num_log k10, ?_⟩) B.str)
    refine sa_nil ⟨?_, fun b5 n5 => ?_⟩
    · simp only [List.length_cons, List.length_append, List.length_nil, stW_len]
      exact Nat.le_trans (by omega : (pairsS ne).length + ((pairsS mk).length + (fl.length + (0 + 1 + 1 + 1) + 1) + 1) + 1 + 1 ≤ 30) (by decide)
    have e24 := e2.trans e4
    have em : W.str wd :: W.str ho :: (stW (pairsS ne) ++ W.str ":" :: (stW (pairsS mk) ++ W.str ":" :: (stW fl ++ [W.str ":", W.str (numS th), W.str (numS ot)]))) = stW (rowL (.step wd ho ne mk fl th ot)) := by
      unfold rowL
      rw [← st_app, ← st_app, ← st_app, ← st_app, ← st_app, ← st_app]
      simp only [List.append_assoc]
      rfl
    refine h b5 _ (free_of e24 n5) ?_ (e24.set (free_of e24 n5))
    rw [setM_same, ← em]
    rfl
abbrev N_show_schemes : List Str := ["world", "schemes", "lines", "name", "sort", "watch", "rows", "row"]
abbrev s_show_schemes : Stmt := top 60
theorem sc_show_schemes : FnScope N_show_schemes ["world", "schemes"] (defScope s_show_schemes) := ⟨rfl, rfl, rfl, by decide +kernel, rfl, by decide +kernel, by decide +kernel⟩
def S_show_schemes (Cl : Addr) : SpW := fun ws mu P => ∃ y v ps, ws = [.m y, .tup (ps.map schW)] ∧ mu y = some (.ins Cl (wdFs v)) ∧ WdOk v ∧ PlOk v ps ∧ ∀ mu', Ext mu mu' → P (.str (pageP ps)) mu'
set_option maxHeartbeats 1000000 in
theorem d_show_schemes {Cl : Addr} (D : Dfn K mg "show_schemes" s_show_schemes ["world", "schemes"]) (B : Bl mg) (D_check : DefOk P w K mg base "check_schemes" ["world", "value"] 10 (S_check Cl)) (D_row : DefOk P w K mg base "words_of_row" ["row"] 2 S_words_of_row) (D_text : DefOk P w K mg base "text_of" ["lines"] 1 S_text_of) : DefOk P w K mg base "show_schemes" ["world", "schemes"] 11 (S_show_schemes Cl) ∧ DefKw2 P w K mg base "show_schemes" "world" "schemes" 11 (S_show_schemes Cl) := by
  refine dfnBoth2 D sc_show_schemes (fun _ _ _ _ _ _ _ _ _ => .of_eq rfl) (fun ws mu P ⟨_, _, _, e, _⟩ => by rw [e]; rfl) (fun f cdv A outer s H E hr ws mu Pt ⟨y, v, ps, e, hy, ok, pl, h⟩ => ?_)
  subst e
  have p3 := pl.hi
  refine sss_cons (ss_expr (se_callD D_check (hr.mono (by decide)) (sa_cons (se_var (i := 0) rfl (sa_cons (se_var (i := 1) rfl (sa_nil ?_)))))))
  refine ⟨y, v, ps, rfl, hy, ok, pl, fun mu1 e1 => ?_⟩
  refine sss_cons (ss_asg (se_lst (sa_nil ⟨by decide, fun Ln nLn => ?_⟩)))
  refine sg_name (i := 2) ?_ sc_show_schemes.nd
  have muL : mu1 Ln = none := nLn
  have G0 : Pg mu1 Ln [] (setM mu1 Ln (.lst [])) := ⟨setM_same, fun r hr => (by cases hr), Ext.refl.set nLn⟩
  generalize setM mu1 Ln (.lst []) = mu2 at G0 ⊢
  refine sss_cons ?_
  refine ss_for PassesOwn.never rfl (by intro _; rfl) ?_
  refine si_tup (se_var (i := 1) rfl ?_)
  refine ⟨fun i G' mu' => ∃ y1 y2 y3 y4 rs, G' = [some (.m y), some (.tup (ps.map schW)), some (.m Ln), y1, y2, y3, y4, none] ∧ Pg mu1 Ln rs mu' ∧ rs.map (·.2) = plansL (ps.take i),
    ⟨none, none, none, none, [], rfl, G0, rfl⟩, fun i G' mu' _ _ => trivial, fun i u G' mu' hu ⟨y1, y2, y3, y4, rs, eG, G1, el⟩ => ?_, fun G' mu' ⟨y1, y2, y3, y4, rs, eG, G1, el⟩ => ?_⟩
  · subst eG
    rw [List.getElem?_map] at hu
    cases ht : ps[i]? with
    | none => rw [ht] at hu; cases hu
    | some sc =>
    rw [ht] at hu
    cases hu
    have sm := List.mem_of_getElem? ht
    have so := pl.each sc sm
    have i3 : i < ps.length := (List.getElem?_eq_some_iff.mp ht).1
    have tl := (plansL_ok ok (ps := ps.take i) fun t ht => pl.each t (List.mem_of_mem_take ht)).1
    have tk : (ps.take i).length ≤ i := by rw [List.length_take]; omega
    have rl : rs.length = (plansL (ps.take i)).length := by rw [← el, List.length_map]
    have s12 := so.hi
    have w6 := so.wt.len
    refine sg_tup (ws := [.str sc.nm, .str sc.sort, nmW sc.watch, .tup (sc.rows.map rwW)]) (sgs_cons (sg_name (i := 3) (sgs_cons (sg_name (i := 4) (sgs_cons (sg_name (i := 5) (sgs_cons (sg_name (i := 6) (sgs_nil ?_) sc_show_schemes.nd)) sc_show_schemes.nd)) sc_show_schemes.nd)) sc_show_schemes.nd))
    refine sss_cons (ss_expr (se_append (se_var (i := 2) rfl ⟨⟨_, G1.lines⟩, sa_one ?_⟩)))
    refine se_lst (sa_cons (se_str (sa_cons (se_var (i := 3) rfl (sa_cons (se_var (i := 4) rfl (sa_star (se_var (i := 5) rfl (sa_nil ⟨?_, fun b nb => ?_⟩)))))))))
    · show ((stW sc.watch ++ []).length + 3) ≤ sizeLine
      rw [List.append_nil, stW_len]
      exact Nat.le_trans (by omega : sc.watch.length + 3 ≤ 9) (by decide)
    rw [List.append_nil]
    have Lb : b ≠ Ln := fun z => by have := G1.lines; rw [← z, nb] at this; cases this
    have G2 := G1.ext (Ext.refl.set (c := .lst (stW (headL sc))) nb)
    refine ⟨_, G2.lines, by rw [List.length_map, rl]; exact Nat.lt_of_le_of_lt (by omega : _ ≤ 39) (by decide), ?_⟩
    have G3 := G2.add (mu2 := mu) (rs2 := [(b, headL sc)]) muL fun r hr' => by
      rw [List.mem_singleton.mp hr']
      exact ⟨setM_same, Lb⟩
    have l3 : (rs ++ [(b, headL sc)]).map (·.2) = plansL (ps.take i) ++ [headL sc] := by rw [List.map_append, el]; rfl
    change SSs _ _ _ (setM (setM mu' b (.lst (stW (headL sc)))) Ln (.lst (rs.map (fun r => W.m r.1) ++ [(b, headL sc)].map fun r => W.m r.1))) _
    generalize setM (setM mu' b (.lst (stW (headL sc)))) Ln (.lst (rs.map (fun r => W.m r.1) ++ [(b, headL sc)].map fun r => W.m r.1)) = mu3 at G3 ⊢
    generalize rs ++ [(b, headL sc)] = r3 at G3 l3
    have r3l : r3.length = (plansL (ps.take i)).length + 1 := by
      have := congrArg List.length l3
      rwa [List.length_map, List.length_append] at this
    refine sss_cons (ss_expr (se_extend (se_var (i := 2) rfl ?_)))
    refine ⟨⟨_, G3.lines⟩, ?_⟩
    refine sa_one ?_
    refine se_lcN (own := [("row", 7)]) (.nm 7) rfl sc_show_schemes.nd (blkOk_by (N := N_show_schemes) (sc := defScope s_show_schemes) (by decide +kernel)) rfl (fun _ _ _ _ _ => (pg_name (i := 7) sc_show_schemes.nd rfl (Or.inl rfl))) (by intro _; rfl) ?_
    refine si_tup (se_var (i := 6) rfl ?_)
    refine lc_rows gR (fun _ _ => trivial) (by rw [List.length_map]; exact Nat.le_trans s12 (by decide)) ?_ InBlk.mono ?_
    · intro u mu4 hu he
      obtain ⟨r, hrm, rfl⟩ := List.mem_map.mp hu
      refine ⟨_, rfl, fun s' H C cl fp => ?_⟩
      refine se_callD D_row (hr.mono (by decide)) (sa_cons (se_var (i := 7) rfl (sa_nil ?_)))
      exact ⟨r, rfl, sch_rw ok so r hrm, fun a mu5 na ha e5 => ⟨e5, a, rfl, free_of he na, by rw [ha, gR_rw]⟩⟩
    intro Dd mu4 rs4 hD hD' he er hrs
    refine G3.more muL gR_rw hD' he er hrs (by rw [r3l]; exact Nat.le_trans (by omega : _ ≤ 60) (by decide)) fun rb mub G4 lrb => ?_
    refine sss_nil ⟨_, _, _, _, rb, rfl, G4, ?_⟩
    rw [lrb, l3, plansL_take ht, List.append_assoc]
    rfl
  · subst eG
    rw [List.length_map, List.take_length] at el
    obtain ⟨z1, z2⟩ := plansL_ok ok pl.each
    have rl : rs.length = (plansL ps).length := by rw [← el, List.length_map]
    refine sss_cons (ss_ret (se_callD D_text (hr.mono (by decide)) (sa_cons (se_var (i := 2) rfl (sa_nil ?_)))))
    refine ⟨Ln, rs, rfl, G1.lines, fun r hr' => ⟨(G1.rows r hr').1, z2 r.2 (by rw [← el]; exact List.mem_map.mpr ⟨r, hr', rfl⟩)⟩, by omega, fun mu3 e3 => ?_⟩
    rw [el]
    exact h _ ((e1.trans G1.ex).trans e3)
end
end K1
set_option Elab.async false
set_option linter.all false
set_option maxRecDepth 100000
/-! k09: what a line tells by its words. -/
namespace K1
open PySem L2 Dv
theorem colon_eq : (":" : Str) = ⟨#[58]⟩ := by decide +kernel
theorem eq_eq : ("=" : Str) = ⟨#[61]⟩ := by decide +kernel
theorem nl_eq : ("\n" : Str) = ⟨#[10]⟩ := by decide +kernel
theorem sp_eq : (" " : Str) = ⟨#[32]⟩ := by decide +kernel
theorem nm_no {z : Str} (h : NmOk z) {c : Nat} (hc : c < 97) : c ∉ z.cps.toList := fun m => by have := (h.2.2 c m).1; omega
theorem pair_cut {q : Str × Str} (h : NmOk q.1 ∧ NmOk q.2) : Txt.split (pairS q) "=" = [q.1, q.2] := by
  have e : pairS q = Txt.join ⟨#[61]⟩ [q.1, q.2] := by
    rw [TL.join_eq, ← eq_eq]
    rfl
  rw [e, eq_eq]
  exact cut_put (by decide) (by simp) fun y hy => by
    rcases List.mem_cons.mp hy with rfl | hy
    · exact nm_no h.1 (by decide)
    · rw [List.mem_singleton.mp hy]; exact nm_no h.2 (by decide)
section
variable {P : Program} {w : World} {K : PySem.W.Frag} {mg : Str → Option Value} {base : Heap}
abbrev s_names_in : Stmt := top 20
theorem sc_names_in : FnScope ["words", "word"] ["words"] (defScope s_names_in) := ⟨rfl, rfl, rfl, by decide +kernel, rfl, by decide +kernel, by decide +kernel⟩
def S_names_in : SpW := fun ws mu P => ∃ a ns, ws = [.m a] ∧ mu a = some (.lst (stW ns)) ∧ ns.length ≤ 100 ∧ (∀ n ∈ ns, NmOk n) ∧ ∀ mu', Ext mu mu' → P (nmW ns) mu'
theorem d_names_in (D : Dfn K mg "names_in" s_names_in ["words"]) (B : Bl mg) (D_name : DefOk P w K mg base "is_name" ["value"] 1 S_is_name) : DefOk P w K mg base "names_in" ["words"] 2 S_names_in := by
  refine dfnOk D sc_names_in (fun ws mu P ⟨a, ns, e, _⟩ => by rw [e]; rfl) (fun f cdv A outer s H E hr ws mu Pt ⟨a, ns, e, ha, hl, nm, h⟩ => ?_)
  subst e
  refine sss_cons (ss_ret (se_if (st_val (se_all ?_ B.all))))
  refine se_lc (own := [("word", 1)]) (.nm 1) rfl sc_names_in.nd (blkOk_by (N := ["words", "word"]) (sc := defScope s_names_in) (by decide +kernel)) rfl (fun _ _ _ _ _ => (pg_name (i := 1) sc_names_in.nd rfl (Or.inl rfl))) (by intro _; rfl) ?_
  refine si_lst (se_var (i := 0) rfl ⟨_, ha, ?_⟩)
  refine lc_all_t (fun mu' e => e _ _ ha) (by rw [stW_len]; exact Nat.le_trans hl (by decide)) InBlk.mono ?_ ?_
  · intro u mu' hu he
    obtain ⟨n, hn, rfl⟩ := List.mem_map.mp hu
    refine ⟨_, rfl, fun s' H C cl fp => ?_⟩
    refine se_callD D_name (hr.mono (by decide)) (sa_cons (se_var (i := 1) rfl (sa_nil ?_)))
    exact ⟨⟨n, rfl, nm n hn⟩, fun mu2 e2 => ⟨rfl, e2⟩⟩
  · intro mu' he
    refine se_tupleC (se_var (i := 0) rfl ?_) B.tuple
    exact ⟨_, he _ _ ha, h _ he⟩
abbrev s_pattern_in : Stmt := top 21
theorem sc_pattern_in : FnScope ["words", "pairs", "word", "pair"] ["words"] (defScope s_pattern_in) := ⟨rfl, rfl, rfl, by decide +kernel, rfl, by decide +kernel, by decide +kernel⟩
def S_pattern_in : SpW := fun ws mu P => ∃ a p, ws = [.m a] ∧ mu a = some (.lst (stW (pairsS p))) ∧ p.length ≤ 100 ∧ (∀ q ∈ p, NmOk q.1 ∧ NmOk q.2) ∧ ∀ mu', Ext mu mu' → P (ptW p) mu'
theorem d_pattern_in (D : Dfn K mg "pattern_in" s_pattern_in ["words"]) (B : Bl mg) (D_names : DefOk P w K mg base "are_names" ["value", "least", "most"] 2 S_are_names) : DefOk P w K mg base "pattern_in" ["words"] 3 S_pattern_in := by
  refine dfnOk D sc_pattern_in (fun ws mu P ⟨a, ns, e, _⟩ => by rw [e]; rfl) (fun f cdv A outer s H E hr ws mu Pt ⟨a, p, e, ha, hl, nm, h⟩ => ?_)
  subst e
  refine sss_cons ?_
  refine ss_setlc (i := 1) (own := [("word", 2)]) (.nm 2) rfl sc_pattern_in.nd rfl rfl (sw_true rfl rfl rfl (by decide +kernel)) (blkOk_by (N := ["words", "pairs", "word", "pair"]) (sc := defScope s_pattern_in) (by decide +kernel)) rfl (fun _ _ _ _ _ => (pg_name (i := 2) sc_pattern_in.nd rfl (Or.inl rfl))) (by intro _; rfl) ?_
  refine si_lst (se_var (i := 0) rfl ⟨_, ha, ?_⟩)
  refine lc_pure (fun w => match w with | .str z => .tup ((Txt.split z "=").map W.str) | _ => .non) (fun mu' e => e _ _ ha) (by rw [stW_len]; unfold pairsS; rw [List.length_map]; exact Nat.le_trans hl (by decide)) ?_ InBlk.mono ?_
  · intro u mu' hu he
    obtain ⟨z, hz, rfl⟩ := List.mem_map.mp hu
    obtain ⟨q, hq, rfl⟩ := List.mem_map.mp hz
    refine ⟨_, rfl, fun s' H C cl fp => ?_⟩
    refine se_tupleC ?_ B.tuple
    refine se_split (se_var (i := 2) rfl ⟨_, rfl, se_str ⟨_, rfl, by decide +kernel, ?_, fun l nl => ?_⟩⟩)
    · exact Nat.le_trans (Nat.add_le_add_right (pair_len (nm q hq)) 2) (by decide)
    · exact ⟨_, setM_same, rfl, Ext.refl.set nl⟩
  intro Dd mu' hD he he2
  have em : (stW (pairsS p)).map (fun w => match w with | .str z => .tup ((Txt.split z "=").map W.str) | _ => .non) = p.map prW := by
    unfold stW pairsS
    rw [List.map_map, List.map_map]
    refine List.map_congr_left fun q hq => ?_
    show W.tup ((Txt.split (pairS q) "=").map W.str) = _
    rw [pair_cut (nm q hq)]
    rfl
  rw [em] at he2 ⊢
  have hDd : (setM mu' Dd (.lst (p.map prW))) Dd = some (.lst (p.map prW)) := setM_same
  generalize setM mu' Dd (.lst (p.map prW)) = mu2 at he2 hDd ⊢
  refine sss_cons (ss_ret (se_if (st_val (se_all ?_ B.all))))
  refine se_lc (own := [("pair", 3)]) (.nm 3) rfl sc_pattern_in.nd (blkOk_by (N := ["words", "pairs", "word", "pair"]) (sc := defScope s_pattern_in) (by decide +kernel)) rfl (fun _ _ _ _ _ => (pg_name (i := 3) sc_pattern_in.nd rfl (Or.inl rfl))) (by intro _; rfl) ?_
  refine si_lst (se_var (i := 1) rfl ⟨_, hDd, ?_⟩)
  refine lc_all_t (fun mu' e => e _ _ hDd) (by rw [List.length_map]; exact Nat.le_trans hl (by decide)) InBlk.mono ?_ ?_
  · intro u mu' hu he
    obtain ⟨q, hq, rfl⟩ := List.mem_map.mp hu
    refine ⟨_, rfl, fun s' H C cl fp => ?_⟩
    refine se_callD D_names (hr.mono (by decide)) (sa_cons (se_var (i := 3) rfl (sa_cons (se_int (sa_cons (se_int (sa_nil ?_)))))))
    exact ⟨⟨[q.1, q.2], 2, 2, rfl, Int.le_refl 2, Int.le_refl 2, by show 2 ≤ sizeLine; decide, fun n hn => by
      rcases List.mem_cons.mp hn with rfl | hn
      · exact (nm q hq).1
      · rw [List.mem_singleton.mp hn]; exact (nm q hq).2⟩, fun mu3 e3 => ⟨rfl, e3⟩⟩
  · intro mu3 he3
    refine se_tupleC (se_var (i := 1) rfl ?_) B.tuple
    exact ⟨_, he3 _ _ hDd, h _ (he2.trans he3)⟩
abbrev s_slot_in : Stmt := top 22
theorem sc_slot_in : FnScope ["words"] ["words"] (defScope s_slot_in) := ⟨rfl, rfl, rfl, by decide +kernel, rfl, by decide +kernel, by decide +kernel⟩
def S_slot_in : SpW := fun ws mu P => ∃ a n h ns, ws = [.m a] ∧ mu a = some (.lst (stW (n :: h :: ns))) ∧ ns.length ≤ 50 ∧ (∀ z ∈ n :: h :: ns, NmOk z) ∧ ∀ mu', Ext mu mu' → P (.tup [.str n, .str h, nmW ns]) mu'
theorem d_slot_in (D : Dfn K mg "slot_in" s_slot_in ["words"]) (B : Bl mg) (D_names : DefOk P w K mg base "names_in" ["words"] 2 S_names_in) : DefOk P w K mg base "slot_in" ["words"] 3 S_slot_in := by
  refine dfnOk D sc_slot_in (fun ws mu P ⟨a, _, _, ns, e, _⟩ => by rw [e]; rfl) (fun f cdv A outer s H E hr ws mu Pt ⟨a, n, h, ns, e, ha, hl, nm, hp⟩ => ?_)
  subst e
  refine sss_cons (ss_if (st_of_w (sw_or (st_cmp op_lt cmpN_w (nomark _) ?_))))
  refine se_len (se_var (i := 0) rfl ⟨_, ha, se_int ⟨_, _, rfl, rfl, fun b hb => ?_⟩⟩) B.len
  have e0 : decide (((stW (n :: h :: ns)).length : Int) < 2) = false := by rw [stW_len]; simp only [List.length_cons, decide_eq_false_iff_not]; omega
  rw [hb, e0]
  refine sw_or1 (st_cmp op_isN isN_w (nomark _) ?_)
  refine se_callD D_names (hr.mono (by decide)) (sa_cons (se_var (i := 0) rfl (sa_nil ?_)))
  refine ⟨a, _, rfl, ha, by simp; omega, nm, fun mu1 e1 => ?_⟩
  refine se_non ⟨rfl, fun b hb => ?_⟩
  rw [hb]
  refine sss_nil ?_
  have ha1 := e1 _ _ ha
  refine sss_cons (ss_ret (se_tup ?_))
  refine sa_cons (se_ix (se_var (i := 0) rfl (se_int ⟨_, _, ha1, atI_nat' (i := 0) rfl, ?_⟩)))
  refine sa_cons (se_ix (se_var (i := 0) rfl (se_int ⟨_, _, ha1, atI_nat' (i := 1) rfl, ?_⟩)))
  refine sa_cons (se_tupleC (se_slFrom (se_var (i := 0) rfl (se_int ⟨_, ha1, fun q nq => ?_⟩))) B.tuple)
  refine ⟨_, setM_same, sa_nil ⟨by show 3 ≤ sizeLine; decide, ?_⟩⟩
  have e2 : cutW (stW (n :: h :: ns)) (some 2) none = stW ns := by
    unfold cutW HT.sIx stW
    simp
    exact List.take_of_length_le (by simp)
  rw [e2]
  exact hp _ (e1.set (free_of e1 nq))
end
end K1
set_option Elab.async false
set_option linter.all false
set_option maxRecDepth 100000
/-! k09: groups of words, lapses, the kinds of lines. -/
namespace K1
open PySem L2 Dv
/-- the groups so far, the one that goes on -/
def gStep (s : List (List Str) × List Str) (z : Str) : List (List Str) × List Str := if z = ":" then (s.1 ++ [s.2], []) else (s.1, s.2 ++ [z])
def grpS (l : List Str) : List (List Str) × List Str := l.foldl gStep ([], [])
theorem grp_plain : ∀ (l : List Str) (s : List (List Str) × List Str), (∀ z ∈ l, z ≠ ":") → l.foldl gStep s = (s.1, s.2 ++ l)
  | [], s, _ => by simp
  | z :: l, s, h => by
    rw [List.foldl_cons, grp_plain l _ fun y hy => h y (by simp [hy])]
    unfold gStep
    rw [if_neg (h z (by simp))]
    simp
theorem grp_two {l l' : List Str} (h : ∀ z ∈ l, z ≠ ":") (h' : ∀ z ∈ l', z ≠ ":") : grpS (l ++ [(":" : Str)] ++ l') = ([l], l') := by
  unfold grpS
  rw [List.foldl_append, List.foldl_append, grp_plain l _ h, List.foldl_cons, List.foldl_nil, grp_plain l' _ h']
  unfold gStep
  rw [if_pos rfl]
  simp
theorem nm_colon {z : Str} (h : NmOk z) : z ≠ ":" := fun e => by
  rw [e, colon_eq] at h
  have := (h.2.2 58 (by simp)).1
  omega
theorem str_len_eq {x y : Str} (h : x = y) : x.length = y.length := by rw [h]
theorem pair_colon {q : Str × Str} (h : NmOk q.1 ∧ NmOk q.2) : pairS q ≠ ":" := fun e => by
  have := str_len_eq e
  unfold pairS at this
  rw [len_app, len_app] at this
  have h1 := h.1.1
  have h2 := h.2.1
  have e1 : ("=" : Str).length = 1 := by decide +kernel
  have e2 : (":" : Str).length = 1 := by decide +kernel
  omega
/-- a list's cells: rows, each of its own -/
structure Rws (mu' : Mu) (D : Addr) (rs : List (Addr × List Str)) : Prop where
  lines : mu' D = some (.lst (rs.map fun r => W.m r.1))
  rows : ∀ r ∈ rs, mu' r.1 = some (.lst (stW r.2)) ∧ r.1 ≠ D
  nd : (rs.map (·.1)).Nodup
theorem Rws.ext {mu mu' : Mu} {D : Addr} {rs : List (Addr × List Str)} (h : Rws mu D rs) (e : Ext mu mu') : Rws mu' D rs := ⟨e _ _ h.lines, fun r hr => ⟨e _ _ (h.rows r hr).1, (h.rows r hr).2⟩, h.nd⟩
section
variable {P : Program} {w : World} {K : PySem.W.Frag} {mg : Str → Option Value} {base : Heap}
theorem se_neg1 {X : Cx} {k : Nat} {i : Int} {G : Gs} {mu : Mu} {p1 p2 : Pos} {P : PW1} (h : P (.int (-i)) mu) : SE X (.UnaryOp .USub (.Constant (.int i) k p1) p2) G mu P :=
  SE.mk (pe_un un_neg pe_int) fun σ H Q d m k => ⟨i, rfl, k.now h rfl m⟩
abbrev s_groups_in : Stmt := top 26
theorem sc_groups_in : FnScope ["words", "groups", "word"] ["words"] (defScope s_groups_in) := ⟨rfl, rfl, rfl, by decide +kernel, rfl, by decide +kernel, by decide +kernel⟩
def S_groups_in : SpW := fun ws mu P => ∃ a l, ws = [.m a] ∧ mu a = some (.lst (stW l)) ∧ l.length ≤ 1000 ∧ ∀ D rs mu', Rws mu' D rs → rs.map (·.2) = (grpS l).1 ++ [(grpS l).2] → Ext mu mu' → P (.m D) mu'
theorem d_groups_in (D : Dfn K mg "groups_in" s_groups_in ["words"]) : DefOk P w K mg base "groups_in" ["words"] 1 S_groups_in := by
  refine dfnOk D sc_groups_in (fun ws mu P ⟨a, l, e, _⟩ => by rw [e]; rfl) (fun f cdv A outer s H E hr ws mu Pt ⟨a, l, e, ha, hl, h⟩ => ?_)
  subst e
  refine sss_cons (ss_asg (se_lst (sa_cons (se_lst (sa_nil ⟨by decide, fun g0 n0 => ?_⟩)))))
  refine sa_nil ⟨by show 1 ≤ sizeLine; decide, fun Dg nD => ?_⟩
  refine sg_name (i := 1) ?_ sc_groups_in.nd
  have E1 : Ext mu (setM mu g0 (.lst [])) := Ext.refl.set n0
  have muD : mu Dg = none := free_of E1 nD
  have g0D : g0 ≠ Dg := fun z => by rw [← z] at nD; exact absurd (setM_same.symm.trans nD) (by intro q; cases q)
  have R0 : Rws (setM (setM mu g0 (.lst [])) Dg (.lst [.m g0])) Dg [(g0, [])] := ⟨setM_same, fun r hr => by rw [List.mem_singleton.mp hr]; exact ⟨by rw [setM_ne g0D]; exact setM_same, g0D⟩, by simp⟩
  have E2 : Ext mu (setM (setM mu g0 (.lst [])) Dg (.lst [.m g0])) := E1.set muD
  have F0 : ∀ r ∈ [((g0 : Addr), ([] : List Str))], mu r.1 = none := fun r hr => by rw [List.mem_singleton.mp hr]; exact n0
  change SSs _ _ _ (setM (setM mu g0 (.lst [])) Dg (.lst [.m g0])) _
  generalize setM (setM mu g0 (.lst [])) Dg (.lst [.m g0]) = mu1 at R0 E2 ⊢
  refine sss_cons ?_
  refine ss_for PassesOwn.never rfl (by intro _; rfl) ?_
  refine si_lst (se_var (i := 0) rfl ⟨_, E2 _ _ ha, ?_⟩)
  refine ⟨fun i G' mu' => ∃ rs x, G' = [some (.m a), some (.m Dg), x] ∧ Rws mu' Dg rs ∧ rs.map (·.2) = (grpS (l.take i)).1 ++ [(grpS (l.take i)).2] ∧ rs.length ≤ i + 1 ∧ (grpS (l.take i)).2.length ≤ i ∧ (∀ r ∈ rs, mu r.1 = none) ∧ Ext mu mu', ⟨[(g0, [])], none, rfl, R0, rfl, by simp, by simp [grpS], F0, E2⟩,
    fun i G' mu' _ ⟨rs, x, _, _, _, _, _, _, ex⟩ => ex _ _ ha, fun i u G' mu' hu ⟨rs, x, eG, R, ers, lrs, lcu, F, ex⟩ => ?_, fun G' mu' ⟨rs, x, eG, R, ers, lrs, lcu, F, ex⟩ => ?_⟩
  · subst eG
    unfold stW at hu
    rw [List.getElem?_map] at hu
    cases ht : l[i]? with
    | none => rw [ht] at hu; cases hu
    | some z =>
    rw [ht] at hu
    cases hu
    have hi : i < l.length := (List.getElem?_eq_some_iff.mp ht).1
    have nx : grpS (l.take (i + 1)) = gStep (grpS (l.take i)) z := by
      unfold grpS
      rw [List.take_add_one, ht, List.foldl_append]
      rfl
    obtain ⟨dn, cu, est⟩ : ∃ dn cu, grpS (l.take i) = (dn, cu) := ⟨_, _, rfl⟩
    rw [est] at ers lcu nx
    dsimp only at ers lcu
    refine sg_name (i := 2) ?_ sc_groups_in.nd
    refine sss_cons (ss_if (st_cmp op_eq eqT_w (nomark _) (se_var (i := 2) rfl (se_str ⟨_, _, rfl, rfl, fun b hb => ?_⟩))))
    by_cases hz : z = ":"
    · refine if2_t (by rw [hb]; simp [hz]) ?_
      refine sss_cons (ss_expr (se_append (se_var (i := 1) rfl ?_)))
      refine ⟨⟨_, R.lines⟩, sa_one (se_lst (sa_nil ⟨by decide, fun g ng => ?_⟩))⟩
      have E3 : Ext mu' (setM mu' g (.lst [])) := Ext.refl.set ng
      have R3 := R.ext E3
      have gD : g ≠ Dg := fun q => by rw [q, R.lines] at ng; cases ng
      have mug : mu g = none := free_of ex ng
      refine ⟨_, R3.lines, by rw [List.length_map]; exact Nat.lt_of_le_of_lt lrs (Nat.lt_of_le_of_lt (by omega : i + 1 ≤ 1000) (by decide)), ?_⟩
      refine sss_nil (sss_nil ?_)
      refine ⟨rs ++ [(g, [])], _, rfl, ⟨by rw [setM_same, List.map_append]; rfl, fun r hr => ?_, ?_⟩, ?_, by rw [List.length_append]; simp; omega, ?_, fun r hr => ?_, (ex.trans E3).set muD⟩
      · rcases List.mem_append.mp hr with hr | hr
        · exact ⟨by rw [setM_ne (R3.rows r hr).2]; exact (R3.rows r hr).1, (R3.rows r hr).2⟩
        · rw [List.mem_singleton.mp hr]; exact ⟨by rw [setM_ne gD]; exact setM_same, gD⟩
      · rw [List.map_append]
        refine List.nodup_append.mpr ⟨R.nd, by simp, fun x hx y hy => ?_⟩
        obtain ⟨r, hr, rfl⟩ := List.mem_map.mp hx
        have : y = g := by simpa using hy
        subst this
        intro q
        have := (R.rows r hr).1
        rw [q, ng] at this
        cases this
      · rw [List.map_append, ers, nx]
        unfold gStep
        rw [if_pos hz]
        rfl
      · rw [nx]
        unfold gStep
        rw [if_pos hz]
        simp
      · rcases List.mem_append.mp hr with hr | hr
        · exact F r hr
        · rw [List.mem_singleton.mp hr]; exact mug
    · refine if2_f (by rw [hb]; simp [hz]) ?_
      -- the last row
      obtain ⟨ri, rl, erl⟩ : ∃ ri rl, rs = ri ++ [rl] := ⟨rs.dropLast, rs.getLast (fun q => by rw [q] at ers; simp at ers), (List.dropLast_concat_getLast _).symm⟩
      subst erl
      rw [List.map_append] at ers
      have e2 := List.append_inj' ers rfl
      have erl : rl.2 = cu := by simpa using e2.2
      have rlm : rl ∈ ri ++ [rl] := by simp
      have hrl := (R.rows rl rlm).1
      have rlD := (R.rows rl rlm).2
      have at1 : atI ((ri ++ [rl]).map fun r => W.m r.1) (-1) = some (.m rl.1) := by
        unfold atI ixN
        rw [List.length_map, List.length_append, List.length_singleton]
        rw [if_neg (by decide), if_pos (by omega)]
        have : ((-1 : Int) + ((ri.length + 1 : Nat) : Int)).toNat = ri.length := by omega
        simp only [Option.bind_some, this, List.map_append]
        rw [List.getElem?_append_right (by simp)]
        simp
      refine sss_cons (ss_expr (se_append (se_ix (se_var (i := 1) rfl (se_neg1 ⟨_, _, R.lines, at1, ?_⟩)))))
      refine ⟨⟨_, hrl⟩, sa_one (se_var (i := 2) rfl ?_)⟩
      refine ⟨_, hrl, by rw [stW_len, erl]; exact Nat.lt_of_le_of_lt lcu (Nat.lt_of_le_of_lt (by omega : i ≤ 1000) (by decide)), ?_⟩
      refine sss_nil (sss_nil ?_)
      have nd := R.nd
      rw [List.map_append] at nd
      obtain ⟨nd1, nd2, nd3⟩ := List.nodup_append.mp nd
      have mul : mu rl.1 = none := F rl rlm
      refine ⟨ri ++ [(rl.1, rl.2 ++ [z])], _, rfl, ⟨by rw [setM_ne (Ne.symm rlD), R.lines, List.map_append, List.map_append]; rfl, fun r hr => ?_, by rw [List.map_append]; exact nd⟩, ?_, by rw [List.length_append] at lrs ⊢; simp at lrs ⊢; omega, ?_, fun r hr => ?_, ex.set mul⟩
      · rcases List.mem_append.mp hr with hr | hr
        · have h1 := R.rows r (by simp [hr])
          have ne : r.1 ≠ rl.1 := fun q => nd3 r.1 (List.mem_map.mpr ⟨r, hr, rfl⟩) rl.1 (by simp) q
          exact ⟨by rw [setM_ne ne]; exact h1.1, h1.2⟩
        · rw [List.mem_singleton.mp hr]
          exact ⟨by rw [setM_same, ← st_app]; rfl, rlD⟩
      · rw [List.map_append, e2.1, nx]
        unfold gStep
        rw [if_neg hz]
        simp [erl]
      · rw [nx]
        unfold gStep
        rw [if_neg hz]
        simp; omega
      · rcases List.mem_append.mp hr with hr | hr
        · exact F r (by simp [hr])
        · rw [List.mem_singleton.mp hr]; exact mul
  · subst eG
    rw [stW_len, List.take_length] at ers
    refine sss_cons (ss_ret (se_var (i := 1) rfl ?_))
    exact h Dg rs mu' R ers ex
end
end K1
set_option Elab.async false
set_option linter.all false
set_option maxRecDepth 100000
/-! k10: what a line of a scheme tells by its words. -/
namespace K1
open PySem L2 Dv
theorem grp_four {l1 l2 l3 l4 : List Str} (h1 : ∀ z ∈ l1, z ≠ ":") (h2 : ∀ z ∈ l2, z ≠ ":") (h3 : ∀ z ∈ l3, z ≠ ":") (h4 : ∀ z ∈ l4, z ≠ ":") : grpS (l1 ++ [(":" : Str)] ++ l2 ++ [(":" : Str)] ++ l3 ++ [(":" : Str)] ++ l4) = ([l1, l2, l3], l4) := by
  unfold grpS
  rw [List.foldl_append, List.foldl_append, List.foldl_append, List.foldl_append, List.foldl_append, List.foldl_append, grp_plain l1 _ h1]
  have one : ∀ a b, [(":" : Str)].foldl gStep (a, b) = (a ++ [b], []) := fun a b => by
    rw [List.foldl_cons, List.foldl_nil]
    unfold gStep
    rw [if_pos rfl]
  rw [one, grp_plain l2 _ h2, one, grp_plain l3 _ h3, one, grp_plain l4 _ h4]
  simp
theorem four_rows {rs : List (Addr × List Str)} {g0 g1 g2 g3 : List Str} (e : rs.map (·.2) = [g0, g1, g2] ++ [g3]) : ∃ a0 a1 a2 a3, rs = [(a0, g0), (a1, g1), (a2, g2), (a3, g3)] := by
  rcases rs with _ | ⟨r0, _ | ⟨r1, _ | ⟨r2, _ | ⟨r3, _ | ⟨r4, rs⟩⟩⟩⟩⟩
  · cases e
  · cases e
  · cases e
  · cases e
  · simp only [List.map_cons, List.map_nil, List.cons_append, List.nil_append, List.cons.injEq, and_true] at e
    obtain ⟨z0, z1, z2, z3⟩ := e
    exact ⟨r0.1, r1.1, r2.1, r3.1, by rw [← z0, ← z1, ← z2, ← z3]⟩
  · simp at e
theorem num_colon {i : Nat} : numS i ≠ ":" := fun e => by
  have : (58 : Nat) ∈ (numS i).cps.toList := by rw [e, colon_eq]; simp
  rw [numS_cps] at this
  exact TL.numL_free (n := i) (s := 58) (by omega) this
theorem rowL_grp {wd ho : Str} {ne mk : Pat} {fl : List Str} {th ot : Nat} (h : RwN (.step wd ho ne mk fl th ot)) : grpS (rowL (.step wd ho ne mk fl th ot)) = ([[wd, ho] ++ pairsS ne, pairsS mk, fl], [numS th, numS ot]) := by
  obtain ⟨k1, k2, ⟨k3, k4⟩, ⟨k5, k6⟩, ⟨k7, k8⟩, k9, k10⟩ := h
  have e : rowL (.step wd ho ne mk fl th ot) = ([wd, ho] ++ pairsS ne) ++ [(":" : Str)] ++ pairsS mk ++ [(":" : Str)] ++ fl ++ [(":" : Str)] ++ [numS th, numS ot] := by
    unfold rowL
    simp
  rw [e]
  refine grp_four (fun z hz => ?_) (fun z hz => ?_) (fun z hz => nm_colon (k8 z hz)) (fun z hz => ?_)
  · rcases List.mem_append.mp hz with q | q
    · simp only [List.mem_cons, List.not_mem_nil, or_false] at q
      rcases q with rfl | rfl
      · exact nm_colon (word_nm k1)
      · exact nm_colon k2
    · obtain ⟨p, hp, rfl⟩ := List.mem_map.mp q
      exact pair_colon (k4 p hp)
  · obtain ⟨p, hp, rfl⟩ := List.mem_map.mp hz
    exact pair_colon (k6 p hp)
  · simp only [List.mem_cons, List.not_mem_nil, or_false] at hz
    rcases hz with rfl | rfl <;> exact num_colon
section
variable {P : Program} {w : World} {K : PySem.W.Frag} {mg : Str → Option Value} {base : Heap}
abbrev s_scheme_in : Stmt := top 23
theorem sc_scheme_in : FnScope ["words"] ["words"] (defScope s_scheme_in) := ⟨rfl, rfl, rfl, by decide +kernel, rfl, by decide +kernel, by decide +kernel⟩
theorem d_scheme_in (D : Dfn K mg "scheme_in" s_scheme_in ["words"]) (D_slot : DefOk P w K mg base "slot_in" ["words"] 3 S_slot_in) : DefOk P w K mg base "scheme_in" ["words"] 4 S_slot_in := by
  refine dfnOk D sc_scheme_in (fun ws mu P ⟨a, _, _, ns, e, _⟩ => by rw [e]; rfl) (fun f cdv A outer s H E hr ws mu Pt ⟨a, n, h, ns, e, ha, hl, nm, hp⟩ => ?_)
  subst e
  refine sss_cons (ss_ret (se_callD D_slot (hr.mono (by decide)) (sa_cons (se_var (i := 0) rfl (sa_nil ?_)))))
  exact ⟨a, n, h, ns, rfl, ha, hl, nm, hp⟩
abbrev N_step_in : List Str := ["words", "groups", "word", "house", "needs", "makes", "flags", "goal"]
abbrev s_step_in : Stmt := top 25
theorem sc_step_in : FnScope N_step_in ["words"] (defScope s_step_in) := ⟨rfl, rfl, rfl, by decide +kernel, rfl, by decide +kernel, by decide +kernel⟩
def S_step_in : SpW := fun ws mu P => ∃ a wd ho ne mk fl th ot, ws = [.m a] ∧ mu a = some (.lst (stW (rowL (.step wd ho ne mk fl th ot)))) ∧ RwN (.step wd ho ne mk fl th ot) ∧ ∀ mu', Ext mu mu' → P (rwW (.step wd ho ne mk fl th ot)) mu'
set_option maxHeartbeats 2000000 in
theorem d_step_in (D : Dfn K mg "step_in" s_step_in ["words"]) (B : Bl mg) (D_groups : DefOk P w K mg base "groups_in" ["words"] 1 S_groups_in) (D_pattern : DefOk P w K mg base "pattern_in" ["words"] 3 S_pattern_in) (D_names : DefOk P w K mg base "names_in" ["words"] 2 S_names_in)
    (D_name : DefOk P w K mg base "is_name" ["value"] 1 S_is_name) (D_decimal : DefOk P w K mg base "is_decimal" ["word"] 1 S_is_decimal) : DefOk P w K mg base "step_in" ["words"] 4 S_step_in := by
  refine dfnOk D sc_step_in (fun ws mu P ⟨_, _, _, _, _, _, _, _, e, _⟩ => by rw [e]; rfl) (fun f cdv A outer s H E hr ws mu Pt ⟨a, wd, ho, ne, mk, fl, th, ot, e, ha, rn, h⟩ => ?_)
  subst e
  have gr := rowL_grp rn
  have ll := (rowL_ok rn).1
  obtain ⟨k1, k2, ⟨k3, k4⟩, ⟨k5, k6⟩, ⟨k7, k8⟩, k9, k10⟩ := rn
  have th18 : th < 10 ^ 18 := Nat.lt_of_le_of_lt k9 (by decide)
  have ot18 : ot < 10 ^ 18 := Nat.lt_of_le_of_lt k10 (by decide)
  refine sss_cons (ss_asg (se_callD D_groups (hr.mono (by decide)) (sa_cons (se_var (i := 0) rfl (sa_nil ?_)))))
  refine ⟨a, _, rfl, ha, Nat.le_trans ll (by decide), fun Dg rs mu1 R er e1 => ?_⟩
  rw [gr] at er
  obtain ⟨a0, a1, a2, a3, rfl⟩ := four_rows er
  have RL : mu1 Dg = some (.lst [.m a0, .m a1, .m a2, .m a3]) := R.lines
  have H0 := (R.rows _ (show (a0, [wd, ho] ++ pairsS ne) ∈ _ by simp)).1
  have H1 := (R.rows _ (show (a1, pairsS mk) ∈ _ by simp)).1
  have H2 := (R.rows _ (show (a2, fl) ∈ _ by simp)).1
  have H3 := (R.rows _ (show (a3, [numS th, numS ot]) ∈ _ by simp)).1
  dsimp only at H0 H1 H2 H3
  clear R er
  refine sg_name (i := 1) ?_ sc_step_in.nd
  refine sss_cons (ss_if (st_of_w (sw_or (st_cmp op_ne neN_w (nomark _) (se_len (se_var (i := 1) rfl ⟨_, RL, se_int ⟨_, _, rfl, rfl, fun b hb => ?_⟩⟩) B.len)))))
  have hb0 : b = false := hb.trans rfl
  subst hb0
  refine sw_or (st_cmp op_lt cmpN_w (nomark _) (se_len (se_ix (se_var (i := 1) rfl (se_int ⟨_, .m a0, RL, atI_nat' (i := 0) rfl, _, H0, se_int ⟨_, _, rfl, rfl, fun b hb => ?_⟩⟩))) B.len))
  have hb0 : b = false := by
    rw [hb, stW_len]
    simp only [List.length_append, List.length_cons, List.length_nil, decide_eq_false_iff_not]
    omega
  subst hb0
  refine sw_or1 (st_cmp op_ne neN_w (nomark _) (se_len (se_ix (se_var (i := 1) rfl (se_int ⟨_, .m a3, RL, atI_nat' (i := 3) rfl, _, H3, se_int ⟨_, _, rfl, rfl, fun b hb => ?_⟩⟩))) B.len))
  have hb0 : b = false := hb.trans rfl
  subst hb0
  refine sss_nil ?_
  refine sss_cons (ss_asg (se_slTo (se_ix (se_var (i := 1) rfl (se_int ⟨_, .m a0, RL, atI_nat' (i := 0) rfl, se_int ⟨_, H0, fun q nq => ?_⟩⟩)))))
  have ec : cutW (stW ([wd, ho] ++ pairsS ne)) none (some 2) = stW [wd, ho] := by
    rw [cut_to (by decide), st_take]
    rfl
  rw [ec]
  refine sg_unl setM_same (sgs_cons (sg_name (i := 2) (sgs_cons (sg_name (i := 3) (sgs_nil ?_) sc_step_in.nd)) sc_step_in.nd))
  have E2 : Ext mu1 (setM mu1 q (.lst (stW [wd, ho]))) := Ext.refl.set nq
  generalize setM mu1 q (.lst (stW [wd, ho])) = mu2 at E2 ⊢
  refine sss_cons ?_
  refine ss_par3 (i := 4) (j := 5) (l := 6) ?_ rfl sc_step_in.nd (by decide) (by decide) (by decide) (by rfl)
  refine se_callD D_pattern (hr.mono (by decide)) (sa_cons (se_slFrom (se_ix (se_var (i := 1) rfl (se_int ⟨_, .m a0, E2 _ _ RL, atI_nat' (i := 0) rfl, se_int ⟨_, E2 _ _ H0, fun q2 nq2 => sa_nil ?_⟩⟩)))))
  have ec2 : cutW (stW ([wd, ho] ++ pairsS ne)) (some 2) none = stW (pairsS ne) := by
    unfold cutW HT.sIx stW
    simp
    exact List.take_of_length_le (by simp)
  refine ⟨q2, ne, rfl, by rw [setM_same, ec2], by omega, k4, fun mu3 e3 => ?_⟩
  have E3 := E2.trans ((Ext.refl.set nq2).trans e3)
  refine se_callD D_pattern (hr.mono (by decide)) (sa_cons (se_ix (se_var (i := 1) rfl (se_int ⟨_, .m a1, E3 _ _ RL, atI_nat' (i := 1) rfl, sa_nil ?_⟩))))
  refine ⟨a1, mk, rfl, E3 _ _ H1, by omega, k6, fun mu4 e4 => ?_⟩
  have E4 := E3.trans e4
  refine se_callD D_names (hr.mono (by decide)) (sa_cons (se_ix (se_var (i := 1) rfl (se_int ⟨_, .m a2, E4 _ _ RL, atI_nat' (i := 2) rfl, sa_nil ?_⟩))))
  refine ⟨a2, fl, rfl, E4 _ _ H2, by omega, k8, fun mu5 e5 => ?_⟩
  have E5 := E4.trans e5
  refine sss_cons (ss_if (st_of_w (sw_or (st_not (st_val (se_callD D_name (hr.mono (by decide)) (sa_cons (se_var (i := 3) rfl (sa_nil ?_)))))))))
  refine ⟨⟨ho, rfl, k2⟩, fun mu6 e6 => ?_⟩
  have E6 := E5.trans e6
  refine sw_or (st_cmp op_isN isN_w (nomark _) (se_var (i := 4) rfl (se_non ⟨rfl, fun b hb => ?_⟩)))
  have hb0 : b = false := hb.trans rfl
  subst hb0
  refine sw_or (st_cmp op_isN isN_w (nomark _) (se_var (i := 5) rfl (se_non ⟨rfl, fun b hb => ?_⟩)))
  have hb0 : b = false := hb.trans rfl
  subst hb0
  refine sw_or1 (st_cmp op_isN isN_w (nomark _) (se_var (i := 6) rfl (se_non ⟨rfl, fun b hb => ?_⟩)))
  have hb0 : b = false := hb.trans rfl
  subst hb0
  refine sss_nil ?_
  refine sss_cons ?_
  refine ss_if ?_
  refine st_not ?_
  refine st_val ?_
  refine se_all ?_ B.all
  refine se_lc (own := [("goal", 7)]) (.nm 7) rfl sc_step_in.nd (blkOk_by (N := N_step_in) (sc := defScope s_step_in) (by decide +kernel)) rfl (fun _ _ _ _ _ => (pg_name (i := 7) sc_step_in.nd rfl (Or.inl rfl))) (by intro _; rfl) ?_
  refine si_lst (se_ix (se_var (i := 1) rfl (se_int ⟨_, .m a3, E6 _ _ RL, atI_nat' (i := 3) rfl, _, E6 _ _ H3, ?_⟩)))
  refine lc_all_t (fun mu' e => e _ _ (E6 _ _ H3)) (by show 2 ≤ sizeLine; decide) InBlk.mono ?_ ?_
  · intro w mu' hw he
    obtain ⟨z, hz, rfl⟩ := List.mem_map.mp hw
    refine ⟨_, rfl, fun s H C cl fp => ?_⟩
    refine se_callD D_decimal (hr.mono (by decide)) (sa_cons (se_var (i := 7) rfl (sa_nil ?_)))
    simp only [List.mem_cons, List.not_mem_nil, or_false] at hz
    rcases hz with rfl | rfl
    · exact ⟨⟨th, rfl, th18⟩, fun mu4 e4 => ⟨rfl, e4⟩⟩
    · exact ⟨⟨ot, rfl, ot18⟩, fun mu4 e4 => ⟨rfl, e4⟩⟩
  intro mu7 e7
  refine sss_nil ?_
  have E7 := E6.trans e7
  have n1 := (numS_len th18).2
  have n2 := (numS_len ot18).2
  refine sss_cons (ss_ret (se_tup ?_))
  refine sa_cons (se_var (i := 2) rfl (sa_cons (se_var (i := 3) rfl (sa_cons (se_var (i := 4) rfl (sa_cons (se_var (i := 5) rfl (sa_cons (se_var (i := 6) rfl (sa_cons ?_))))))))))
  refine se_intS (se_ix (se_ix (se_var (i := 1) rfl (se_int ⟨_, .m a3, E7 _ _ RL, atI_nat' (i := 3) rfl, se_int ⟨_, .str (numS th), E7 _ _ H3, atI_nat' (i := 0) rfl, _, _, rfl, TL.int_num ?_, by omega, sa_cons ?_⟩⟩)))) B.int
  · exact Nat.le_trans (TL.numL_len (by decide) th18) (by decide)
  refine se_intS (se_ix (se_ix (se_var (i := 1) rfl (se_int ⟨_, .m a3, E7 _ _ RL, atI_nat' (i := 3) rfl, se_int ⟨_, .str (numS ot), E7 _ _ H3, atI_nat' (i := 1) rfl, _, _, rfl, TL.int_num ?_, by omega, sa_nil ⟨by show 7 ≤ sizeLine; decide, ?_⟩⟩⟩)))) B.int
  · exact Nat.le_trans (TL.numL_len (by decide) ot18) (by decide)
  exact h _ (e1.trans E7)
abbrev s_row_in : Stmt := top 24
theorem sc_row_in : FnScope ["words"] ["words"] (defScope s_row_in) := ⟨rfl, rfl, rfl, by decide +kernel, rfl, by decide +kernel, by decide +kernel⟩
def S_row_in : SpW := fun ws mu P => ∃ a r, ws = [.m a] ∧ mu a = some (.lst (stW (rowL r))) ∧ RwN r ∧ ∀ mu', Ext mu mu' → P (rwW r) mu'
theorem d_row_in (D : Dfn K mg "row_in" s_row_in ["words"]) (B : Bl mg) (D_name : DefOk P w K mg base "is_name" ["value"] 1 S_is_name) (D_step : DefOk P w K mg base "step_in" ["words"] 4 S_step_in) : DefOk P w K mg base "row_in" ["words"] 5 S_row_in := by
  refine dfnOk D sc_row_in (fun ws mu P ⟨_, _, e, _⟩ => by rw [e]; rfl) (fun f cdv A outer s H E hr ws mu Pt ⟨a, r, e, ha, rn, h⟩ => ?_)
  subst e
  have hu65 : (A.deeper (PyProof.Rows.envOfC "row_in" (defScope s_row_in) s.heap.objs.size f cdv)).units + 65 < cLine := by have := hr.un; omega
  cases r with
  | say z =>
    refine sss_cons (ss_if (st_of_w (sw_and (st_cmp op_eq eqT_w (nomark _) (se_ix (se_var (i := 0) rfl (se_int ⟨_, .str "say", ha, atI_nat' (i := 0) rfl, se_str ⟨_, _, rfl, rfl, fun b hb => ?_⟩⟩)))))))
    refine if2_t (by rw [hb]; decide +kernel) ?_
    refine sw_and (st_cmp op_eq eqN_w (nomark _) (se_len (se_var (i := 0) rfl ⟨_, ha, se_int ⟨_, _, rfl, rfl, fun b hb => ?_⟩⟩) B.len))
    refine if2_t (hb.trans rfl) ?_
    refine sw_and1 (st_val (se_callD D_name (hr.mono (by decide)) (sa_cons (se_ix (se_var (i := 0) rfl (se_int ⟨_, .str z, ha, atI_nat' (i := 1) rfl, sa_nil ?_⟩))))))
    refine ⟨⟨z, rfl, rn⟩, fun mu1 e1 => ?_⟩
    refine sss_cons (ss_ret (se_tup (sa_cons (se_str (sa_cons (se_ix (se_var (i := 0) rfl (se_int ⟨_, .str z, e1 _ _ ha, atI_nat' (i := 1) rfl, sa_nil ⟨by show 2 ≤ sizeLine; decide, ?_⟩⟩))))))))
    exact h _ e1
  | step wd ho ne mk fl th ot =>
    have k1 : wd = "do" ∨ wd = "ask" := rn.1
    refine sss_cons (ss_if (st_of_w (sw_and (st_cmp op_eq eqT_w (nomark _) (se_ix (se_var (i := 0) rfl (se_int ⟨_, .str wd, ha, atI_nat' (i := 0) rfl, se_str ⟨_, _, rfl, rfl, fun b hb => ?_⟩⟩)))))))
    refine if2_f (by rw [hb]; exact decide_eq_false (word_say k1)) (sss_nil ?_)
    refine sss_cons (ss_if (st_cmp (op_inT hu65) (in_w false) (by rfl) (se_ix (se_var (i := 0) rfl (se_int ⟨_, .str wd, ha, atI_nat' (i := 0) rfl, se_tup (sa_cons (se_str (sa_cons (se_str (sa_nil ⟨by show 2 ≤ sizeLine; decide, ?_⟩)))))⟩)))))
    have wm : wd ∈ [("do" : Str), "ask"] := by rcases k1 with z | z <;> simp [z]
    refine in_namesE (ns := [("do" : Str), "ask"]) (word_nm k1) (fun z hz => word_nm (by simpa using hz)) fun b hb => ?_
    refine if2_t (by rw [hb, decide_eq_true wm]; rfl) ?_
    refine sss_cons (ss_ret (se_callD D_step (hr.mono (by decide)) (sa_cons (se_var (i := 0) rfl (sa_nil ?_)))))
    exact ⟨a, wd, ho, ne, mk, fl, th, ot, rfl, ha, rn, h⟩
end
end K1
set_option Elab.async false
set_option linter.all false
set_option maxRecDepth 100000
/-! k10: the lines of a page, items, the store of the reader. -/
namespace K1
open PySem L2 Dv
theorem join_mem {s : Str} {c : Nat} : ∀ {ys : List Str}, c ∈ (Str.join s ys).cps.toList → c ∈ s.cps.toList ∨ ∃ y ∈ ys, c ∈ y.cps.toList
  | [], h => by simp [Str.join, Str.empty] at h
  | [y], h => .inr ⟨y, by simp, h⟩
  | y :: z :: r, h => by
    have h : c ∈ (y ++ s ++ Str.join s (z :: r)).cps.toList := h
    rw [str_app, str_app] at h
    rcases List.mem_append.mp h with h | h
    · rcases List.mem_append.mp h with h | h
      · exact .inr ⟨y, by simp, h⟩
      · exact .inl h
    · rcases join_mem h with h | ⟨x, hx, h⟩
      · exact .inl h
      · exact .inr ⟨x, by simp [hx], h⟩
theorem page_cut {ls : List (List Str)} (h0 : ls ≠ []) (h1 : ∀ l ∈ ls, l ≠ [] ∧ ∀ z ∈ l, Clean z) : Txt.split (Txt.join "\n" (ls.map (Txt.join " "))) "\n" = ls.map (Txt.join " ") ∧ (ls.map (Txt.join " ")).map (fun y => Txt.split y " ") = ls := by
  refine ⟨?_, ?_⟩
  · rw [nl_eq]
    refine cut_put (by decide) (by simpa using h0) fun y hy m => ?_
    obtain ⟨l, hl, rfl⟩ := List.mem_map.mp hy
    rw [TL.join_eq] at m
    rcases join_mem m with m | ⟨z, hz, m⟩
    · rw [sp_eq] at m; simp at m
    · exact ((h1 l hl).2 z hz 10 m).1 rfl
  · rw [List.map_map]
    refine (List.map_congr_left fun l hl => ?_).trans (List.map_id' _)
    show Txt.split (Txt.join " " l) " " = l
    rw [sp_eq]
    exact cut_put (by decide) (h1 l hl).1 fun y hy m => ((h1 l hl).2 y hy 32 m).2 rfl
theorem pair_clean {q : Str × Str} (h : NmOk q.1 ∧ NmOk q.2) : Clean (pairS q) := fun c hc => by
  unfold pairS at hc
  rw [str_app, str_app] at hc
  rcases List.mem_append.mp hc with hc | hc
  · rcases List.mem_append.mp hc with hc | hc
    · exact nm_clean h.1 c hc
    · rw [eq_eq] at hc
      have : c = 61 := by simpa using hc
      omega
  · exact nm_clean h.2 c hc
theorem pairs_clean {p : Pat} (h : ∀ q ∈ p, NmOk q.1 ∧ NmOk q.2) : ∀ z ∈ pairsS p, Clean z := fun z hz => by
  obtain ⟨q, hq, rfl⟩ := List.mem_map.mp hz
  exact pair_clean (h q hq)
theorem colon_clean : Clean ":" := by unfold Clean; decide +kernel
theorem rowL_clean : ∀ {r : Rw}, RwN r → ∀ z ∈ rowL r, Clean z
  | .say a, h, z, hz => by
    simp only [rowL, List.mem_cons, List.not_mem_nil, or_false] at hz
    rcases hz with rfl | rfl
    · exact nm_clean four_nm.2.2.1
    · exact nm_clean h
  | .step wd ho ne mk fl th ot, ⟨h0, h2, ⟨h3, h4⟩, ⟨h5, h6⟩, ⟨h7, h8⟩, h9, h10⟩, z, hz => by
    have h1 := word_nm h0
    have a2 := pairs_clean h4
    have b2 := pairs_clean h6
    simp only [rowL, List.mem_append, List.mem_cons, List.not_mem_nil, or_false] at hz
    rcases hz with (((((e | e) | e) | e) | e) | e) | e | e | e
    · rcases e with e | e <;> rw [e]
      · exact nm_clean h1
      · exact nm_clean h2
    · exact a2 z e
    · rw [e]; exact colon_clean
    · exact b2 z e
    · rw [e]; exact colon_clean
    · exact nm_clean (h8 z e)
    · rw [e]; exact colon_clean
    · rw [e]; exact num_clean
    · rw [e]; exact num_clean
theorem headL_clean {v : Wd} (ok : WdOk v) {s : Sch} (h : SchOk v s) : ∀ z ∈ headL s, Clean z := fun z hz => by
  simp only [headL, List.mem_append, List.mem_cons, List.not_mem_nil, or_false] at hz
  rcases hz with (e | e | e) | e
  · rw [e]; exact nm_clean four_nm.2.2.2
  · rw [e]; exact nm_clean h.nm
  · rw [e]; exact nm_clean (sorts4_nm _ h.so)
  · exact nm_clean (watch_nm ok h.wt z e)
/-! the lines one by one -/
inductive Itm where
  | hd (s : Sch)
  | rw (r : Rw)
def itemL : Itm → List Str
  | .hd s => headL s
  | .rw r => rowL r
def items (ps : List Sch) : List Itm := ps.flatMap fun s => Itm.hd s :: s.rows.map Itm.rw
theorem items_L : ∀ ps : List Sch, (items ps).map itemL = plansL ps
  | [] => rfl
  | s :: ps => by
    show ((Itm.hd s :: s.rows.map Itm.rw) ++ items ps).map itemL = schL s ++ plansL ps
    rw [List.map_append, items_L ps]
    show headL s :: (s.rows.map Itm.rw).map itemL ++ plansL ps = _
    rw [List.map_map]
    rfl
def ItOk (v : Wd) : Itm → Prop
  | .hd s => SchOk v s
  | .rw r => RwN r
theorem items_ok {v : Wd} (ok : WdOk v) {ps : List Sch} (h : ∀ s ∈ ps, SchOk v s) : ∀ t ∈ items ps, ItOk v t := fun t ht => by
  obtain ⟨s, hs, h2⟩ := List.mem_flatMap.mp ht
  rcases List.mem_cons.mp h2 with rfl | z
  · exact h s hs
  · obtain ⟨r, hr, rfl⟩ := List.mem_map.mp z
    exact sch_rw ok (h s hs) r hr
/-- heads and bodies so far -/
def rdStep (a : List Sch × List (List Rw)) : Itm → List Sch × List (List Rw)
  | .hd s => (a.1 ++ [s], a.2 ++ [[]])
  | .rw r => (a.1, a.2.dropLast ++ [a.2.getLastD [] ++ [r]])
def rdAll (ts : List Itm) : List Sch × List (List Rw) := ts.foldl rdStep ([], [])
theorem rd_take {ts : List Itm} {i : Nat} {t : Itm} (h : ts[i]? = some t) : rdAll (ts.take (i + 1)) = rdStep (rdAll (ts.take i)) t := by
  unfold rdAll
  rw [List.take_add_one, h, List.foldl_append]
  rfl
theorem rd_rows (rs : List Rw) : ∀ (a : List Sch) (b : List (List Rw)) (l : List Rw), (rs.map Itm.rw).foldl rdStep (a, b ++ [l]) = (a, b ++ [l ++ rs]) := by
  induction rs with
  | nil => intro a b l; simp
  | cons r rs ih =>
    intro a b l
    rw [List.map_cons, List.foldl_cons]
    have : rdStep (a, b ++ [l]) (Itm.rw r) = (a, b ++ [l ++ [r]]) := by
      unfold rdStep
      simp
    rw [this, ih]
    simp
theorem rd_items : ∀ (ps : List Sch) (a : List Sch) (b : List (List Rw)), (items ps).foldl rdStep (a, b) = (a ++ ps, b ++ ps.map (·.rows))
  | [], a, b => by simp [items]
  | s :: ps, a, b => by
    show ((Itm.hd s :: s.rows.map Itm.rw) ++ items ps).foldl rdStep (a, b) = _
    rw [List.foldl_append, List.foldl_cons]
    have : rdStep (a, b) (Itm.hd s) = (a ++ [s], b ++ [[]]) := rfl
    rw [this, rd_rows, rd_items ps]
    simp
theorem rd_end (ps : List Sch) : rdAll (items ps) = (ps, ps.map (·.rows)) := by
  unfold rdAll
  rw [rd_items]
  simp
theorem rd_len (ts : List Itm) : (rdAll ts).1.length ≤ ts.length ∧ (rdAll ts).2.length ≤ ts.length + 1 ∧ ((rdAll ts).1 = [] ↔ ¬ ∃ s, Itm.hd s ∈ ts) := by
  unfold rdAll
  suffices h : ∀ (ts : List Itm) (a : List Sch × List (List Rw)), (ts.foldl rdStep a).1.length ≤ a.1.length + ts.length ∧ (ts.foldl rdStep a).2.length ≤ a.2.length + ts.length + 1 ∧ ((ts.foldl rdStep a).1 = [] ↔ a.1 = [] ∧ ¬ ∃ s, Itm.hd s ∈ ts) by
    have := h ts ([], [])
    simpa using this
  intro ts
  induction ts with
  | nil => intro a; simp
  | cons t ts ih =>
    intro a
    rw [List.foldl_cons]
    obtain ⟨h1, h2, h3⟩ := ih (rdStep a t)
    cases t with
    | hd s =>
      have e1 : (rdStep a (.hd s)).1.length = a.1.length + 1 := by simp [rdStep]
      have e2 : (rdStep a (.hd s)).2.length = a.2.length + 1 := by simp [rdStep]
      refine ⟨by rw [List.length_cons]; omega, by rw [List.length_cons]; omega, ?_⟩
      rw [h3]
      simp [rdStep]
    | rw r =>
      have e1 : (rdStep a (.rw r)).1 = a.1 := rfl
      have e2 : (rdStep a (.rw r)).2.length ≤ a.2.length + 1 := by simp [rdStep]
      refine ⟨by rw [List.length_cons]; rw [e1] at h1; omega, ?_, ?_⟩
      · rw [List.length_cons]; omega
      · rw [h3, e1]
        simp
theorem rd_some {ts : List Itm} (h : ∃ s, Itm.hd s ∈ ts) : (rdAll ts).2 ≠ [] := by
  unfold rdAll
  suffices g : ∀ (ts : List Itm) (a : List Sch × List (List Rw)), (a.2 ≠ [] ∨ ∃ s, Itm.hd s ∈ ts) → (ts.foldl rdStep a).2 ≠ [] from g ts ([], []) (.inr h)
  intro ts
  induction ts with
  | nil =>
    intro a h
    rcases h with h | ⟨s, h⟩
    · exact h
    · cases h
  | cons t ts ih =>
    intro a h
    rw [List.foldl_cons]
    refine ih _ ?_
    cases t with
    | hd s => exact .inl (by simp [rdStep])
    | rw r => exact .inl (by simp [rdStep])
theorem items_head {ps : List Sch} {i : Nat} {r : Rw} (h : (items ps)[i]? = some (.rw r)) : ∃ s, Itm.hd s ∈ (items ps).take i := by
  cases ps with
  | nil => simp [items] at h
  | cons s ps =>
    have e : items (s :: ps) = Itm.hd s :: (s.rows.map Itm.rw ++ items ps) := rfl
    rw [e] at h ⊢
    cases i with
    | zero => simp at h
    | succ i => exact ⟨s, by simp⟩
/-! heads as data -/
def headW (s : Sch) : W := .tup [.str s.nm, .str s.sort, nmW s.watch]
def HeadN (s : Sch) : Prop := NmOk s.nm ∧ NmOk s.sort ∧ ∀ z ∈ s.watch, NmOk z
theorem headN_of {v : Wd} (ok : WdOk v) {s : Sch} (h : SchOk v s) : HeadN s := ⟨h.nm, sorts4_nm _ h.so, watch_nm ok h.wt⟩
theorem head_plain (s : Sch) : plW (headW s) = true := by
  have := plain_nm s.watch
  simp [headW, plW, plsW, this]
theorem head_lay {s : Sch} (h : HeadN s) : (dat (headW s)).canLay0 = true := by
  have w : PyData.canLayAll0 (dats (stW s.watch)) = true := by
    unfold stW
    rw [dats_map]
    exact lay_all _ fun z hz => nm_ok (h.2.2 z hz)
  show (PyData.canLay0 (.str s.nm) && (PyData.canLay0 (.str s.sort) && (PyData.canLayAll0 (dats (stW s.watch)) && true))) = true
  rw [nm_ok h.1, nm_ok h.2.1, w]
  rfl
theorem head_deep (s : Sch) : (dat (headW s)).depth ≤ 2 := by
  have w : PyData.depthAll (dats (stW s.watch)) ≤ 0 := by
    unfold stW
    rw [dats_map]
    exact depth_all _ fun z _ => by simp [dat, PyData.depth]
  simp only [headW, nmW, dat, dats, PyData.depth, PyData.depthAll]
  omega
theorem eq_heads {mu : Mu} {a q : Addr} {hs : List Sch} {P : PW1} (ha : mu a = some (.lst (hs.map headW))) (hq : mu q = some (.lst [])) (hn : ∀ s ∈ hs, HeadN s) (k : ∀ b, b = decide (hs = []) → P (.bl b) mu) : eqW (.m a) (.m q) mu P := by
  refine ⟨.list (dats (hs.map headW)), .list [], ?_, ?_, ?_, by decide, ?_⟩
  · simp only [asD, ha]
    rw [if_pos (show plsW (hs.map headW) = true from plains_map _ head_plain hs)]
  · simp only [asD, hq]
    rfl
  · have h1 : PyData.canLayAll0 (dats (hs.map headW)) = true := by
      rw [dats_map]
      exact lay_all _ fun s hs => head_lay (hn s hs)
    have h2 : PyData.depthAll (dats (hs.map headW)) ≤ 2 := by
      rw [dats_map]
      exact depth_all _ fun s _ => head_deep s
    unfold SeqAt.shaped
    rw [Bool.and_eq_true, decide_eq_true_eq]
    refine ⟨by simpa [PyData.canLay0] using h1, ?_⟩
    simp only [PyData.depth]
    omega
  · refine k _ ?_
    cases hs with
    | nil => rfl
    | cons s r => rfl
/-! the store of the reader -/
structure Rd (mu mu3 mu' : Mu) (Hd Bd : Addr) (hs : List Sch) (bs : List (Addr × List Rw)) : Prop where
  kp : Kp mu mu' ([(Hd, .lst (hs.map headW)), (Bd, .lst (bs.map fun b => W.m b.1))] ++ bs.map fun b => (b.1, C.lst (b.2.map rwW)))
  keep : ∀ b c, b ≠ Hd → b ≠ Bd → mu3 b = some c → mu' b = some c
  fresh : ∀ b ∈ bs, mu3 b.1 = none
section
variable {mu mu3 mu' mu2 : Mu} {Hd Bd : Addr} {hs : List Sch} {bs bi : List (Addr × List Rw)}
theorem Rd.heads (h : Rd mu mu3 mu' Hd Bd hs bs) : mu' Hd = some (.lst (hs.map headW)) := (h.kp.cell _ (List.mem_append_left _ (List.mem_cons_self))).1
theorem Rd.bodies (h : Rd mu mu3 mu' Hd Bd hs bs) : mu' Bd = some (.lst (bs.map fun b => W.m b.1)) := (h.kp.cell (Bd, .lst (bs.map fun b => W.m b.1)) (by simp)).1
theorem Rd.body (h : Rd mu mu3 mu' Hd Bd hs bs) {b : Addr × List Rw} (hb : b ∈ bs) : mu' b.1 = some (.lst (b.2.map rwW)) := (h.kp.cell (b.1, .lst (b.2.map rwW)) (List.mem_append_right _ (List.mem_map.mpr ⟨b, hb, rfl⟩))).1
theorem Rd.ext (h : Rd mu mu3 mu' Hd Bd hs bs) (e : Ext mu' mu2) : Rd mu mu3 mu2 Hd Bd hs bs := ⟨h.kp.ext e, fun b c h1 h2 hc => e _ _ (h.keep b c h1 h2 hc), h.fresh⟩
theorem Rd.head (h : Rd mu mu3 mu' Hd Bd hs bs) (s : Sch) : Rd mu mu3 (setM mu' Hd (.lst (hs.map headW ++ [headW s]))) Hd Bd (hs ++ [s]) bs := by
  refine ⟨?_, fun b c h1 h2 hc => by rw [setM_ne h1]; exact h.keep b c h1 h2 hc, h.fresh⟩
  have := h.kp.put 0 rfl (.lst (hs.map headW ++ [headW s]))
  rw [show (hs ++ [s]).map headW = hs.map headW ++ [headW s] from by rw [List.map_append]; rfl]
  exact this
theorem Rd.more (h : Rd mu mu3 mu' Hd Bd hs bs) {b : Addr} (nb : mu' b = none) (hH : Hd ≠ b) (hB : Bd ≠ b) (f : mu3 b = none) : Rd mu mu3 (setM (setM mu' b (.lst [])) Bd (.lst ((bs.map fun b => W.m b.1) ++ [.m b]))) Hd Bd hs (bs ++ [(b, [])]) := by
  refine ⟨?_, fun c d h1 h2 hc => ?_, fun c hc => ?_⟩
  · have L1 := h.kp.new nb (.lst [])
    have L2 := L1.put 1 rfl (.lst ((bs.map fun b => W.m b.1) ++ [.m b]))
    rw [List.map_append, List.map_append]
    exact (by simpa using L2)
  · rw [setM_ne h2, setM_ne fun z => by rw [z, f] at hc; cases hc]
    exact h.keep c d h1 h2 hc
  · rcases List.mem_append.mp hc with z | z
    · exact h.fresh c z
    · rw [List.mem_singleton.mp z]; exact f
theorem Kp.putLast {l : List (Addr × C)} {mu0 mu : Mu} {a : Addr} {x : C} (L : Kp mu0 mu (l ++ [(a, x)])) (y : C) : Kp mu0 (setM mu a y) (l ++ [(a, y)]) := by
  have hx : (l ++ [(a, x)])[l.length]? = some (a, x) := by simp
  have := L.put l.length hx y
  rw [List.set_append_right _ _ (Nat.le_refl _)] at this
  simpa using this
theorem Rd.row {b : Addr} {rows : List Rw} (h : Rd mu mu3 mu' Hd Bd hs (bi ++ [(b, rows)])) (r : Rw) : Rd mu mu3 (setM mu' b (.lst (rows.map rwW ++ [rwW r]))) Hd Bd hs (bi ++ [(b, rows ++ [r])]) := by
  have fb : mu3 b = none := h.fresh (b, rows) (by simp)
  refine ⟨?_, fun c d h1 h2 hc => ?_, fun c hc => ?_⟩
  · have kp := h.kp
    rw [List.map_append, List.map_append] at kp ⊢
    have L1 : Kp mu mu' (([(Hd, C.lst (hs.map headW)), (Bd, C.lst ((bi.map fun b => W.m b.1) ++ [W.m b]))] ++ bi.map fun b => (b.1, C.lst (b.2.map rwW))) ++ [(b, C.lst (rows.map rwW))]) := by simpa using kp
    have L2 := L1.putLast (.lst (rows.map rwW ++ [rwW r]))
    have er : (rows ++ [r]).map rwW = rows.map rwW ++ [rwW r] := by rw [List.map_append]; rfl
    show Kp mu _ ([(Hd, C.lst (hs.map headW)), (Bd, C.lst ((bi.map fun b => W.m b.1) ++ [W.m b]))] ++ ((bi.map fun b => (b.1, C.lst (b.2.map rwW))) ++ [(b, C.lst ((rows ++ [r]).map rwW))]))
    rw [er, ← List.append_assoc]
    exact L2
  · rw [setM_ne fun z => by rw [z, fb] at hc; cases hc]
    exact h.keep c d h1 h2 hc
  · rcases List.mem_append.mp hc with z | z
    · exact h.fresh c (List.mem_append_left _ z)
    · rw [List.mem_singleton.mp z]; exact fb
end
section
variable {P : Program} {w : World} {K : PySem.W.Frag} {mg : Str → Option Value} {base : Heap}
def gSp (w : W) : List W := match w with | .str y => stW (Txt.split y " ") | _ => []
abbrev s_lines_of : Stmt := top 66
theorem sc_lines_of : FnScope ["text", "line"] ["text"] (defScope s_lines_of) := ⟨rfl, rfl, rfl, by decide +kernel, rfl, by decide +kernel, by decide +kernel⟩
def S_lines_of : SpW := fun ws mu P => ∃ z, ws = [.str z] ∧ z.length + 2 ≤ sizeLine ∧ (Txt.split z "\n").length ≤ sizeLine ∧ (∀ y ∈ Txt.split z "\n", y.length + 2 ≤ sizeLine) ∧ ∀ (D : Addr) (rs : List (Addr × List Str)) (mu' : Mu), mu' D = some (.lst (rs.map fun r => W.m r.1)) → rs.map (·.2) = (Txt.split z "\n").map (fun y => Txt.split y " ") → (∀ r ∈ rs, mu' r.1 = some (.lst (stW r.2)) ∧ r.1 ≠ D ∧ mu r.1 = none) → mu D = none → Ext mu mu' → P (.m D) mu'
theorem d_lines_of (D : Dfn K mg "lines_of" s_lines_of ["text"]) (B : Bl mg) : DefOk P w K mg base "lines_of" ["text"] 1 S_lines_of := by
  refine dfnOk D sc_lines_of (fun ws mu P ⟨z, e, _⟩ => by rw [e]; rfl) (fun f cdv A outer s H E hr ws mu Pt ⟨z, e, hz, hn, hy, h⟩ => ?_)
  subst e
  refine sss_cons (ss_if (st_not (st_val (se_isi (T := "str") (se_var (i := 0) rfl ⟨"str", true, rfl, by decide +kernel, ?_⟩) B.isinstance B.str))))
  refine sss_nil ?_
  refine sss_cons (ss_ret ?_)
  refine se_lcN (own := [("line", 1)]) (.nm 1) rfl sc_lines_of.nd (blkOk_by (N := ["text", "line"]) (sc := defScope s_lines_of) (by decide +kernel)) rfl (fun _ _ _ _ _ => (pg_name (i := 1) sc_lines_of.nd rfl (Or.inl rfl))) (by intro _; rfl) ?_
  refine si_lst (se_split (se_var (i := 0) rfl ⟨_, rfl, se_str ⟨_, rfl, by decide +kernel, hz, fun l nl => ⟨_, setM_same, ?_⟩⟩⟩))
  have e1 : Ext mu (setM mu l (.lst ((Txt.split z "\n").map W.str))) := Ext.refl.set nl
  have hl : (setM mu l (.lst ((Txt.split z "\n").map W.str))) l = _ := setM_same
  generalize setM mu l (.lst ((Txt.split z "\n").map W.str)) = mu1 at e1 hl ⊢
  refine lc_rows gSp (fun mu' e => e _ _ hl) (by rw [List.length_map]; exact hn) ?_ InBlk.mono ?_
  · intro u mu' hu he
    obtain ⟨y, hy', rfl⟩ := List.mem_map.mp hu
    refine ⟨_, rfl, fun s' H C cl fp => ?_⟩
    refine se_split (se_var (i := 1) rfl ⟨_, rfl, se_str ⟨_, rfl, by decide +kernel, hy y hy', fun b nb => ?_⟩⟩)
    exact ⟨Ext.refl.set nb, b, rfl, free_of he nb, setM_same⟩
  · intro Dd mu' rs hD hD' he er hrs
    obtain ⟨r2, q1, q2, q3⟩ := rows_of (g := gSp) (f := W.str) (k := fun y => Txt.split y " ") (Q := fun a => mu1 a = none) (fun _ => rfl) er hrs
    rw [q1]
    refine h Dd r2 _ setM_same q2 (fun r hr' => ?_) (free_of e1 hD) ((e1.trans he).set (free_of (e1.trans he) hD'))
    have ne : r.1 ≠ Dd := fun q => by have := (q3 r hr').1; rw [q, hD'] at this; cases this
    exact ⟨by rw [setM_ne ne]; exact (q3 r hr').1, ne, free_of e1 (q3 r hr').2⟩
end
end K1
set_option Elab.async false
set_option linter.all false
set_option maxRecDepth 100000
/-! k10: read_schemes. -/
namespace K1
open PySem L2 Dv
theorem if2_back {b : Bool} {A B : Prop} (f : B → A) (h : B) : if2 b A B := by cases b; exact h; exact f h
theorem page_small {v : Wd} (ok : WdOk v) {ps : List Sch} (pl : PlOk v ps) : (pageP ps).length ≤ 30000 ∧ (plansL ps).length ≤ 39 ∧ ∀ y ∈ (plansL ps).map (Txt.join " "), y.length ≤ 700 := by
  obtain ⟨z1, z2⟩ := plansL_ok ok pl.each
  have p3 := pl.hi
  have l1 : ("\n" : Str).length = 1 := by decide +kernel
  have each : ∀ y ∈ (plansL ps).map (Txt.join " "), y.length ≤ 700 := fun y hy => by
    obtain ⟨l, hl, rfl⟩ := List.mem_map.mp hy
    exact line_len (z2 l hl)
  refine ⟨?_, by omega, each⟩
  have a1 := join_le "\n" ((plansL ps).map (Txt.join " "))
  have a2 := sum_le each
  rw [List.length_map] at a1 a2
  rw [l1] at a1
  unfold pageP
  omega
theorem item_first : ∀ {t : Itm} {v : Wd}, ItOk v t → ∃ z l, itemL t = z :: l ∧ (decide (z = "scheme") = match t with | .hd _ => true | .rw _ => false)
  | .hd s, v, _ => ⟨"scheme", [s.nm, s.sort] ++ s.watch, rfl, by show decide (("scheme" : Str) = "scheme") = true; decide +kernel⟩
  | .rw (.say a), v, _ => ⟨"say", [a], rfl, by show decide (("say" : Str) = "scheme") = false; decide +kernel⟩
  | .rw (.step wd ho ne mk fl th ot), v, h => ⟨wd, _, rfl, by
    have h : RwN (.step wd ho ne mk fl th ot) := h
    show decide (wd = "scheme") = false
    rcases h.1 with rfl | rfl
    · decide +kernel
    · decide +kernel⟩
theorem item_clean {v : Wd} (ok : WdOk v) : ∀ {t : Itm}, ItOk v t → itemL t ≠ [] ∧ ∀ z ∈ itemL t, Clean z := fun {t} h => by
  obtain ⟨z, l, e, _⟩ := item_first h
  refine ⟨by rw [e]; simp, ?_⟩
  cases t with
  | hd s => exact headL_clean ok h
  | rw r => exact rowL_clean h
theorem rd_heads {ps : List Sch} {i : Nat} : ∀ s ∈ (rdAll ((items ps).take i)).1, s ∈ ps := by
  suffices h : ∀ (ts : List Itm) (a : List Sch × List (List Rw)), (∀ s ∈ a.1, s ∈ ps) → (∀ s, Itm.hd s ∈ ts → s ∈ ps) → ∀ s ∈ (ts.foldl rdStep a).1, s ∈ ps by
    refine h _ ([], []) (by simp) fun s hs => ?_
    have := List.mem_of_mem_take hs
    obtain ⟨s', hs', h2⟩ := List.mem_flatMap.mp this
    rcases List.mem_cons.mp h2 with z | z
    · cases z; exact hs'
    · obtain ⟨r, _, e⟩ := List.mem_map.mp z; cases e
  intro ts
  induction ts with
  | nil => intro a h _; exact h
  | cons t ts ih =>
    intro a h1 h2
    rw [List.foldl_cons]
    refine ih _ ?_ fun s hs => h2 s (by simp [hs])
    cases t with
    | hd s =>
      intro s' hs'
      rcases List.mem_append.mp hs' with z | z
      · exact h1 s' z
      · rw [List.mem_singleton.mp z]; exact h2 s (by simp)
    | rw r => exact h1
theorem rd_rowlen (ts : List Itm) : ∀ b ∈ (rdAll ts).2, b.length ≤ ts.length := by
  unfold rdAll
  suffices h : ∀ (ts : List Itm) (a : List Sch × List (List Rw)) (n : Nat), (∀ b ∈ a.2, b.length ≤ n) → ∀ b ∈ (ts.foldl rdStep a).2, b.length ≤ n + ts.length by
    have := h ts ([], []) 0 (by simp)
    simpa using this
  intro ts
  induction ts with
  | nil => intro a n h b hb; exact h b hb
  | cons t ts ih =>
    intro a n h b hb
    rw [List.foldl_cons] at hb
    have := ih (rdStep a t) (n + 1) (fun b hb => by
      cases t with
      | hd s =>
        rcases List.mem_append.mp hb with z | z
        · exact Nat.le_succ_of_le (h b z)
        · rw [List.mem_singleton.mp z]; simp
      | rw r =>
        rcases List.mem_append.mp hb with z | z
        · exact Nat.le_succ_of_le (h b ((List.dropLast_sublist _).subset z))
        · rw [List.mem_singleton.mp z, List.length_append]
          have : (a.2.getLastD []).length ≤ n := by
            cases hl : a.2.getLast? with
            | none => simp [List.getLastD_eq_getLast?, hl]
            | some x => simp [List.getLastD_eq_getLast?, hl]; exact h x (List.mem_of_getLast? hl)
          exact Nat.succ_le_succ this) b hb
    rw [List.length_cons]
    omega
theorem row_no (r : Rw) : isNo (rwW r) = false := by cases r <;> rfl
/-- the tuples made of heads and bodies -/
def joinG (mu : Mu) (w : W) : W := match w with
  | .tup [.tup h, .m b] => match mu b with
    | some (.lst rows) => .tup (h ++ [.tup rows])
    | _ => .non
  | _ => .non
theorem zip_all {mu : Mu} : ∀ {ps : List Sch} {bs : List (Addr × List Rw)}, bs.map (·.2) = ps.map (·.rows) → (∀ b ∈ bs, mu b.1 = some (.lst (b.2.map rwW))) → ((((ps.map headW).zip (bs.map fun b => W.m b.1)).map fun q => W.tup [q.1, q.2]).map (joinG mu)) = ps.map schW
  | [], [], _, _ => rfl
  | [], _ :: _, h, _ => by simp at h
  | _ :: _, [], h, _ => by simp at h
  | s :: ps, b :: bs, h, hb => by
    simp only [List.map_cons, List.cons.injEq] at h
    have e := hb b (by simp)
    rw [h.1] at e
    simp only [List.map_cons, List.zip_cons_cons, List.cons.injEq]
    refine ⟨?_, zip_all h.2 fun c hc => hb c (by simp [hc])⟩
    show joinG mu (.tup [headW s, .m b.1]) = schW s
    simp only [joinG, headW, e]
    rfl
section
variable {P : Program} {w : World} {K : PySem.W.Frag} {mg : Str → Option Value} {base : Heap}
abbrev N_read_schemes : List Str := ["world", "text", "heads", "bodies", "number", "words", "is_head", "part", "schemes", "head", "rows"]
abbrev s_read_schemes : Stmt := top 65
theorem sc_read_schemes : FnScope N_read_schemes ["world", "text"] (defScope s_read_schemes) := ⟨rfl, rfl, rfl, by decide +kernel, rfl, by decide +kernel, by decide +kernel⟩
def S_read_schemes (Cl : Addr) : SpW := fun ws mu P => ∃ y v ps, ws = [.m y, .str (pageP ps)] ∧ mu y = some (.ins Cl (wdFs v)) ∧ WdOk v ∧ PlOk v ps ∧ ∀ mu', Ext mu mu' → P (.tup (ps.map schW)) mu'
set_option maxHeartbeats 4000000 in
theorem d_read_schemes {Cl : Addr} (D : Dfn K mg "read_schemes" s_read_schemes ["world", "text"]) (B : Bl mg) (D_lines : DefOk P w K mg base "lines_of" ["text"] 1 S_lines_of) (D_scheme : DefOk P w K mg base "scheme_in" ["words"] 4 S_slot_in) (D_row : DefOk P w K mg base "row_in" ["words"] 5 S_row_in)
    (D_check : DefOk P w K mg base "check_schemes" ["world", "value"] 10 (S_check Cl)) : DefOk P w K mg base "read_schemes" ["world", "text"] 11 (S_read_schemes Cl) ∧ DefKw2 P w K mg base "read_schemes" "world" "text" 11 (S_read_schemes Cl) := by
  refine dfnBoth2 D sc_read_schemes (fun _ _ _ _ _ _ _ _ _ => .of_eq rfl) (fun ws mu P ⟨_, _, _, e, _⟩ => by rw [e]; rfl) (fun f cdv A outer s H E hr ws mu Pt ⟨y, v, ps, e, hy, ok, pl, h⟩ => ?_)
  subst e
  obtain ⟨pz, pn, each⟩ := page_small ok pl
  have itk := items_ok ok pl.each
  have iteq := items_L ps
  have itn : (items ps).length ≤ 39 := by have := congrArg List.length iteq; rw [List.length_map] at this; omega
  obtain ⟨cutA, cutB⟩ := page_cut (ls := plansL ps) (by
    rw [← iteq]
    cases ps with
    | nil => have := pl.lo; simp at this
    | cons s r => simp [items]) (fun l hl => by
    rw [← iteq] at hl
    obtain ⟨t, ht, rfl⟩ := List.mem_map.mp hl
    exact item_clean ok (itk t ht))
  have cutA : Txt.split (pageP ps) "\n" = (plansL ps).map (Txt.join " ") := cutA
  refine sss_cons (ss_asg (se_lst (sa_nil ⟨by decide, fun Hd nH => ?_⟩)))
  refine sg_name (i := 2) ?_ sc_read_schemes.nd
  have K1 : Kp mu (setM mu Hd (.lst [])) [(Hd, .lst [])] := Kp.zero.new nH (.lst [])
  generalize setM mu Hd (.lst []) = mu1 at K1 ⊢
  refine sss_cons (ss_asg (se_lst (sa_nil ⟨by decide, fun Bd nB => ?_⟩)))
  refine sg_name (i := 3) ?_ sc_read_schemes.nd
  have K2 : Kp mu (setM mu1 Bd (.lst [])) [(Hd, .lst []), (Bd, .lst [])] := K1.new nB (.lst [])
  generalize setM mu1 Bd (.lst []) = mu2 at K2 ⊢
  refine sss_cons ?_
  refine ss_for PassesOwn.never rfl (by intro _; rfl) ?_
  refine si_enumL ?_ B.enumerate
  refine se_callD D_lines (hr.mono (by decide)) (sa_cons (se_var (i := 1) rfl (sa_nil ?_)))
  refine ⟨pageP ps, rfl, Nat.le_trans (Nat.add_le_add_right pz 2) (by decide), by rw [cutA, List.length_map]; exact Nat.le_trans pn (by decide), fun z hz => ?_, fun q rs mu3 hq ers hrs hqf e3 => ?_⟩
  · rw [cutA] at hz
    exact Nat.le_trans (Nat.add_le_add_right (each z hz) 2) (by decide)
  rw [cutA, cutB, ← iteq] at ers
  have K3 := K2.ext e3
  have R0 : Rd mu mu3 mu3 Hd Bd [] [] := ⟨K3, fun _ _ _ _ hc => hc, fun b hb => (by cases hb)⟩
  have nHB : ∀ b, mu2 b = none → b ≠ Hd ∧ b ≠ Bd := fun b hb => ⟨fun z => (by rw [z, K2.at 0 rfl] at hb; cases hb), fun z => (by rw [z, K2.at 1 rfl] at hb; cases hb)⟩
  refine ⟨_, hq, ?_⟩
  refine ⟨fun i G' mu' => ∃ x4 x5 x6 x7 bs, G' = [some (.m y), some (.str (pageP ps)), some (.m Hd), some (.m Bd), x4, x5, x6, x7, none, none, none] ∧ Rd mu mu3 mu' Hd Bd (rdAll ((items ps).take i)).1 bs ∧ bs.map (·.2) = (rdAll ((items ps).take i)).2,
    ⟨none, none, none, none, [], rfl, R0, rfl⟩, fun i G' mu' _ ⟨_, _, _, _, _, _, R, _⟩ => R.keep _ _ (nHB q hqf).1 (nHB q hqf).2 hq, fun i u G' mu' hu ⟨x4, x5, x6, x7, bs, eG, R, eb⟩ => ?_, fun G' mu' ⟨x4, x5, x6, x7, bs, eG, R, eb⟩ => ?_⟩
  · subst eG
    rw [enumW_get, List.getElem?_map] at hu
    cases ht : rs[i]? with
    | none => rw [ht] at hu; cases hu
    | some r =>
    rw [ht] at hu
    cases hu
    have etab : ((items ps).map itemL)[i]? = some r.2 := by rw [← ers, List.getElem?_map, ht]; rfl
    rw [List.getElem?_map] at etab
    cases htt : (items ps)[i]? with
    | none => rw [htt] at etab; cases etab
    | some t =>
    rw [htt] at etab
    have er2 : itemL t = r.2 := by simpa using etab
    have tok := itk t (List.mem_of_getElem? htt)
    have rm := List.mem_of_getElem? ht
    obtain ⟨hr1, hr2, hr3⟩ := hrs r rm
    have hrow := R.keep _ _ (nHB r.1 hr3).1 (nHB r.1 hr3).2 hr1
    rw [← er2] at hrow
    have hi : i < 39 := by have := (List.getElem?_eq_some_iff.mp htt).1; omega
    have nx := rd_take htt
    have rl := rd_len ((items ps).take i)
    have tl : ((items ps).take i).length ≤ 39 := by rw [List.length_take]; omega
    have hn : ∀ s ∈ (rdAll ((items ps).take i)).1, HeadN s := fun s hs => headN_of ok (pl.each s (rd_heads s hs))
    obtain ⟨hs, bl, est⟩ : ∃ hs bl, rdAll ((items ps).take i) = (hs, bl) := ⟨_, _, rfl⟩
    rw [est] at R eb nx rl hn
    dsimp only at R eb rl hn
    obtain ⟨z0, l0, e0, d0⟩ := item_first tok
    have bsl : bs.length ≤ 40 := by have := congrArg List.length eb; rw [List.length_map] at this; omega
    refine sg_tup (sgs_cons (sg_name (i := 4) (sgs_cons (sg_name (i := 5) (sgs_nil ?_) sc_read_schemes.nd)) sc_read_schemes.nd))
    refine sss_cons (ss_asg (se_cmp op_eq eqT_w (nomark _) (se_ix (se_var (i := 5) rfl (se_int ⟨_, .str z0, hrow, atI_nat' (i := 0) (by rw [e0]; rfl), se_str ⟨_, _, rfl, rfl, fun b hb => ?_⟩⟩)))))
    refine sg_name (i := 6) ?_ sc_read_schemes.nd
    rw [hb, d0]
    cases t with
    | hd sc =>
      have hh := headN_of ok tok
      have w6 := tok.wt.len
      refine sss_cons (ss_asg (se_if (st_val (se_var (i := 6) rfl ?_))))
      refine se_callD D_scheme (hr.mono (by decide)) (sa_cons (se_slFrom (se_var (i := 5) rfl (se_int ⟨_, hrow, fun p np => ?_⟩))))
      have ec : cutW (stW (itemL (.hd sc))) (some 1) none = stW (sc.nm :: sc.sort :: sc.watch) := by rw [cut1]; rfl
      rw [ec]
      have e4 : Ext mu' (setM mu' p (.lst (stW (sc.nm :: sc.sort :: sc.watch)))) := Ext.refl.set np
      refine sa_nil ⟨p, sc.nm, sc.sort, sc.watch, rfl, setM_same, by omega, fun z hz => ?_, fun mu5 e5 => ?_⟩
      · rcases List.mem_cons.mp hz with rfl | hz
        · exact hh.1
        · rcases List.mem_cons.mp hz with rfl | hz
          · exact hh.2.1
          · exact hh.2.2 z hz
      have R5 := R.ext (e4.trans e5)
      clear e4 e5
      refine sg_name (i := 7) ?_ sc_read_schemes.nd
      refine sss_cons (ss_if (st_of_w (sw_or (st_cmp op_isN isN_w (nomark _) (se_var (i := 7) rfl (se_non ⟨rfl, fun b hb => ?_⟩))))))
      rw [hb]
      refine sw_or1 (st_of_w (sw_and (st_cmp (op_eqD hr.units) eq_w (nomark _) (se_var (i := 2) rfl (se_lst (sa_nil ⟨by decide, fun q6 n6 => ?_⟩))))))
      have R6 := R5.ext (Ext.refl.set (c := .lst []) n6)
      have h6 : (setM mu5 q6 (.lst [])) q6 = some (.lst []) := setM_same
      change eqW _ _ (setM mu5 q6 (.lst [])) _
      generalize setM mu5 q6 (.lst []) = mu6 at R6 h6 ⊢
      refine eq_heads R6.heads h6 hn fun b hb => ?_
      refine if2_back (fun k => sw_and1 (st_not (st_val (se_var (i := 6) rfl k)))) ?_
      refine sss_nil ?_
      refine sss_cons (ss_if (st_val (se_var (i := 6) rfl ?_)))
      refine sss_cons (ss_expr (se_append (se_var (i := 2) rfl ⟨⟨_, R6.heads⟩, sa_one (se_var (i := 7) rfl ⟨_, R6.heads, ?_, ?_⟩)⟩)))
      · rw [List.length_map]; exact Nat.lt_of_le_of_lt (by omega : hs.length ≤ 39) (by decide)
      have R7 := R6.head sc
      change SSs _ _ _ (setM mu6 Hd (.lst (hs.map headW ++ [headW sc]))) _
      generalize setM mu6 Hd (.lst (hs.map headW ++ [headW sc])) = mu7 at R7 ⊢
      refine sss_cons (ss_expr (se_append (se_var (i := 3) rfl ⟨⟨_, R7.bodies⟩, sa_one (se_lst (sa_nil ⟨by decide, fun b8 n8 => ?_⟩))⟩)))
      have R8 := R7.ext (Ext.refl.set (c := .lst []) n8)
      have ne1 : Hd ≠ b8 := fun z => by rw [← z, R7.heads] at n8; cases n8
      have ne2 : Bd ≠ b8 := fun z => by rw [← z, R7.bodies] at n8; cases n8
      have f8 : mu3 b8 = none := by
        cases hc : mu3 b8 with
        | none => rfl
        | some c => have := R7.keep b8 c (Ne.symm ne1) (Ne.symm ne2) hc; rw [n8] at this; cases this
      refine ⟨_, R8.bodies, by rw [List.length_map]; exact Nat.lt_of_le_of_lt bsl (by decide), ?_⟩
      have R9 := R7.more n8 ne1 ne2 f8
      refine sss_nil (sss_nil ⟨_, _, _, _, bs ++ [(b8, [])], rfl, by rw [nx]; exact R9, by rw [nx, List.map_append, eb]; rfl⟩)
    | rw r2 =>
      refine sss_cons (ss_asg (se_if (st_val (se_var (i := 6) rfl ?_))))
      refine se_callD D_row (hr.mono (by decide)) (sa_cons (se_var (i := 5) rfl (sa_nil ?_)))
      refine ⟨r.1, r2, rfl, hrow, tok, fun mu5 e5 => ?_⟩
      have R5 := R.ext e5
      refine sg_name (i := 7) ?_ sc_read_schemes.nd
      refine sss_cons (ss_if (st_of_w (sw_or (st_cmp op_isN isN_w (nomark _) (se_var (i := 7) rfl (se_non ⟨rfl, fun b hb => ?_⟩))))))
      rw [hb, row_no]
      refine sw_or1 (st_of_w (sw_and (st_cmp (op_eqD hr.units) eq_w (nomark _) (se_var (i := 2) rfl (se_lst (sa_nil ⟨by decide, fun q6 n6 => ?_⟩))))))
      have R6 := R5.ext (Ext.refl.set (c := .lst []) n6)
      have h6 : (setM mu5 q6 (.lst [])) q6 = some (.lst []) := setM_same
      change eqW _ _ (setM mu5 q6 (.lst [])) _
      generalize setM mu5 q6 (.lst []) = mu6 at R6 h6 ⊢
      have someH := items_head htt
      have hsne : hs ≠ [] := fun z => absurd someH (rl.2.2.mp z)
      have blne : bl ≠ [] := by have := rd_some someH; rwa [est] at this
      refine eq_heads R6.heads h6 hn fun b hb => ?_
      rw [hb, decide_eq_false hsne]
      refine sss_nil ?_
      refine sss_cons (ss_if (st_val (se_var (i := 6) rfl ?_)))
      obtain ⟨bi, bz, erl⟩ : ∃ bi bz, bs = bi ++ [bz] := ⟨bs.dropLast, bs.getLast (fun q => by rw [q] at eb; exact blne eb.symm), (List.dropLast_concat_getLast _).symm⟩
      subst erl
      rw [List.map_append] at eb
      have hbz := R6.body (b := bz) (by simp)
      have at1 : atI ((bi ++ [bz]).map fun r => W.m r.1) (-1) = some (.m bz.1) := by
        unfold atI ixN
        rw [List.length_map, List.length_append, List.length_singleton]
        rw [if_neg (by decide), if_pos (by omega)]
        have : ((-1 : Int) + ((bi.length + 1 : Nat) : Int)).toNat = bi.length := by omega
        simp only [Option.bind_some, this, List.map_append]
        rw [List.getElem?_append_right (by simp)]
        simp
      refine sss_cons (ss_expr (se_append (se_ix (se_var (i := 3) rfl (se_neg1 ⟨_, _, R6.bodies, at1, ?_⟩)))))
      refine ⟨⟨_, hbz⟩, sa_one (se_var (i := 7) rfl ⟨_, hbz, ?_, ?_⟩)⟩
      · rw [List.length_map]
        have q1 : bz.2 ∈ bl := by rw [← eb]; simp
        have q2 : ∀ b ∈ bl, b.length ≤ 39 := by
          have := rd_rowlen ((items ps).take i)
          rw [est] at this
          exact fun b hb => Nat.le_trans (this b hb) tl
        exact Nat.lt_of_le_of_lt (q2 _ q1) (by decide)
      have R9 := R6.row (b := bz.1) (rows := bz.2) r2
      have el : bl.dropLast ++ [bl.getLastD [] ++ [r2]] = bi.map (·.2) ++ [bz.2 ++ [r2]] := by
        rw [← eb]
        simp
      refine sss_nil (sss_nil ⟨_, _, _, _, bi ++ [(bz.1, bz.2 ++ [r2])], rfl, by rw [nx]; exact R9, by rw [nx, List.map_append]; exact el.symm⟩)
  · subst eG
    have eln : (enumW (rs.map fun r => W.m r.1)).length = (items ps).length := by
      rw [enumW_len, List.length_map]
      have := congrArg List.length ers
      rwa [List.length_map, List.length_map] at this
    rw [eln, List.take_length, rd_end] at R eb
    dsimp only at R eb
    have p3 := pl.hi
    refine sss_cons (ss_asg (se_tupleC ?_ B.tuple))
    refine se_lc (own := [("head", 9), ("rows", 10)]) (.tp [.nm 9, .nm 10]) rfl sc_read_schemes.nd (blkOk_by (N := N_read_schemes) (sc := defScope s_read_schemes) (by decide +kernel)) rfl (fun _ _ _ _ _ => (pg_tup rfl (pgs_cons (pg_name (i := 9) sc_read_schemes.nd rfl (Or.inl rfl)) (pgs_cons (pg_name (i := 10) sc_read_schemes.nd rfl (Or.inl rfl)) pgs_nil)))) (by intro _; rfl) ?_
    refine si_zip ?_ B.zip
    refine se_var (i := 2) rfl (se_var (i := 3) rfl ⟨_, _, R.heads, R.bodies, ?_⟩)
    refine lc_pure (joinG mu') (fun mu'' e => ⟨e _ _ R.heads, e _ _ R.bodies⟩) ?_ ?_ InBlk.mono ?_
    · rw [List.length_map, List.length_zip, List.length_map]
      exact Nat.le_trans (Nat.min_le_left _ _) (Nat.le_trans p3 (by decide))
    · intro u mu5 hu e5
      obtain ⟨pr, hpr, rfl⟩ := List.mem_map.mp hu
      obtain ⟨m1, m2⟩ := List.of_mem_zip hpr
      obtain ⟨s, hs, es⟩ := List.mem_map.mp m1
      obtain ⟨b, hb, ebm⟩ := List.mem_map.mp m2
      have hbody := R.body hb
      have hbody5 := e5 _ _ hbody
      refine ⟨_, rfl, fun s' H C cl fp => ?_⟩
      refine se_tup (sa_star (se_var (i := 9) rfl ?_))
      rw [← es]
      refine sa_cons (se_tupleC (se_var (i := 10) rfl ?_) B.tuple)
      rw [← ebm]
      refine ⟨_, hbody5, sa_nil ⟨by show 4 ≤ sizeLine; decide, ?_, Ext.refl⟩⟩
      show _ = joinG mu' (.tup [headW s, .m b.1])
      simp only [joinG, headW, hbody]
    intro Dd mu5 hD he he2
    have ez := zip_all (mu := mu') eb fun b hb => R.body hb
    rw [ez] at he2 ⊢
    refine ⟨_, setM_same, ?_⟩
    refine sg_name (i := 8) ?_ sc_read_schemes.nd
    have Eall : Ext mu (setM mu5 Dd (.lst (ps.map schW))) := R.kp.ex.trans he2
    change SSs _ _ _ (setM mu5 Dd (.lst (ps.map schW))) _
    generalize setM mu5 Dd (.lst (ps.map schW)) = mu6 at Eall ⊢
    refine sss_cons (ss_expr (se_callD D_check (hr.mono (by decide)) (sa_cons (se_var (i := 0) rfl (sa_cons (se_var (i := 8) rfl (sa_nil ?_)))))))
    refine ⟨y, v, ps, rfl, Eall _ _ hy, ok, pl, fun mu7 e7 => ?_⟩
    exact sss_cons (ss_ret (se_var (i := 8) rfl (h _ (Eall.trans e7))))
end
end K1
set_option Elab.async false
set_option linter.all false
set_option maxRecDepth 100000
/-! k10: schemes shown and compared; the law's look. -/
namespace K1
open PySem L2 Dv
/-- names, whole numbers, and tuples of such, n deep -/
def Nm5 : Nat → W → Prop
  | _, .str x => NmOk x
  | _, .int i => 0 ≤ i ∧ i < 10 ^ 18
  | n + 1, .tup ws => ∀ w ∈ ws, Nm5 n w
  | _, _ => False
theorem shown_int {i : Nat} (h : i < 10 ^ 18) : (PyData.int ((i : Nat) : Int)).shown.length ≤ 18 := by
  have e : (PyData.int ((i : Nat) : Int)).shown = numS i := by
    first
      | rfl
      | simp [PyData.shown, numS]
  rw [e]
  exact (numS_len h).2
theorem num_log2 {i : Nat} (h : i < 10 ^ 18) : i.log2 < 1920 := by
  by_cases e : i = 0
  · subst e; decide
  · have := (Nat.log2_lt e (k := 1920)).mpr (Nat.lt_of_lt_of_le h (by decide +kernel))
    exact this
theorem shows5_leaf {w : W} {n : Nat} (h : (∃ i : Nat, w = .int (i : Nat) ∧ i < 10 ^ 18) ∨ ∃ x, w = .str x ∧ NmOk x) : Shows w n := by
  rcases h with ⟨i, rfl, hi⟩ | ⟨x, rfl, h⟩
  · have := shown_int hi
    have lg := num_log2 hi
    refine ⟨by simp [plW], by simp [dat, PyData.canLay0], by simp [dat, PyData.depth], by simpa [dat, PyData.showable] using lg, by simp [dat, PyData.hasDict], ?_⟩
    show (PyData.int ((i : Nat) : Int)).shown.length + 2 ≤ 92 * 1
    omega
  · have h1 := StrLaws.reprText_len x fun c hc => Nat.lt_of_le_of_lt (h.2.2 c hc).2 (by decide)
    have h2 := h.2.1
    refine ⟨by simp [plW], by simpa [dat] using nm_ok h, by simp [dat, PyData.depth], by simp [dat, PyData.showable], by simp [dat, PyData.hasDict], ?_⟩
    show (reprText x).length + 2 ≤ 92 * 1
    omega
theorem shows5 : ∀ (n : Nat) (w : W), Nm5 n w → Shows w n
  | n, .str x, h => shows5_leaf (.inr ⟨x, rfl, by cases n <;> exact h⟩)
  | n, .int i, h => by
    have h : 0 ≤ i ∧ i < 10 ^ 18 := by cases n <;> exact h
    obtain ⟨k, rfl⟩ := Int.eq_ofNat_of_zero_le h.1
    exact shows5_leaf (.inl ⟨k, rfl, by omega⟩)
  | 0, .non, h => h.elim
  | _ + 1, .non, h => h.elim
  | 0, .tup ws, h => h.elim
  | n + 1, .tup ws, h => by
    obtain ⟨b1, b2, b3, b4, b5, b6⟩ := shows_all (n := n) (ws := ws) fun w hw => shows5 n w (h w hw)
    refine ⟨by simpa [plW] using b1, by simpa [dat, PyData.canLay0] using b2, ?_, by simpa [dat, PyData.showable] using b4, by simpa [dat, PyData.hasDict] using b5, ?_⟩
    · simp only [dat, PyData.depth]
      omega
    · show (tupleText (PyData.shownAll (dats ws))).length + 2 ≤ 92 * (szs ws + 1)
      have := tupleText_le (PyData.shownAll (dats ws))
      omega
  | 0, .bl _, h => h.elim
  | 0, .m _, h => h.elim
  | _ + 1, .bl _, h => h.elim
  | _ + 1, .m _, h => h.elim
theorem nm5_str {n : Nat} {x : Str} (h : NmOk x) : Nm5 n (.str x) := by cases n <;> exact h
theorem nm5_int {n i : Nat} (h : i ≤ 100) : Nm5 n (.int (i : Nat)) := by
  have : 0 ≤ ((i : Nat) : Int) ∧ ((i : Nat) : Int) < 10 ^ 18 := ⟨by omega, by omega⟩
  cases n <;> exact this
theorem nm5_names {n : Nat} {ns : List Str} (h : ∀ z ∈ ns, NmOk z) : Nm5 (n + 1) (nmW ns) := fun w hw => by
  obtain ⟨z, hz, rfl⟩ := List.mem_map.mp hw
  exact nm5_str (h z hz)
theorem nm5_pt {n : Nat} {p : Pat} (h : ∀ q ∈ p, NmOk q.1 ∧ NmOk q.2) : Nm5 (n + 2) (ptW p) := fun w hw => by
  obtain ⟨q, hq, rfl⟩ := List.mem_map.mp hw
  intro u hu
  simp only [List.mem_cons, List.not_mem_nil, or_false] at hu
  rcases hu with rfl | rfl
  · exact nm5_str (h q hq).1
  · exact nm5_str (h q hq).2
theorem rw_nm5 : ∀ {r : Rw}, RwN r → Nm5 3 (rwW r)
  | .say a, h => fun u hu => by
    simp only [List.mem_cons, List.not_mem_nil, or_false] at hu
    rcases hu with rfl | rfl
    · exact nm5_str four_nm.2.2.1
    · exact nm5_str h
  | .step wd ho ne mk fl th ot, ⟨h0, h2, ⟨h3, h4⟩, ⟨h5, h6⟩, ⟨h7, h8⟩, h9, h10⟩ => fun u hu => by
    simp only [List.mem_cons, List.not_mem_nil, or_false] at hu
    rcases hu with rfl | rfl | rfl | rfl | rfl | rfl | rfl
    · exact nm5_str (word_nm h0)
    · exact nm5_str h2
    · exact nm5_pt h4
    · exact nm5_pt h6
    · exact nm5_names h8
    · exact nm5_int h9
    · exact nm5_int h10
theorem sch_nm5 {v : Wd} (ok : WdOk v) {s : Sch} (h : SchOk v s) : Nm5 5 (schW s) := fun u hu => by
  simp only [List.mem_cons, List.not_mem_nil, or_false] at hu
  rcases hu with rfl | rfl | rfl | rfl
  · exact nm5_str h.nm
  · exact nm5_str (sorts4_nm _ h.so)
  · exact nm5_names (watch_nm ok h.wt)
  · intro w hw
    obtain ⟨r, hr, rfl⟩ := List.mem_map.mp hw
    exact rw_nm5 (sch_rw ok h r hr)
theorem plans_nm5 {v : Wd} (ok : WdOk v) {ps : List Sch} (pl : PlOk v ps) : Nm5 6 (.tup (ps.map schW)) := fun u hu => by
  obtain ⟨s, hs, rfl⟩ := List.mem_map.mp hu
  exact sch_nm5 ok (pl.each s hs)
theorem sz_names {ns : List Str} {k : Nat} (h : ns.length ≤ k) : sz (nmW ns) ≤ k + 1 := by
  have := szs_map W.str 1 (xs := ns) fun _ _ => Nat.le_refl 1
  show szs (ns.map W.str) + 1 ≤ _
  omega
theorem sz_patt {p : Pat} (h : p.length ≤ 6) : sz (ptW p) ≤ 19 := by
  have := szs_map prW 3 (xs := p) fun _ _ => Nat.le_refl 3
  show szs (p.map prW) + 1 ≤ _
  omega
theorem sz_rw : ∀ {r : Rw}, RwN r → sz (rwW r) ≤ 60
  | .say a, h => by show (1 + (1 + 0)) + 1 ≤ 60; decide
  | .step wd ho ne mk fl th ot, ⟨h0, h2, ⟨h3, h4⟩, ⟨h5, h6⟩, ⟨h7, h8⟩, h9, h10⟩ => by
    have a := sz_patt h3
    have b := sz_patt h5
    have c := sz_names h7
    show (1 + (1 + (sz (ptW ne) + (sz (ptW mk) + (sz (nmW fl) + (1 + (1 + 0))))))) + 1 ≤ 60
    omega
theorem sz_sch {v : Wd} (ok : WdOk v) {s : Sch} (h : SchOk v s) : sz (schW s) ≤ 1000 := by
  have a := sz_names h.wt.len
  have b := szs_map rwW 60 (xs := s.rows) fun r hr => sz_rw (sch_rw ok h r hr)
  have := h.hi
  show (1 + (1 + (sz (nmW s.watch) + ((szs (s.rows.map rwW) + 1) + 0)))) + 1 ≤ 1000
  omega
theorem sz_plans {v : Wd} (ok : WdOk v) {ps : List Sch} (pl : PlOk v ps) : sz (.tup (ps.map schW)) ≤ 100000 := by
  have b := szs_map schW 1000 (xs := ps) fun s hs => sz_sch ok (pl.each s hs)
  have := pl.hi
  show szs (ps.map schW) + 1 ≤ 100000
  omega
theorem eq_self (x : Str) : decide (x = x) = true := by simp
theorem ne_self (x : Str) : (!decide (x = x)) = false := by simp
section
variable {P : Program} {w : World} {K : PySem.W.Frag} {mg : Str → Option Value} {base : Heap}
abbrev N_Lright : List Str := ["_law_jar_here", "_law_lore", "_law_made_here", "_law_plans_here", "_law_page", "_law_found", "_law_again"]
abbrev s_Lright : Stmt := top 87
theorem sc_Lright : FnScope N_Lright ["_law_jar_here", "_law_lore", "_law_made_here"] (defScope s_Lright) := ⟨rfl, rfl, rfl, by decide +kernel, rfl, by decide +kernel, by decide +kernel⟩
def S_lright (Cl : Addr) : SpW := fun ws mu P => ∃ p Lo Nm v x y c, ws = [.m p, .m Lo, .m y] ∧ Lw mu Lo Nm v x ∧ WdOk v ∧ LxOk v x ∧ Lo ≠ p ∧ Nm ≠ p ∧ mu y = some (.ins Cl (wdFs v)) ∧ y ≠ p ∧ JarOk mu p c ∧ c + 2000 < 10000 ∧ ∀ mu', JarOk mu' p (c + 1300) → ExtBut p mu mu' → P (.bl true) mu'
set_option maxHeartbeats 4000000 in
theorem d_Lright {Cl : Addr} (D : Dfn K mg "_law_right" s_Lright ["_law_jar_here", "_law_lore", "_law_made_here"]) (B : Bl mg) (D_plans : DefOk P w K mg base "_law_plans" ["_law_jar_here", "_law_lore"] 6 S_lplans) (D_page : DefOk P w K mg base "_law_schemes_page" ["_law_plans_here"] 3 S_lpage)
    (D_schemes : DefOk P w K mg base "is_schemes" ["world", "value"] 9 (S_is_schemes Cl)) (D_made : DefOk P w K mg base "_law_made" ["_law_lore"] 9 (S_made Cl))
    (D_show : DefOk P w K mg base "show_schemes" ["world", "schemes"] 11 (S_show_schemes Cl)) (K_show : DefKw2 P w K mg base "show_schemes" "world" "schemes" 11 (S_show_schemes Cl))
    (D_read : DefOk P w K mg base "read_schemes" ["world", "text"] 11 (S_read_schemes Cl)) (K_read : DefKw2 P w K mg base "read_schemes" "world" "text" 11 (S_read_schemes Cl)) : DefG P w K mg base "_law_right" ["_law_jar_here", "_law_lore", "_law_made_here"] 12 (S_lright Cl) := by
  refine dfnG D sc_Lright (fun ws mu P ⟨_, _, _, _, _, _, _, e, _⟩ => by rw [e]; rfl) (fun f cdv A outer s H E hr hgd ws mu Pt ⟨p, Lo, Nm, v, x, y, c, e, lw, ok, lx, Lp, Np, hy, yp, jar, c1, h⟩ => ?_)
  subst e
  refine sss_cons (ss_asg (se_callD D_plans (hr.mono (by decide)) (sa_cons (se_var (i := 0) rfl (sa_cons (se_var (i := 1) rfl (sa_nil ?_)))))))
  refine ⟨p, Lo, Nm, v, x, c, rfl, lw, ok, lx, Lp, Np, jar, c1, fun ps mu1 pl j1 e1 => ?_⟩
  have hy1 := e1 _ _ yp hy
  have lw1 := lw.but e1 Lp Np
  refine sg_name (i := 3) ?_ sc_Lright.nd
  refine sss_cons (ss_asg (se_callD D_page (hr.mono (by decide)) (sa_cons (se_var (i := 3) rfl (sa_nil ?_)))))
  refine ⟨v, ps, rfl, ok, pl, fun mu2 e2 => ?_⟩
  refine sg_name (i := 4) ?_ sc_Lright.nd
  refine sss_cons (ss_if (st_of_w (sw_or (st_not (st_val ?_)))))
  refine se_callD D_schemes (hr.mono (by decide)) (sa_cons (se_var (i := 2) rfl (sa_cons (se_var (i := 3) rfl (sa_nil ?_)))))
  refine ⟨⟨y, v, ps, rfl, e2 _ _ hy1, ok, pl⟩, fun mu3 e3 => ?_⟩
  have e23 := e2.trans e3
  refine sw_or (st_cmp op_ne neT_w (nomark _) ?_)
  refine se_callD D_show (hr.mono (by decide)) (sa_cons (se_var (i := 2) rfl (sa_cons (se_var (i := 3) rfl (sa_nil ?_)))))
  refine ⟨y, v, ps, rfl, e23 _ _ hy1, ok, pl, fun mu4 e4 => ?_⟩
  have e24 := e23.trans e4
  refine se_var (i := 4) rfl ⟨_, _, rfl, rfl, fun b hb => ?_⟩
  rw [hb.trans (ne_self _)]
  refine sw_or1 (st_cmp op_ne neT_w (nomark _) ?_)
  refine se_kw2 K_show (hr.mono (by decide)) (se_var (i := 2) rfl (se_var (i := 3) rfl ?_))
  refine ⟨y, v, ps, rfl, e24 _ _ hy1, ok, pl, fun mu5 e5 => ?_⟩
  have e25 := e24.trans e5
  refine se_var (i := 4) rfl ⟨_, _, rfl, rfl, fun b hb => ?_⟩
  rw [hb.trans (ne_self _)]
  refine sss_nil ?_
  refine sss_cons (ss_asg (se_callD D_read (hr.mono (by decide)) (sa_cons (se_var (i := 2) rfl (sa_cons (se_var (i := 4) rfl (sa_nil ?_)))))))
  refine ⟨y, v, ps, rfl, e25 _ _ hy1, ok, pl, fun mu6 e6 => ?_⟩
  have e26 := e25.trans e6
  refine sg_name (i := 5) ?_ sc_Lright.nd
  have n6 := plans_nm5 ok pl
  have s6 := shows5 6 _ n6
  have z6 := sz_plans ok pl
  refine sss_cons (ss_if (st_of_w (sw_or (st_cmp op_ne neT_w (nomark _) ?_))))
  refine se_repr hr hgd (se_var (i := 5) rfl (s6.repr trivial (by decide) z6 ?_)) B.repr
  refine se_repr hr hgd (se_var (i := 3) rfl (s6.repr trivial (by decide) z6 ?_)) B.repr
  refine ⟨_, _, rfl, rfl, fun b hb => ?_⟩
  rw [hb.trans (ne_self _)]
  refine sw_or1 (st_cmp op_ne neT_w (nomark _) ?_)
  refine se_repr hr hgd ?_ B.repr
  refine se_kw2 K_read (hr.mono (by decide)) (se_var (i := 2) rfl (se_var (i := 4) rfl ?_))
  refine ⟨y, v, ps, rfl, e26 _ _ hy1, ok, pl, fun mu7 e7 => s6.repr trivial (by decide) z6 ?_⟩
  have e27 := e26.trans e7
  refine se_repr hr hgd (se_var (i := 3) rfl (s6.repr trivial (by decide) z6 ?_)) B.repr
  refine ⟨_, _, rfl, rfl, fun b hb => ?_⟩
  rw [hb.trans (ne_self _)]
  refine sss_nil ?_
  refine sss_cons (ss_asg (se_callD D_made (hr.mono (by decide)) (sa_cons (se_var (i := 1) rfl (sa_nil ?_)))))
  refine ⟨Lo, v, rfl, (lw1.ext e27).lore, ok, fun y2 mu8 ny2 e8 hy2 => ?_⟩
  have e28 := e27.trans e8
  refine sg_name (i := 6) ?_ sc_Lright.nd
  refine sss_cons (ss_ret (se_and (se_cmp op_eq eqT_w (nomark _) ?_)))
  refine se_callD D_show (hr.mono (by decide)) (sa_cons (se_var (i := 6) rfl (sa_cons (se_var (i := 5) rfl (sa_nil ?_)))))
  refine ⟨y2, v, ps, rfl, hy2, ok, pl, fun mu9 e9 => ?_⟩
  have e29 := e28.trans e9
  refine se_var (i := 4) rfl ⟨_, _, rfl, rfl, fun b hb => ?_⟩
  rw [hb.trans (eq_self _)]
  refine se_one (se_cmp (op_eqD hr.units) eq_w (nomark _) ?_)
  refine se_callD D_read (hr.mono (by decide)) (sa_cons (se_var (i := 6) rfl (sa_cons (se_var (i := 4) rfl (sa_nil ?_)))))
  refine ⟨y2, v, ps, rfl, e9 _ _ hy2, ok, pl, fun mu10 e10 => ?_⟩
  refine se_var (i := 3) rfl ?_
  refine ⟨_, _, asD_pl s6.pl, asD_pl s6.pl, s6.shaped (by decide), s6.shaped (by decide), ?_⟩
  rw [eqv_refl _ s6.lay]
  have ee := e29.trans e10
  exact h _ (j1.ext ee) (e1.trans (Ext.but ee))
end
end K1
set_option Elab.async false
set_option linter.all false
set_option maxRecDepth 100000
/-! k10: law. -/
namespace K1
open PySem L2 Dv
section
variable {X : Cx}
theorem max2_w : CallW X (fun xs H Q => ∃ i j, xs = [.int i, .int j] ∧ Q (.int (if j > i then j else i)) H) fun ws mu P => ∃ i j, ws = [.int i, .int j] ∧ P (.int (if j > i then j else i)) mu := fun ws vs mu H P Q d m ⟨i, j, e, q⟩ k => by
  subst e
  obtain ⟨x, y, e, d1, d2⟩ := d.two
  have d1 : x = .int i := d1
  have d2 : y = .int j := d2
  subst e d1 d2
  exact ⟨i, j, rfl, k.now q rfl m⟩
theorem min2_w : CallW X (fun xs H Q => ∃ i j, xs = [.int i, .int j] ∧ Q (.int (if j < i then j else i)) H) fun ws mu P => ∃ i j, ws = [.int i, .int j] ∧ P (.int (if j < i then j else i)) mu := fun ws vs mu H P Q d m ⟨i, j, e, q⟩ k => by
  subst e
  obtain ⟨x, y, e, d1, d2⟩ := d.two
  have d1 : x = .int i := d1
  have d2 : y = .int j := d2
  subst e d1 d2
  exact ⟨i, j, rfl, k.now q rfl m⟩
end
section
variable {P : Program} {w : World} {K : PySem.W.Frag} {mg : Str → Option Value} {base : Heap} {f a Cl : Addr} {fd : FuncData} {ns : List Int}
abbrev N_law : List Str := ["_law_script", "_law_k", "_law_jar_here", "_law_lore", "_law_made_here", "_law_turn"]
abbrev s_law : Stmt := top 88
theorem sc_law : FnScope N_law ["_law_script"] (defScope s_law) := ⟨rfl, rfl, rfl, by decide +kernel, rfl, by decide +kernel, by decide +kernel⟩
def S_law (a : Addr) : SpW := fun ws mu P => ws = [.m a] ∧ ∀ mu', P (.bl true) mu'
set_option maxHeartbeats 1000000 in
theorem ok_law (F : Fun K "law" "law" s_law f fd) (B : Bl mg) (sc : Scr base a ns) (D_jar : DefOk P w K mg base "_law_jar" ["_law_script", "_law_k"] 1 (S_jar a)) (D_world : DefOk P w K mg base "_law_world" ["_law_jar_here"] 4 S_lworld) (D_made : DefOk P w K mg base "_law_made" ["_law_lore"] 9 (S_made Cl))
    (D_right : DefG P w K mg base "_law_right" ["_law_jar_here", "_law_lore", "_law_made_here"] 12 (S_lright Cl)) : FnG P w K mg base 13 f fd ["_law_script"] (spW K (S_law a)) := by
  refine okG F sc_law (fun ws mu P ⟨e, _⟩ => by rw [e]; rfl) (fun cdv A outer s H E hr hgd ws mu Pt ⟨e, h⟩ => ?_)
  subst e
  refine sss_cons ?_
  refine ss_for PassesOwn.never rfl (by intro _; rfl) ?_
  refine si_range ?_ B.range
  refine se_blt (call_max2 rfl) max2_w B.max ?_
  refine sa_cons (se_int (sa_cons (se_blt (call_min2 rfl) min2_w B.min ?_)))
  refine sa_cons (se_int (sa_cons (se_lenB sc (se_var (i := 0) rfl ⟨rfl, sa_nil ?_⟩) B.len)))
  refine ⟨_, _, rfl, sa_nil ⟨_, _, rfl, ?_⟩⟩
  have hr4 : ∀ n : Nat, ∃ r : Nat, r ≤ 4 ∧ (if (if ((n : Nat) : Int) < 4 then ((n : Nat) : Int) else 4) > 1 then (if ((n : Nat) : Int) < 4 then ((n : Nat) : Int) else 4) else (1 : Int)) = (r : Nat) := fun n => by
    by_cases h1 : ((n : Nat) : Int) < 4
    · by_cases h2 : ((n : Nat) : Int) > 1
      · exact ⟨n, by omega, by rw [if_pos h1, if_pos h2]⟩
      · exact ⟨1, by omega, by rw [if_pos h1, if_neg h2]; rfl⟩
    · exact ⟨4, by omega, by rw [if_neg h1, if_pos (by decide)]; rfl⟩
  obtain ⟨r, r4, er⟩ := hr4 ns.length
  rw [er]
  refine ⟨by omega, by omega, ?_⟩
  rw [Int.toNat_natCast]
  refine ⟨fun i G' mu' => ∃ x y z u, G' = [some (.m a), x, y, z, u, none], ⟨none, none, none, none, rfl⟩, fun _ _ _ _ _ => trivial, fun i u G' mu' hu ⟨x, y, z, u2, eG⟩ => ?_, fun G' mu' ⟨x, y, z, u2, eG⟩ => ?_⟩
  · subst eG
    have hi : i < r := by have := (List.getElem?_eq_some_iff.mp hu).1; simpa using this
    have eu : u = .int ((i : Nat) : Int) := by
      rw [List.getElem?_map, List.getElem?_range hi] at hu
      exact (Option.some.inj hu).symm
    subst eu
    refine sg_name (i := 1) ?_ sc_law.nd
    refine sss_cons (ss_asg (se_callD D_jar (hr.mono (by decide)) (sa_cons (se_var (i := 0) rfl (sa_cons (se_var (i := 1) rfl (sa_nil ?_)))))))
    refine ⟨i, rfl, by omega, fun j mu6 nj jar e6 => ?_⟩
    refine sg_name (i := 2) ?_ sc_law.nd
    refine sss_cons (ss_asg (se_callD D_world (hr.mono (by decide)) (sa_cons (se_var (i := 2) rfl (sa_nil ?_)))))
    refine ⟨j, 0, rfl, jar, by decide, fun Lo Nm v x2 mu7 lw ok lx Lp Np j7 e7 => ?_⟩
    refine sg_name (i := 3) ?_ sc_law.nd
    refine sss_cons (ss_asg (se_callD D_made (hr.mono (by decide)) (sa_cons (se_var (i := 3) rfl (sa_nil ?_)))))
    refine ⟨Lo, v, rfl, lw.lore, ok, fun y2 mu8 ny2 e8 hy2 => ?_⟩
    refine sg_name (i := 4) ?_ sc_law.nd
    have y2j : y2 ≠ j := Ne.symm (j7.ne ny2)
    have j8 := j7.ext e8
    have lw8 := lw.ext e8
    refine sss_cons (ss_if (st_not (st_val (se_all ?_ B.all))))
    refine se_lc (own := [("_law_turn", 5)]) (.nm 5) rfl sc_law.nd (blkOk_by (N := N_law) (sc := defScope s_law) (by decide +kernel)) rfl (fun _ _ _ _ _ => (pg_name (i := 5) sc_law.nd rfl (Or.inl rfl))) (by intro _; rfl) ?_
    refine si_range ?_ B.range
    refine se_int ⟨by decide, by decide, ?_⟩
    intro D hD
    refine ⟨fun k acc mu2 => acc = List.replicate k (W.bl true) ∧ JarOk mu2 j (60 + k * 1300) ∧ Lw mu2 Lo Nm v x2 ∧ mu2 y2 = some (.ins Cl (wdFs v)), ⟨rfl, j8, lw8, hy2⟩, fun _ _ _ _ _ => trivial, fun k v2 acc mu9 hv ⟨ea, jr, lw9, hy9⟩ => ?_, fun acc mu9 ⟨ea, jr, lw9, hy9⟩ => ?_⟩
    · have k3 : k < 3 := by have := (List.getElem?_eq_some_iff.mp hv).1; simpa using this
      refine ⟨by rw [ea, List.length_replicate]; exact Nat.lt_of_lt_of_le k3 (by decide), _, rfl, fun s H C cl fp => ?_⟩
      refine se_callG D_right (hr.mono (by decide)) hgd (sa_cons (se_var (i := 2) rfl (sa_cons (se_var (i := 3) rfl (sa_cons (se_var (i := 4) rfl (sa_nil ?_)))))))
      refine ⟨j, Lo, Nm, v, x2, y2, _, rfl, lw9, ok, lx, Lp, Np, hy9, y2j, jr, by omega, fun mu10 j10 e10 => ⟨?_, j10.mono (by omega), lw9.but e10 Lp Np, e10 _ _ y2j hy9⟩⟩
      rw [ea, List.replicate_succ']
    · refine ⟨[true, true, true], by rw [setM_same, ea]; rfl, ?_⟩
      refine sss_nil ?_
      refine sss_nil ?_
      exact ⟨_, _, _, _, rfl⟩
  · subst eG
    exact sss_cons (ss_ret (se_bl (h _)))
end
end K1
set_option Elab.async false
set_option linter.all false
set_option maxRecDepth 100000
/-! All together. -/
namespace K1
open PySem L2 Dv
section
variable {P : Program} {w : World} {K : PySem.W.Frag} {mg : Str → Option Value} {h : Heap}
theorem dfn_by {x : Str} {st : Stmt} {ps : List Str} {f : Addr} {oc : Value} {od an : Option Addr} {osl : Array (Option Value)} {kV doc pm cdv ct : Value} (X : K.In h) (G : h.Ns mainGlobals mg)
    (b : ∀ (kV doc pm : Value) (an : Option Addr) (cdv ct : Value) (us : List Value), us.length = ps.length → bindArgs (PySem.W.fnOf x x (defArgs st) (defBody st) (defScope st) .none kV doc pm an cdv ct) ⟨us, []⟩ = pure (ps.zip us))
    (a : PySem.W.nsIn K mainGlobals x = some (some (.ref f))) (l : K.lookup f = some ⟨oc, od, .func (PySem.W.fnOf x x (defArgs st) (defBody st) (defScope st) .none kV doc pm an cdv ct), osl⟩)
    (c : PySem.W.codeIn K cdv x = true) (k : PySem.W.keepIn K (.ref f) = true) : Dfn K mg x st ps :=
  ⟨f, _, fun_mk l c k, PySem.W.mg_of X G a, (fun_mk l c k).binds b⟩
theorem mdfn_by {C : Addr} {x qual : Str} {st : Stmt} {ps : List Str} {f : Addr} {oc : Value} {od an : Option Addr} {osl : Array (Option Value)} {kV doc pm cdv ct : Value}
    (b : ∀ (kV doc pm : Value) (an : Option Addr) (cdv ct : Value) (us : List Value), us.length = ps.length → bindArgs (PySem.W.fnOf x qual (defArgs st) (defBody st) (defScope st) .none kV doc pm an cdv ct) ⟨us, []⟩ = pure (ps.zip us))
    (a : PySem.W.findIn K (.ref C) x = some (some (.ref f))) (i : PySem.W.isFn K (.ref f) = true) (l : K.lookup f = some ⟨oc, od, .func (PySem.W.fnOf x qual (defArgs st) (defBody st) (defScope st) .none kV doc pm an cdv ct), osl⟩)
    (c : PySem.W.codeIn K cdv qual = true) (k : PySem.W.keepIn K (.ref f) = true) : MDfn K C x qual st ps :=
  ⟨f, _, fun_mk l c k, ⟨a, i, k⟩, (fun_mk l c k).binds b⟩
theorem kdfn_by {C : Addr} {x qual : Str} {st : Stmt} {ps : List Str} {f : Addr} {oc : Value} {od an : Option Addr} {osl : Array (Option Value)} {kV doc pm cdv ct : Value} (X : K.In h) (G : h.Ns mainGlobals mg)
    (b : ∀ (kV doc pm : Value) (an : Option Addr) (cdv ct : Value) (us : List Value), us.length = ps.length → bindArgs (PySem.W.fnOf "__init__" qual (defArgs st) (defBody st) (defScope st) .none kV doc pm an cdv ct) ⟨us, []⟩ = pure (ps.zip us))
    (g : PySem.W.nsIn K mainGlobals x = some (some (.ref C))) (m : PySem.W.makesIn K C = true) (kc : PySem.W.keepIn K (.ref C) = true)
    (a : PySem.W.findIn K (.ref C) "__init__" = some (some (.ref f))) (i : PySem.W.isFn K (.ref f) = true) (l : K.lookup f = some ⟨oc, od, .func (PySem.W.fnOf "__init__" qual (defArgs st) (defBody st) (defScope st) .none kV doc pm an cdv ct), osl⟩)
    (c : PySem.W.codeIn K cdv qual = true) (k : PySem.W.keepIn K (.ref f) = true) : KDfn K mg x C qual st ps :=
  ⟨f, _, fun_mk l c k, ⟨m, a, i, kc⟩, PySem.W.mg_of X G g, (fun_mk l c k).binds b⟩
theorem kit_same {C : Addr} : PySem.W.kitOne K (.ref C) (.ref C) = some true := by
  unfold PySem.W.kitOne
  rw [if_pos (by simp)]
theorem kit_no {C : Addr} {T : String} {c : _} (h1 : PySem.W.clsIn K C = some c) (h2 : PySem.W.typeIn K (.ref C) = some (.type "type")) (h3 : PySem.W.subIn K (.type T) (.ref C) = some false) : PySem.W.kitOne K (.type T) (.ref C) = some false := by
  unfold PySem.W.kitOne PySem.W.kitCls
  rw [if_neg (by simp)]
  simp only [h1, h2]
  exact h3
theorem wcls_by {C : Addr} (X : K.In h) (G : h.Ns mainGlobals mg) (a : PySem.W.nsIn K mainGlobals "World" = some (some (.ref C))) (pg : PySem.W.plainGet K C Str.empty = true) (hd : PySem.W.hasDictIn K C = true) (po : PySem.W.plainOver K C = true)
    (sa : PySem.W.findIn K (.ref C) "__setattr__" = some (some (.builtin "object.__setattr__"))) (n1 : PySem.W.findIn K (.ref C) "houses" = some none) (n2 : PySem.W.findIn K (.ref C) "slots" = some none) (n3 : PySem.W.findIn K (.ref C) "bears" = some none)
    (n4 : PySem.W.findIn K (.ref C) "never" = some none) (n5 : PySem.W.findIn K (.ref C) "lapses" = some none) (n6 : PySem.W.findIn K (.ref C) "first" = some none) (n7 : PySem.W.findIn K (.ref C) "stands" = some none) : WCls K mg C :=
  ⟨⟨pg, hd, po, sa⟩, n1, n2, n3, n4, n5, n6, n7, PySem.W.mg_of X G a⟩
theorem iscls_by {C : Addr} {c : _} (cl : Cls K C) (h1 : PySem.W.clsIn K C = some c) (h2 : PySem.W.typeIn K (.ref C) = some (.type "type")) (s1 : PySem.W.subIn K (.type "NoneType") (.ref C) = some false) (s2 : PySem.W.subIn K (.type "int") (.ref C) = some false) (s3 : PySem.W.subIn K (.type "str") (.ref C) = some false) (s4 : PySem.W.subIn K (.type "tuple") (.ref C) = some false)
    (ha : PySem.W.findIn K (.ref C) "__class__" = some (some (.builtin "object.__class__"))) (hn : PySem.W.specialIn K (.builtin "object.__class__") "__get__" = some (some (.builtin "getset_descriptor.__get__"))) (ht : PySem.W.takesIn K (.builtin "object.__class__") = some true) (hm : PySem.W.mroIn K C (.type "object") = some true) : IsCls K C :=
  ⟨cl, ha, hn, ht, hm, kit_same, kit_no h1 h2 s1, kit_no h1 h2 s2, kit_no h1 h2 s3, kit_no h1 h2 s4⟩
theorem bl_by (X : K.In h) (G : h.Ns mainGlobals mg) {t1 t2 : Tok} (b1 : PySem.W.nsIn K mainGlobals "isinstance" = some none) (b2 : PySem.W.nsIn K mainGlobals "tuple" = some none) (b3 : PySem.W.nsIn K mainGlobals "list" = some none) (b4 : PySem.W.nsIn K mainGlobals "str" = some none)
    (b5 : PySem.W.nsIn K mainGlobals "len" = some none) (b6 : PySem.W.nsIn K mainGlobals "all" = some none) (b7 : PySem.W.nsIn K mainGlobals "any" = some none) (b8 : PySem.W.nsIn K mainGlobals "zip" = some none) (b9 : PySem.W.nsIn K mainGlobals "set" = some none)
    (b10 : PySem.W.nsIn K mainGlobals "range" = some none) (b11 : PySem.W.nsIn K mainGlobals "sorted" = some none) (b12 : PySem.W.nsIn K mainGlobals "int" = some none) (b13 : PySem.W.nsIn K mainGlobals "abs" = some none) (b14 : PySem.W.nsIn K mainGlobals "min" = some none)
    (b15 : PySem.W.nsIn K mainGlobals "max" = some none) (b16 : PySem.W.nsIn K mainGlobals "enumerate" = some none) (b17 : PySem.W.nsIn K mainGlobals "dict" = some none) (b18 : PySem.W.nsIn K mainGlobals "repr" = some none)
    (b19 : PySem.W.nsIn K mainGlobals "LETTERS" = some (some (.str "abcdefghijklmnopqrstuvwxyz" t1))) (b20 : PySem.W.nsIn K mainGlobals "MOST_STANDS" = some (some (.int 32 t2))) : Bl mg :=
  ⟨PySem.W.mg_none_of X G b1, PySem.W.mg_none_of X G b2, PySem.W.mg_none_of X G b3, PySem.W.mg_none_of X G b4, PySem.W.mg_none_of X G b5, PySem.W.mg_none_of X G b6, PySem.W.mg_none_of X G b7, PySem.W.mg_none_of X G b8, PySem.W.mg_none_of X G b9, PySem.W.mg_none_of X G b10, PySem.W.mg_none_of X G b11, PySem.W.mg_none_of X G b12, PySem.W.mg_none_of X G b13, PySem.W.mg_none_of X G b14, PySem.W.mg_none_of X G b15, PySem.W.mg_none_of X G b16, PySem.W.mg_none_of X G b17, PySem.W.mg_none_of X G b18, ⟨_, PySem.W.mg_of X G b19⟩, ⟨_, PySem.W.mg_of X G b20⟩⟩
theorem kdic_KT_ANSWERS {x : Str} {d : Addr} {es : Array DictEntry} {n : Nat} {a1 a2 a3 a4 : Addr} {i1 i2 i3 i4 : Array Value} {n1 n2 n3 n4 : Nat} {s1 s2 s3 s4 : Array (Option Value)} (X : K.In h) (G : h.Ns mainGlobals mg) (g : PySem.W.nsIn K mainGlobals x = some (some (.ref d))) (l : K.lookup d = some ⟨.type "dict", none, .dict es n, #[]⟩) (k : PySem.W.KeysLit w.params es.toList)
    (e1 : PySem.W.nsIn K d "put" = some (some (.ref a1))) (l1 : K.lookup a1 = some ⟨.type "tuple", none, .seq i1 n1, s1⟩) (z1 : i1.size ≤ sizeLine) (r1 : Vals ([("done" : Str), "refused", "again"].map V.str) i1.toList)
    (e2 : PySem.W.nsIn K d "drop" = some (some (.ref a2))) (l2 : K.lookup a2 = some ⟨.type "tuple", none, .seq i2 n2, s2⟩) (z2 : i2.size ≤ sizeLine) (r2 : Vals ([("done" : Str), "none", "again"].map V.str) i2.toList)
    (e3 : PySem.W.nsIn K d "look" = some (some (.ref a3))) (l3 : K.lookup a3 = some ⟨.type "tuple", none, .seq i3 n3, s3⟩) (z3 : i3.size ≤ sizeLine) (r3 : Vals ([("there" : Str), "none", "again"].map V.str) i3.toList)
    (e4 : PySem.W.nsIn K d "move" = some (some (.ref a4))) (l4 : K.lookup a4 = some ⟨.type "tuple", none, .seq i4 n4, s4⟩) (z4 : i4.size ≤ sizeLine) (r4 : Vals ([("done" : Str), "again"].map V.str) i4.toList)
    : KDic K w mg x answers4 :=
  ⟨d, PySem.W.mg_of X G g, fun z ys hf => by
    unfold answers4 at hf
    split at hf
    · rename_i q; cases hf; subst q; exact ⟨a1, _, i1, n1, ⟨es, n, _, l, k, e1, rfl⟩, l1, rfl, rfl, z1, r1⟩
    · skip
      split at hf
      · rename_i q; cases hf; subst q; exact ⟨a2, _, i2, n2, ⟨es, n, _, l, k, e2, rfl⟩, l2, rfl, rfl, z2, r2⟩
      · skip
        split at hf
        · rename_i q; cases hf; subst q; exact ⟨a3, _, i3, n3, ⟨es, n, _, l, k, e3, rfl⟩, l3, rfl, rfl, z3, r3⟩
        · skip
          split at hf
          · rename_i q; cases hf; subst q; exact ⟨a4, _, i4, n4, ⟨es, n, _, l, k, e4, rfl⟩, l4, rfl, rfl, z4, r4⟩
          · cases hf⟩
theorem kdic_KT_FLAGS {x : Str} {d : Addr} {es : Array DictEntry} {n : Nat} {a1 a2 : Addr} {i1 i2 : Array Value} {n1 n2 : Nat} {s1 s2 : Array (Option Value)} (X : K.In h) (G : h.Ns mainGlobals mg) (g : PySem.W.nsIn K mainGlobals x = some (some (.ref d))) (l : K.lookup d = some ⟨.type "dict", none, .dict es n, #[]⟩) (k : PySem.W.KeysLit w.params es.toList)
    (e1 : PySem.W.nsIn K d "do" = some (some (.ref a1))) (l1 : K.lookup a1 = some ⟨.type "tuple", none, .seq i1 n1, s1⟩) (z1 : i1.size ≤ sizeLine) (r1 : Vals ([("mark" : Str), "same"].map V.str) i1.toList)
    (e2 : PySem.W.nsIn K d "ask" = some (some (.ref a2))) (l2 : K.lookup a2 = some ⟨.type "tuple", none, .seq i2 n2, s2⟩) (z2 : i2.size ≤ sizeLine) (r2 : Vals ([("kept" : Str), "late", "mark", "same"].map V.str) i2.toList)
    : KDic K w mg x flags2 :=
  ⟨d, PySem.W.mg_of X G g, fun z ys hf => by
    unfold flags2 at hf
    split at hf
    · rename_i q; cases hf; subst q; exact ⟨a1, _, i1, n1, ⟨es, n, _, l, k, e1, rfl⟩, l1, rfl, rfl, z1, r1⟩
    · skip
      split at hf
      · rename_i q; cases hf; subst q; exact ⟨a2, _, i2, n2, ⟨es, n, _, l, k, e2, rfl⟩, l2, rfl, rfl, z2, r2⟩
      · cases hf⟩

theorem kno_by {x : Str} (X : K.In h) (G : h.Ns mainGlobals mg) (g : PySem.W.nsIn K mainGlobals x = some none) : KNo mg x := ⟨PySem.W.mg_none_of X G g⟩
theorem kint_by {x : Str} {n : Int} {t : Tok} (X : K.In h) (G : h.Ns mainGlobals mg) (g : PySem.W.nsIn K mainGlobals x = some (some (.int n t))) : KInt mg x n := ⟨_, PySem.W.mg_of X G g⟩
theorem kstr_by {x z : Str} {t : Tok} (X : K.In h) (G : h.Ns mainGlobals mg) (g : PySem.W.nsIn K mainGlobals x = some (some (.str z t))) : KStr mg x z := ⟨_, PySem.W.mg_of X G g⟩
theorem ktup_by {x : Str} {ys : List Str} {a : Addr} {its : Array Value} {n : Nat} {osl : Array (Option Value)} (X : K.In h) (G : h.Ns mainGlobals mg) (g : PySem.W.nsIn K mainGlobals x = some (some (.ref a))) (l : K.lookup a = some ⟨.type "tuple", none, .seq its n, osl⟩) (z : its.size ≤ sizeLine) (r : Vals (ys.map V.str) its.toList) : KTup K mg x ys :=
  ⟨a, _, its, n, PySem.W.mg_of X G g, l, rfl, rfl, rfl, z, r⟩
set_option maxHeartbeats 1000000 in
theorem all_by {Cl fa : Addr} (hfa : mg "law" = some (.ref fa)) (C : WCls K mg Cl) (Z : IsCls K Cl) (T : NoSub K Cl) (hobj : PySem.W.mroIn K Cl (.type "object") = some true) (hne : PySem.W.findIn K (.ref Cl) "__ne__" = some (some (.builtin "object.__ne__")))
    (B : Bl mg) (KT_bool : KNo mg "bool") (KT_DIGITS : KStr mg "DIGITS" "0123456789") (KT_ANSWERS : KDic K w mg "ANSWERS" answers4) (KT_FLAGS : KDic K w mg "FLAGS" flags2) (KT_SORTS : KTup K mg "SORTS" sorts4) (D_law : Dfn K mg "law" s_law ["_law_script"])
    (D_is_tuple : Dfn K mg "is_tuple" s_is_tuple ["value", "least", "most"])
    (D_is_rising : Dfn K mg "is_rising" s_is_rising ["values"])
    (D_is_name : Dfn K mg "is_name" s_is_name ["value"])
    (D_are_names : Dfn K mg "are_names" s_are_names ["value", "least", "most"])
    (D_Ltake : Dfn K mg "_law_take" s_Ltake ["_law_jar_here", "_law_many"])
    (D_Lof : Dfn K mg "_law_of" s_Lof ["_law_jar_here", "_law_some"])
    (D_are_houses : Dfn K mg "are_houses" s_are_houses ["value"])
    (D_are_different : Dfn K mg "are_different" s_are_different ["names"])
    (D_is_slot : Dfn K mg "is_slot" s_is_slot ["houses", "value"])
    (D_count_stands : Dfn K mg "count_stands" s_count_stands ["slots"])
    (D_are_slots : Dfn K mg "are_slots" s_are_slots ["houses", "value"])
    (D_is_pair_over : Dfn K mg "is_pair_over" s_is_pair_over ["slots", "value"])
    (D_is_pattern_over : Dfn K mg "is_pattern_over" s_is_pattern_over ["slots", "value"])
    (D_are_full_patterns : Dfn K mg "are_full_patterns" s_are_full_patterns ["slots", "value"])
    (D_first_stand : Dfn K mg "first_stand" s_first_stand ["slots"])
    (D_pattern_holds : Dfn K mg "pattern_holds" s_pattern_holds ["slots", "pattern", "stand"])
    (D_one_holds : Dfn K mg "one_holds" s_one_holds ["slots", "patterns", "stand"])
    (D_is_pattern_at : Dfn K mg "is_pattern_at" s_is_pattern_at ["slots", "house", "value"])
    (D_is_lapse : Dfn K mg "is_lapse" s_is_lapse ["slots", "value"])
    (D_is_world : Dfn K mg "is_world" s_is_world ["houses", "slots", "bears", "never", "lapses"])
    (D_all_stands : Dfn K mg "all_stands" s_all_stands ["slots"])
    (D_World_init : KDfn K mg "World" Cl "World.__init__" s_World___init__ ["self", "houses", "slots", "bears", "never", "lapses"])
    (D_Lmade : Dfn K mg "_law_made" s_Lmade ["_law_lore"])
    (D_Lnames : Dfn K mg "_law_names" s_Lnames ["_law_jar_here", "_law_many"])
    (D_Ljar : Dfn K mg "_law_jar" s_Ljar ["_law_script", "_law_k"])
    (D_Lpairs : Dfn K mg "_law_pairs" s_Lpairs ["_law_pattern_here"])
    (D_words_of : Dfn K mg "words_of" s_words_of ["pattern"])
    (D_text_of : Dfn K mg "text_of" s_text_of ["lines"])
    (D_names_in : Dfn K mg "names_in" s_names_in ["words"])
    (D_pattern_in : Dfn K mg "pattern_in" s_pattern_in ["words"])
    (D_slot_in : Dfn K mg "slot_in" s_slot_in ["words"])
    (D_groups_in : Dfn K mg "groups_in" s_groups_in ["words"])
    (D_Lworld : Dfn K mg "_law_world" s_Lworld ["_law_jar_here"])
    (D_Lhouse : Dfn K mg "_law_house" s_Lhouse ["_law_lore", "_law_slot"])
    (D_Lpattern : Dfn K mg "_law_pattern" s_Lpattern ["_law_jar_here", "_law_lore", "_law_house_here"])
    (D_Lrow : Dfn K mg "_law_row" s_Lrow ["_law_jar_here", "_law_lore", "_law_watch", "_law_many"])
    (D_Ldrawn : Dfn K mg "_law_drawn_scheme" s_Ldrawn ["_law_jar_here", "_law_lore", "_law_name", "_law_most"])
    (D_Lput : Dfn K mg "_law_put" s_Lput ["_law_lore", "_law_name", "_law_here", "_law_there"])
    (D_Ltouch : Dfn K mg "_law_touch" s_Ltouch ["_law_lore", "_law_name", "_law_here", "_law_there"])
    (D_Ldrop : Dfn K mg "_law_drop" s_Ldrop ["_law_lore", "_law_name", "_law_here"])
    (D_Llook : Dfn K mg "_law_look" s_Llook ["_law_lore", "_law_name", "_law_here"])
    (D_Lrow_line : Dfn K mg "_law_row_line" s_Lrow_line ["_law_row_here"])
    (D_Lschemes_page : Dfn K mg "_law_schemes_page" s_Lschemes_page ["_law_plans_here"])
    (D_Lplans : Dfn K mg "_law_plans" s_Lplans ["_law_jar_here", "_law_lore"])
    (D_is_integer : Dfn K mg "is_integer" s_is_integer ["value"])
    (D_is_decimal : Dfn K mg "is_decimal" s_is_decimal ["word"])
    (D_is_number_of : Dfn K mg "is_number_of" s_is_number_of ["many", "value"])
    (D_watched_houses : Dfn K mg "watched_houses" s_watched_houses ["world", "watch"])
    (D_is_slot_name : Dfn K mg "is_slot_name" s_is_slot_name ["world", "value"])
    (D_is_watch : Dfn K mg "is_watch" s_is_watch ["world", "value"])
    (D_is_say : Dfn K mg "is_say" s_is_say ["sort", "value"])
    (D_are_flags : Dfn K mg "are_flags" s_are_flags ["word", "watched", "value"])
    (D_is_step : Dfn K mg "is_step" s_is_step ["world", "watch", "many", "value"])
    (D_is_row : Dfn K mg "is_row" s_is_row ["world", "sort", "watch", "many", "value"])
    (D_are_rows : Dfn K mg "are_rows" s_are_rows ["world", "sort", "watch", "value"])
    (D_is_scheme : Dfn K mg "is_scheme" s_is_scheme ["world", "value"])
    (D_is_schemes : Dfn K mg "is_schemes" s_is_schemes ["world", "value"])
    (D_check_schemes : Dfn K mg "check_schemes" s_check_schemes ["world", "value"])
    (D_words_of_row : Dfn K mg "words_of_row" s_words_of_row ["row"])
    (D_show_schemes : Dfn K mg "show_schemes" s_show_schemes ["world", "schemes"])
    (D_scheme_in : Dfn K mg "scheme_in" s_scheme_in ["words"])
    (D_step_in : Dfn K mg "step_in" s_step_in ["words"])
    (D_row_in : Dfn K mg "row_in" s_row_in ["words"])
    (D_lines_of : Dfn K mg "lines_of" s_lines_of ["text"])
    (D_read_schemes : Dfn K mg "read_schemes" s_read_schemes ["world", "text"])
    (D_Lright : Dfn K mg "_law_right" s_Lright ["_law_jar_here", "_law_lore", "_law_made_here"]) :
    ∃ fd : FuncData, (∀ (s : Shared) (v : Value), BindsTo s fd ⟨[v], []⟩ [("_law_script", v)]) ∧ ∀ (base : Heap) (a : Addr) (ns : List Int), K.In base → base.Ns mainGlobals mg → Scr base a ns → FnG P w K mg base 13 fa fd ["_law_script"] (spW K (S_law a)) := by
  obtain ⟨f, fd, F, hm, hb⟩ := D_law.ex
  have e := hfa.symm.trans hm
  cases e
  refine ⟨fd, fun s v => ?_, fun base a ns _ _ sc => ?_⟩
  · obtain ⟨oc, od, kV, doc, pm, an, cdv, ct, osl, efd, lk, hcd⟩ := F.ex
    subst efd
    exact .of_eq rfl
  · skip
    have E_is_tuple := d_is_tuple (P := P) (w := w) (base := base) D_is_tuple B
    have E_is_rising := d_is_rising (P := P) (w := w) (base := base) D_is_rising B
    have E_is_name := d_is_name (P := P) (w := w) (base := base) D_is_name B
    have E_are_names := d_are_names (P := P) (w := w) (base := base) D_are_names B E_is_tuple E_is_name
    have E__law_take := d_Ltake (P := P) (w := w) (base := base) D_Ltake B
    have E__law_of := d_Lof (P := P) (w := w) (base := base) D_Lof B E__law_take
    have E_are_houses := d_are_houses (P := P) (w := w) (base := base) D_are_houses B E_are_names E_is_rising
    have E_are_different := d_are_different (P := P) (w := w) (base := base) D_are_different B
    have E_is_slot := d_is_slot (P := P) (w := w) (base := base) D_is_slot B E_is_tuple E_is_name E_are_names E_are_different
    have E_count_stands := d_count_stands (P := P) (w := w) (base := base) D_count_stands B
    have E_are_slots := d_are_slots (P := P) (w := w) (base := base) D_are_slots B E_is_tuple E_is_slot E_are_different E_count_stands
    have E_is_pair_over := d_is_pair_over (P := P) (w := w) (base := base) D_is_pair_over B E_is_tuple
    have E_is_pattern_over := d_is_pattern_over (P := P) (w := w) (base := base) D_is_pattern_over B E_is_pair_over E_is_rising
    have E_are_full_patterns := d_are_full_patterns (P := P) (w := w) (base := base) D_are_full_patterns B E_is_pattern_over E_is_rising
    have E_first_stand := d_first_stand (P := P) (w := w) (base := base) D_first_stand B
    have E_pattern_holds := d_pattern_holds (P := P) (w := w) (base := base) D_pattern_holds B
    have E_one_holds := d_one_holds (P := P) (w := w) (base := base) D_one_holds B E_pattern_holds
    have E_is_pattern_at := d_is_pattern_at (P := P) (w := w) (base := base) D_is_pattern_at B E_is_pattern_over
    have E_is_lapse := d_is_lapse (P := P) (w := w) (base := base) D_is_lapse B E_is_tuple E_is_pattern_at
    have E_is_world := d_is_world (P := P) (w := w) (base := base) D_is_world B E_are_houses E_are_slots E_are_full_patterns E_first_stand E_one_holds E_is_tuple E_is_lapse
    have E_all_stands := d_all_stands (P := P) (w := w) (base := base) D_all_stands B
    have E_World := d_World_init (P := P) (w := w) (base := base) D_World_init C B E_is_world E_first_stand E_all_stands
    have E__law_made := d_Lmade (P := P) (w := w) (base := base) D_Lmade E_World
    have E__law_names := d_Lnames (P := P) (w := w) (base := base) D_Lnames B E__law_take E__law_of
    have E__law_jar := d_Ljar (P := P) (w := w) (base := base) sc D_Ljar B
    have E__law_pairs := d_Lpairs (P := P) (w := w) (base := base) D_Lpairs
    have E_words_of := d_words_of (P := P) (w := w) (base := base) D_words_of
    have E_text_of := d_text_of (P := P) (w := w) (base := base) D_text_of
    have E_names_in := d_names_in (P := P) (w := w) (base := base) D_names_in B E_is_name
    have E_pattern_in := d_pattern_in (P := P) (w := w) (base := base) D_pattern_in B E_are_names
    have E_slot_in := d_slot_in (P := P) (w := w) (base := base) D_slot_in B E_names_in
    have E_groups_in := d_groups_in (P := P) (w := w) (base := base) D_groups_in
    have E__law_world := d_Lworld (P := P) (w := w) (base := base) D_Lworld B E__law_take E__law_of E__law_names
    have E__law_house := d_Lhouse (P := P) (w := w) (base := base) D_Lhouse
    have E__law_pattern := d_Lpattern (P := P) (w := w) (base := base) D_Lpattern B E__law_take E__law_of
    have E__law_row := d_Lrow (P := P) (w := w) (base := base) D_Lrow B E__law_take E__law_of E__law_house E__law_pattern
    have E__law_drawn_scheme := d_Ldrawn (P := P) (w := w) (base := base) D_Ldrawn B E__law_take E__law_of E__law_row
    have E__law_put := d_Lput (P := P) (w := w) (base := base) D_Lput E__law_house
    have E__law_touch := d_Ltouch (P := P) (w := w) (base := base) D_Ltouch E__law_house
    have E__law_drop := d_Ldrop (P := P) (w := w) (base := base) D_Ldrop E__law_house
    have E__law_look := d_Llook (P := P) (w := w) (base := base) D_Llook E__law_house
    have E__law_row_line := d_Lrow_line (P := P) (w := w) (base := base) D_Lrow_line B E__law_pairs
    have E__law_schemes_page := d_Lschemes_page (P := P) (w := w) (base := base) D_Lschemes_page B E__law_row_line
    have E__law_plans := d_Lplans (P := P) (w := w) (base := base) D_Lplans B E__law_take E__law_of E__law_put E__law_touch E__law_drop E__law_look E__law_drawn_scheme
    have E_is_integer := d_is_integer (P := P) (w := w) (base := base) D_is_integer B KT_bool
    have E_is_decimal := d_is_decimal (P := P) (w := w) (base := base) D_is_decimal B KT_DIGITS
    have E_is_number_of := d_is_number_of (P := P) (w := w) (base := base) D_is_number_of E_is_integer
    have E_watched_houses := d_watched_houses (P := P) (w := w) (base := base) D_watched_houses C
    have E_is_slot_name := d_is_slot_name (P := P) (w := w) (base := base) D_is_slot_name C
    have E_is_watch := d_is_watch (P := P) (w := w) (base := base) D_is_watch B E_is_slot_name E_is_rising E_watched_houses
    have E_is_say := d_is_say (P := P) (w := w) (base := base) D_is_say KT_ANSWERS E_is_tuple
    have E_are_flags := d_are_flags (P := P) (w := w) (base := base) D_are_flags B KT_FLAGS E_is_rising
    have E_is_step := d_is_step (P := P) (w := w) (base := base) D_is_step C E_is_tuple E_is_pattern_at E_are_flags E_watched_houses E_is_number_of
    have E_is_row := d_is_row (P := P) (w := w) (base := base) D_is_row E_is_say E_is_step
    have E_are_rows := d_are_rows (P := P) (w := w) (base := base) D_are_rows B E_is_tuple E_is_row
    have E_is_scheme := d_is_scheme (P := P) (w := w) (base := base) D_is_scheme KT_SORTS E_is_tuple E_is_name E_is_watch E_are_rows
    have E_is_schemes := d_is_schemes (P := P) (w := w) (base := base) D_is_schemes B E_is_tuple E_are_different E_is_scheme
    have E_check_schemes := d_check_schemes (P := P) (w := w) (base := base) D_check_schemes E_is_schemes
    have E_words_of_row := d_words_of_row (P := P) (w := w) (base := base) D_words_of_row B E_words_of
    obtain ⟨E_show_schemes, EK_show_schemes⟩ := d_show_schemes (P := P) (w := w) (base := base) D_show_schemes B E_check_schemes E_words_of_row E_text_of
    have E_scheme_in := d_scheme_in (P := P) (w := w) (base := base) D_scheme_in E_slot_in
    have E_step_in := d_step_in (P := P) (w := w) (base := base) D_step_in B E_groups_in E_pattern_in E_names_in E_is_name E_is_decimal
    have E_row_in := d_row_in (P := P) (w := w) (base := base) D_row_in B E_is_name E_step_in
    have E_lines_of := d_lines_of (P := P) (w := w) (base := base) D_lines_of B
    obtain ⟨E_read_schemes, EK_read_schemes⟩ := d_read_schemes (P := P) (w := w) (base := base) D_read_schemes B E_lines_of E_scheme_in E_row_in E_check_schemes
    have E__law_right := d_Lright (P := P) (w := w) (base := base) D_Lright B E__law_plans E__law_schemes_page E_is_schemes E__law_made E_show_schemes EK_show_schemes E_read_schemes EK_read_schemes
    exact ok_law F B sc E__law_jar E__law_world E__law_made E__law_right
end
end K1
set_option Elab.async false
set_option linter.all false
set_option maxRecDepth 100000
open PySem PySem.W PyProof.Rows
set_option maxHeartbeats 0 in
theorem PySem.Challenge.cw_unlikekeys_k10_texts_of_schemes_holds : PySem.Challenge.rw_unlikekeys_k10_texts_of_schemes.Holds := by
  w_on; o_law; k_head; (case hw => w_witness2)
  k_fill
  refine Dv.walkG (l := PySem.Challenge.rw_unlikekeys_k10_texts_of_schemes) (k := 13) (S := K1.S_law) (x := "_law_script") rfl rfl ⟨rfl, by decide, by decide⟩ (fun w h Y => PySem.W.kIn_of Y) ?F ?S
  case S => exact fun a P h => ⟨rfl, h⟩
  case F =>
    intro w mg fa h KX G hmg
    refine' K1.all_by hmg ?C ?Z ?T ?hobj ?hne ?B ?KT_bool ?KT_DIGITS ?KT_ANSWERS ?KT_FLAGS ?KT_SORTS ?Dlaw ?D_is_tuple ?D_is_rising ?D_is_name ?D_are_names ?D_Ltake ?D_Lof ?D_are_houses ?D_are_different ?D_is_slot ?D_count_stands ?D_are_slots ?D_is_pair_over ?D_is_pattern_over ?D_are_full_patterns ?D_first_stand ?D_pattern_holds ?D_one_holds ?D_is_pattern_at ?D_is_lapse ?D_is_world ?D_all_stands ?D_World_init ?D_Lmade ?D_Lnames ?D_Ljar ?D_Lpairs ?D_words_of ?D_text_of ?D_names_in ?D_pattern_in ?D_slot_in ?D_groups_in ?D_Lworld ?D_Lhouse ?D_Lpattern ?D_Lrow ?D_Ldrawn ?D_Lput ?D_Ltouch ?D_Ldrop ?D_Llook ?D_Lrow_line ?D_Lschemes_page ?D_Lplans ?D_is_integer ?D_is_decimal ?D_is_number_of ?D_watched_houses ?D_is_slot_name ?D_is_watch ?D_is_say ?D_are_flags ?D_is_step ?D_is_row ?D_are_rows ?D_is_scheme ?D_is_schemes ?D_check_schemes ?D_words_of_row ?D_show_schemes ?D_scheme_in ?D_step_in ?D_row_in ?D_lines_of ?D_read_schemes ?D_Lright
    case C =>
      refine' K1.wcls_by KX G ?aC ?pg ?hd ?po ?sa ?n1 ?n2 ?n3 ?n4 ?n5 ?n6 ?n7
      (case aC => k_is); (case pg => k_is); (case hd => k_is); (case po => k_is); (case sa => k_is); (case n1 => k_is); (case n2 => k_is); (case n3 => k_is); (case n4 => k_is); (case n5 => k_is); (case n6 => k_is); (case n7 => k_is)
    case Z =>
      refine' K1.iscls_by ⟨?pg, ?hd, ?po, ?sa⟩ ?h1 ?h2 ?s1 ?s2 ?s3 ?s4 ?ha ?hn ?ht ?hm
      (case pg => k_is); (case hd => k_is); (case po => k_is); (case sa => k_is); (case h1 => k_is); (case h2 => k_is); (case s1 => k_is); (case s2 => k_is); (case s3 => k_is); (case s4 => k_is); (case ha => k_is); (case hn => k_is); (case ht => k_is); (case hm => k_is)
    case T =>
      refine' ⟨?non, ?int, ?str, ?tup⟩
      (case non => k_is); (case int => k_is); (case str => k_is); (case tup => k_is)
    case hobj => k_is
    case hne => k_is
    case B =>
      refine' K1.bl_by KX G ?b1 ?b2 ?b3 ?b4 ?b5 ?b6 ?b7 ?b8 ?b9 ?b10 ?b11 ?b12 ?b13 ?b14 ?b15 ?b16 ?b17 ?b18 ?b19 ?b20
      (case b1 => k_is); (case b2 => k_is); (case b3 => k_is); (case b4 => k_is); (case b5 => k_is); (case b6 => k_is); (case b7 => k_is); (case b8 => k_is); (case b9 => k_is); (case b10 => k_is); (case b11 => k_is); (case b12 => k_is); (case b13 => k_is); (case b14 => k_is); (case b15 => k_is); (case b16 => k_is); (case b17 => k_is); (case b18 => k_is); (case b19 => k_is); (case b20 => k_is)
    case KT_bool =>
      refine' K1.kno_by KX G ?g
      (case g => k_is)
    case KT_DIGITS =>
      refine' K1.kstr_by KX G ?g
      (case g => k_is)
    case KT_ANSWERS =>
      refine' K1.kdic_KT_ANSWERS KX G ?g ?l ?k ?e1 ?l1 ?z1 ?r1 ?e2 ?l2 ?z2 ?r2 ?e3 ?l3 ?z3 ?r3 ?e4 ?l4 ?z4 ?r4
      (case g => k_is); (case l => k_is); (case k => k_keys); (case e1 => k_is); (case l1 => k_is); (case z1 => decide +kernel); (case r1 => exact .cons ⟨_, rfl⟩ (.cons ⟨_, rfl⟩ (.cons ⟨_, rfl⟩ (.nil)))); (case e2 => k_is); (case l2 => k_is); (case z2 => decide +kernel); (case r2 => exact .cons ⟨_, rfl⟩ (.cons ⟨_, rfl⟩ (.cons ⟨_, rfl⟩ (.nil)))); (case e3 => k_is); (case l3 => k_is); (case z3 => decide +kernel); (case r3 => exact .cons ⟨_, rfl⟩ (.cons ⟨_, rfl⟩ (.cons ⟨_, rfl⟩ (.nil)))); (case e4 => k_is); (case l4 => k_is); (case z4 => decide +kernel); (case r4 => exact .cons ⟨_, rfl⟩ (.cons ⟨_, rfl⟩ (.nil)))
    case KT_FLAGS =>
      refine' K1.kdic_KT_FLAGS KX G ?g ?l ?k ?e1 ?l1 ?z1 ?r1 ?e2 ?l2 ?z2 ?r2
      (case g => k_is); (case l => k_is); (case k => k_keys); (case e1 => k_is); (case l1 => k_is); (case z1 => decide +kernel); (case r1 => exact .cons ⟨_, rfl⟩ (.cons ⟨_, rfl⟩ (.nil))); (case e2 => k_is); (case l2 => k_is); (case z2 => decide +kernel); (case r2 => exact .cons ⟨_, rfl⟩ (.cons ⟨_, rfl⟩ (.cons ⟨_, rfl⟩ (.cons ⟨_, rfl⟩ (.nil)))))
    case KT_SORTS =>
      refine' K1.ktup_by KX G ?g ?l ?z ?r
      (case g => k_is); (case l => k_is); (case z => decide +kernel); (case r => exact .cons ⟨_, rfl⟩ (.cons ⟨_, rfl⟩ (.cons ⟨_, rfl⟩ (.cons ⟨_, rfl⟩ .nil))))
    case Dlaw =>
      refine' K1.dfn_by KX G (fun _ _ _ _ _ _ us hl => match us, hl with | [_], _ => rfl) ?a ?l ?c ?k
      (case a => k_is); (case l => k_is); (case c => k_is); (case k => k_is)
    case D_is_tuple =>
      refine' K1.dfn_by KX G (fun _ _ _ _ _ _ us hl => match us, hl with | [_, _, _], _ => rfl) ?a ?l ?c ?k
      (case a => k_is); (case l => k_is); (case c => k_is); (case k => k_is)
    case D_is_rising =>
      refine' K1.dfn_by KX G (fun _ _ _ _ _ _ us hl => match us, hl with | [_], _ => rfl) ?a ?l ?c ?k
      (case a => k_is); (case l => k_is); (case c => k_is); (case k => k_is)
    case D_is_name =>
      refine' K1.dfn_by KX G (fun _ _ _ _ _ _ us hl => match us, hl with | [_], _ => rfl) ?a ?l ?c ?k
      (case a => k_is); (case l => k_is); (case c => k_is); (case k => k_is)
    case D_are_names =>
      refine' K1.dfn_by KX G (fun _ _ _ _ _ _ us hl => match us, hl with | [_, _, _], _ => rfl) ?a ?l ?c ?k
      (case a => k_is); (case l => k_is); (case c => k_is); (case k => k_is)
    case D_Ltake =>
      refine' K1.dfn_by KX G (fun _ _ _ _ _ _ us hl => match us, hl with | [_, _], _ => rfl) ?a ?l ?c ?k
      (case a => k_is); (case l => k_is); (case c => k_is); (case k => k_is)
    case D_Lof =>
      refine' K1.dfn_by KX G (fun _ _ _ _ _ _ us hl => match us, hl with | [_, _], _ => rfl) ?a ?l ?c ?k
      (case a => k_is); (case l => k_is); (case c => k_is); (case k => k_is)
    case D_are_houses =>
      refine' K1.dfn_by KX G (fun _ _ _ _ _ _ us hl => match us, hl with | [_], _ => rfl) ?a ?l ?c ?k
      (case a => k_is); (case l => k_is); (case c => k_is); (case k => k_is)
    case D_are_different =>
      refine' K1.dfn_by KX G (fun _ _ _ _ _ _ us hl => match us, hl with | [_], _ => rfl) ?a ?l ?c ?k
      (case a => k_is); (case l => k_is); (case c => k_is); (case k => k_is)
    case D_is_slot =>
      refine' K1.dfn_by KX G (fun _ _ _ _ _ _ us hl => match us, hl with | [_, _], _ => rfl) ?a ?l ?c ?k
      (case a => k_is); (case l => k_is); (case c => k_is); (case k => k_is)
    case D_count_stands =>
      refine' K1.dfn_by KX G (fun _ _ _ _ _ _ us hl => match us, hl with | [_], _ => rfl) ?a ?l ?c ?k
      (case a => k_is); (case l => k_is); (case c => k_is); (case k => k_is)
    case D_are_slots =>
      refine' K1.dfn_by KX G (fun _ _ _ _ _ _ us hl => match us, hl with | [_, _], _ => rfl) ?a ?l ?c ?k
      (case a => k_is); (case l => k_is); (case c => k_is); (case k => k_is)
    case D_is_pair_over =>
      refine' K1.dfn_by KX G (fun _ _ _ _ _ _ us hl => match us, hl with | [_, _], _ => rfl) ?a ?l ?c ?k
      (case a => k_is); (case l => k_is); (case c => k_is); (case k => k_is)
    case D_is_pattern_over =>
      refine' K1.dfn_by KX G (fun _ _ _ _ _ _ us hl => match us, hl with | [_, _], _ => rfl) ?a ?l ?c ?k
      (case a => k_is); (case l => k_is); (case c => k_is); (case k => k_is)
    case D_are_full_patterns =>
      refine' K1.dfn_by KX G (fun _ _ _ _ _ _ us hl => match us, hl with | [_, _], _ => rfl) ?a ?l ?c ?k
      (case a => k_is); (case l => k_is); (case c => k_is); (case k => k_is)
    case D_first_stand =>
      refine' K1.dfn_by KX G (fun _ _ _ _ _ _ us hl => match us, hl with | [_], _ => rfl) ?a ?l ?c ?k
      (case a => k_is); (case l => k_is); (case c => k_is); (case k => k_is)
    case D_pattern_holds =>
      refine' K1.dfn_by KX G (fun _ _ _ _ _ _ us hl => match us, hl with | [_, _, _], _ => rfl) ?a ?l ?c ?k
      (case a => k_is); (case l => k_is); (case c => k_is); (case k => k_is)
    case D_one_holds =>
      refine' K1.dfn_by KX G (fun _ _ _ _ _ _ us hl => match us, hl with | [_, _, _], _ => rfl) ?a ?l ?c ?k
      (case a => k_is); (case l => k_is); (case c => k_is); (case k => k_is)
    case D_is_pattern_at =>
      refine' K1.dfn_by KX G (fun _ _ _ _ _ _ us hl => match us, hl with | [_, _, _], _ => rfl) ?a ?l ?c ?k
      (case a => k_is); (case l => k_is); (case c => k_is); (case k => k_is)
    case D_is_lapse =>
      refine' K1.dfn_by KX G (fun _ _ _ _ _ _ us hl => match us, hl with | [_, _], _ => rfl) ?a ?l ?c ?k
      (case a => k_is); (case l => k_is); (case c => k_is); (case k => k_is)
    case D_is_world =>
      refine' K1.dfn_by KX G (fun _ _ _ _ _ _ us hl => match us, hl with | [_, _, _, _, _], _ => rfl) ?a ?l ?c ?k
      (case a => k_is); (case l => k_is); (case c => k_is); (case k => k_is)
    case D_all_stands =>
      refine' K1.dfn_by KX G (fun _ _ _ _ _ _ us hl => match us, hl with | [_], _ => rfl) ?a ?l ?c ?k
      (case a => k_is); (case l => k_is); (case c => k_is); (case k => k_is)
    case D_World_init =>
      refine' K1.kdfn_by KX G (fun _ _ _ _ _ _ us hl => match us, hl with | [_, _, _, _, _, _], _ => rfl) ?g ?m ?kc ?a ?i ?l ?c ?k
      (case g => k_is); (case m => k_is); (case kc => k_is); (case a => k_is); (case i => k_is); (case l => k_is); (case c => k_is); (case k => k_is)
    case D_Lmade =>
      refine' K1.dfn_by KX G (fun _ _ _ _ _ _ us hl => match us, hl with | [_], _ => rfl) ?a ?l ?c ?k
      (case a => k_is); (case l => k_is); (case c => k_is); (case k => k_is)
    case D_Lnames =>
      refine' K1.dfn_by KX G (fun _ _ _ _ _ _ us hl => match us, hl with | [_, _], _ => rfl) ?a ?l ?c ?k
      (case a => k_is); (case l => k_is); (case c => k_is); (case k => k_is)
    case D_Ljar =>
      refine' K1.dfn_by KX G (fun _ _ _ _ _ _ us hl => match us, hl with | [_, _], _ => rfl) ?a ?l ?c ?k
      (case a => k_is); (case l => k_is); (case c => k_is); (case k => k_is)
    case D_Lpairs =>
      refine' K1.dfn_by KX G (fun _ _ _ _ _ _ us hl => match us, hl with | [_], _ => rfl) ?a ?l ?c ?k
      (case a => k_is); (case l => k_is); (case c => k_is); (case k => k_is)
    case D_words_of =>
      refine' K1.dfn_by KX G (fun _ _ _ _ _ _ us hl => match us, hl with | [_], _ => rfl) ?a ?l ?c ?k
      (case a => k_is); (case l => k_is); (case c => k_is); (case k => k_is)
    case D_text_of =>
      refine' K1.dfn_by KX G (fun _ _ _ _ _ _ us hl => match us, hl with | [_], _ => rfl) ?a ?l ?c ?k
      (case a => k_is); (case l => k_is); (case c => k_is); (case k => k_is)
    case D_names_in =>
      refine' K1.dfn_by KX G (fun _ _ _ _ _ _ us hl => match us, hl with | [_], _ => rfl) ?a ?l ?c ?k
      (case a => k_is); (case l => k_is); (case c => k_is); (case k => k_is)
    case D_pattern_in =>
      refine' K1.dfn_by KX G (fun _ _ _ _ _ _ us hl => match us, hl with | [_], _ => rfl) ?a ?l ?c ?k
      (case a => k_is); (case l => k_is); (case c => k_is); (case k => k_is)
    case D_slot_in =>
      refine' K1.dfn_by KX G (fun _ _ _ _ _ _ us hl => match us, hl with | [_], _ => rfl) ?a ?l ?c ?k
      (case a => k_is); (case l => k_is); (case c => k_is); (case k => k_is)
    case D_groups_in =>
      refine' K1.dfn_by KX G (fun _ _ _ _ _ _ us hl => match us, hl with | [_], _ => rfl) ?a ?l ?c ?k
      (case a => k_is); (case l => k_is); (case c => k_is); (case k => k_is)
    case D_Lworld =>
      refine' K1.dfn_by KX G (fun _ _ _ _ _ _ us hl => match us, hl with | [_], _ => rfl) ?a ?l ?c ?k
      (case a => k_is); (case l => k_is); (case c => k_is); (case k => k_is)
    case D_Lhouse =>
      refine' K1.dfn_by KX G (fun _ _ _ _ _ _ us hl => match us, hl with | [_, _], _ => rfl) ?a ?l ?c ?k
      (case a => k_is); (case l => k_is); (case c => k_is); (case k => k_is)
    case D_Lpattern =>
      refine' K1.dfn_by KX G (fun _ _ _ _ _ _ us hl => match us, hl with | [_, _, _], _ => rfl) ?a ?l ?c ?k
      (case a => k_is); (case l => k_is); (case c => k_is); (case k => k_is)
    case D_Lrow =>
      refine' K1.dfn_by KX G (fun _ _ _ _ _ _ us hl => match us, hl with | [_, _, _, _], _ => rfl) ?a ?l ?c ?k
      (case a => k_is); (case l => k_is); (case c => k_is); (case k => k_is)
    case D_Ldrawn =>
      refine' K1.dfn_by KX G (fun _ _ _ _ _ _ us hl => match us, hl with | [_, _, _, _], _ => rfl) ?a ?l ?c ?k
      (case a => k_is); (case l => k_is); (case c => k_is); (case k => k_is)
    case D_Lput =>
      refine' K1.dfn_by KX G (fun _ _ _ _ _ _ us hl => match us, hl with | [_, _, _, _], _ => rfl) ?a ?l ?c ?k
      (case a => k_is); (case l => k_is); (case c => k_is); (case k => k_is)
    case D_Ltouch =>
      refine' K1.dfn_by KX G (fun _ _ _ _ _ _ us hl => match us, hl with | [_, _, _, _], _ => rfl) ?a ?l ?c ?k
      (case a => k_is); (case l => k_is); (case c => k_is); (case k => k_is)
    case D_Ldrop =>
      refine' K1.dfn_by KX G (fun _ _ _ _ _ _ us hl => match us, hl with | [_, _, _], _ => rfl) ?a ?l ?c ?k
      (case a => k_is); (case l => k_is); (case c => k_is); (case k => k_is)
    case D_Llook =>
      refine' K1.dfn_by KX G (fun _ _ _ _ _ _ us hl => match us, hl with | [_, _, _], _ => rfl) ?a ?l ?c ?k
      (case a => k_is); (case l => k_is); (case c => k_is); (case k => k_is)
    case D_Lrow_line =>
      refine' K1.dfn_by KX G (fun _ _ _ _ _ _ us hl => match us, hl with | [_], _ => rfl) ?a ?l ?c ?k
      (case a => k_is); (case l => k_is); (case c => k_is); (case k => k_is)
    case D_Lschemes_page =>
      refine' K1.dfn_by KX G (fun _ _ _ _ _ _ us hl => match us, hl with | [_], _ => rfl) ?a ?l ?c ?k
      (case a => k_is); (case l => k_is); (case c => k_is); (case k => k_is)
    case D_Lplans =>
      refine' K1.dfn_by KX G (fun _ _ _ _ _ _ us hl => match us, hl with | [_, _], _ => rfl) ?a ?l ?c ?k
      (case a => k_is); (case l => k_is); (case c => k_is); (case k => k_is)
    case D_is_integer =>
      refine' K1.dfn_by KX G (fun _ _ _ _ _ _ us hl => match us, hl with | [_], _ => rfl) ?a ?l ?c ?k
      (case a => k_is); (case l => k_is); (case c => k_is); (case k => k_is)
    case D_is_decimal =>
      refine' K1.dfn_by KX G (fun _ _ _ _ _ _ us hl => match us, hl with | [_], _ => rfl) ?a ?l ?c ?k
      (case a => k_is); (case l => k_is); (case c => k_is); (case k => k_is)
    case D_is_number_of =>
      refine' K1.dfn_by KX G (fun _ _ _ _ _ _ us hl => match us, hl with | [_, _], _ => rfl) ?a ?l ?c ?k
      (case a => k_is); (case l => k_is); (case c => k_is); (case k => k_is)
    case D_watched_houses =>
      refine' K1.dfn_by KX G (fun _ _ _ _ _ _ us hl => match us, hl with | [_, _], _ => rfl) ?a ?l ?c ?k
      (case a => k_is); (case l => k_is); (case c => k_is); (case k => k_is)
    case D_is_slot_name =>
      refine' K1.dfn_by KX G (fun _ _ _ _ _ _ us hl => match us, hl with | [_, _], _ => rfl) ?a ?l ?c ?k
      (case a => k_is); (case l => k_is); (case c => k_is); (case k => k_is)
    case D_is_watch =>
      refine' K1.dfn_by KX G (fun _ _ _ _ _ _ us hl => match us, hl with | [_, _], _ => rfl) ?a ?l ?c ?k
      (case a => k_is); (case l => k_is); (case c => k_is); (case k => k_is)
    case D_is_say =>
      refine' K1.dfn_by KX G (fun _ _ _ _ _ _ us hl => match us, hl with | [_, _], _ => rfl) ?a ?l ?c ?k
      (case a => k_is); (case l => k_is); (case c => k_is); (case k => k_is)
    case D_are_flags =>
      refine' K1.dfn_by KX G (fun _ _ _ _ _ _ us hl => match us, hl with | [_, _, _], _ => rfl) ?a ?l ?c ?k
      (case a => k_is); (case l => k_is); (case c => k_is); (case k => k_is)
    case D_is_step =>
      refine' K1.dfn_by KX G (fun _ _ _ _ _ _ us hl => match us, hl with | [_, _, _, _], _ => rfl) ?a ?l ?c ?k
      (case a => k_is); (case l => k_is); (case c => k_is); (case k => k_is)
    case D_is_row =>
      refine' K1.dfn_by KX G (fun _ _ _ _ _ _ us hl => match us, hl with | [_, _, _, _, _], _ => rfl) ?a ?l ?c ?k
      (case a => k_is); (case l => k_is); (case c => k_is); (case k => k_is)
    case D_are_rows =>
      refine' K1.dfn_by KX G (fun _ _ _ _ _ _ us hl => match us, hl with | [_, _, _, _], _ => rfl) ?a ?l ?c ?k
      (case a => k_is); (case l => k_is); (case c => k_is); (case k => k_is)
    case D_is_scheme =>
      refine' K1.dfn_by KX G (fun _ _ _ _ _ _ us hl => match us, hl with | [_, _], _ => rfl) ?a ?l ?c ?k
      (case a => k_is); (case l => k_is); (case c => k_is); (case k => k_is)
    case D_is_schemes =>
      refine' K1.dfn_by KX G (fun _ _ _ _ _ _ us hl => match us, hl with | [_, _], _ => rfl) ?a ?l ?c ?k
      (case a => k_is); (case l => k_is); (case c => k_is); (case k => k_is)
    case D_check_schemes =>
      refine' K1.dfn_by KX G (fun _ _ _ _ _ _ us hl => match us, hl with | [_, _], _ => rfl) ?a ?l ?c ?k
      (case a => k_is); (case l => k_is); (case c => k_is); (case k => k_is)
    case D_words_of_row =>
      refine' K1.dfn_by KX G (fun _ _ _ _ _ _ us hl => match us, hl with | [_], _ => rfl) ?a ?l ?c ?k
      (case a => k_is); (case l => k_is); (case c => k_is); (case k => k_is)
    case D_show_schemes =>
      refine' K1.dfn_by KX G (fun _ _ _ _ _ _ us hl => match us, hl with | [_, _], _ => rfl) ?a ?l ?c ?k
      (case a => k_is); (case l => k_is); (case c => k_is); (case k => k_is)
    case D_scheme_in =>
      refine' K1.dfn_by KX G (fun _ _ _ _ _ _ us hl => match us, hl with | [_], _ => rfl) ?a ?l ?c ?k
      (case a => k_is); (case l => k_is); (case c => k_is); (case k => k_is)
    case D_step_in =>
      refine' K1.dfn_by KX G (fun _ _ _ _ _ _ us hl => match us, hl with | [_], _ => rfl) ?a ?l ?c ?k
      (case a => k_is); (case l => k_is); (case c => k_is); (case k => k_is)
    case D_row_in =>
      refine' K1.dfn_by KX G (fun _ _ _ _ _ _ us hl => match us, hl with | [_], _ => rfl) ?a ?l ?c ?k
      (case a => k_is); (case l => k_is); (case c => k_is); (case k => k_is)
    case D_lines_of =>
      refine' K1.dfn_by KX G (fun _ _ _ _ _ _ us hl => match us, hl with | [_], _ => rfl) ?a ?l ?c ?k
      (case a => k_is); (case l => k_is); (case c => k_is); (case k => k_is)
    case D_read_schemes =>
      refine' K1.dfn_by KX G (fun _ _ _ _ _ _ us hl => match us, hl with | [_, _], _ => rfl) ?a ?l ?c ?k
      (case a => k_is); (case l => k_is); (case c => k_is); (case k => k_is)
    case D_Lright =>
      refine' K1.dfn_by KX G (fun _ _ _ _ _ _ us hl => match us, hl with | [_, _, _], _ => rfl) ?a ?l ?c ?k
      (case a => k_is); (case l => k_is); (case c => k_is); (case k => k_is)
