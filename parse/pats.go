package parse

import "athanor/api"

func pats() []rule[api.Pat] {
	return []rule[api.Pat]{
		{api.TokUp, "", (*reader).patWithArgs},
		{0, "", (*reader).patAtom},
	}
}

func patAtoms() []rule[api.Pat] {
	return []rule[api.Pat]{
		{api.TokLow, "", (*reader).patVar},
		{api.TokSign, "_", (*reader).patAny},
		{api.TokInt, "", (*reader).patInt},
		{api.TokUp, "", (*reader).patCon},
		{api.TokSign, "(", (*reader).patInBrackets},
	}
}

func (r *reader) pat() api.Pat {
	return one(r, pats())
}

func (r *reader) patAtom() api.Pat {
	return one(r, patAtoms())
}

func (r *reader) patWithArgs() api.Pat {
	p := r.patCon()
	p.Args = several(r, patAtoms())
	return p
}

func (r *reader) patVar() api.Pat {
	token := r.word(api.TokLow)
	return api.Pat{Kind: api.PatVar, Name: token.Text, At: token.At}
}

func (r *reader) patAny() api.Pat {
	return api.Pat{Kind: api.PatAny, At: r.mark("_")}
}

func (r *reader) patInt() api.Pat {
	token := r.word(api.TokInt)
	return api.Pat{Kind: api.PatInt, N: token.N, At: token.At}
}

func (r *reader) patCon() api.Pat {
	token := r.word(api.TokUp)
	return api.Pat{Kind: api.PatCon, Name: token.Text, At: token.At}
}

func (r *reader) patInBrackets() api.Pat {
	r.mark("(")
	p := r.pat()
	r.mark(")")
	return p
}
