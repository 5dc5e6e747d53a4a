package stanza

import (
	"stanzakeep/api"
	"stanzakeep/fold"
	"stanzakeep/lines"
)

const lineEnd = "\n"

// field is the field that is under way: its lines so far. Between two fields there are none.
type field struct {
	begin int // its first line's number
	said  []string
}

// start begins a field with its first line.
func (f *field) start(line lines.Line) {
	f.begin, f.said = line.No, []string{line.Text}
}

// goOn puts a line behind those of the field.
func (f *field) goOn(line lines.Line) {
	f.said = append(f.said, line.Text)
}

// underWay tells whether there is a field that a line may go on with.
func (f *field) underWay() bool {
	return len(f.said) > 0
}

// parser is what a text's lines have made so far: the items that are whole, the block that is under way, and its field that is.
type parser struct {
	field
	text    string
	items   []api.Item
	stanzas int         // of the items
	at      int         // where the block begins
	fields  []api.Field // of the block, that are whole
}

// take reads the text's next line.
func (p *parser) take(line lines.Line) error {
	kind := lines.Kind(line.Text)
	goesOn := kind == lines.More && p.underWay()
	if goesOn {
		p.goOn(line)
	}
	wrong := kind == lines.Odd || kind == lines.More && !goesOn || !line.Ended
	// What is wrong with a field is so at its first line, and is told ahead of what is wrong with a line behind that one.
	if wrong || !goesOn {
		if err := p.endField(); err != nil {
			return err
		}
	}
	if wrong {
		return &api.Fault{At: line.No, Err: api.ErrForm}
	}
	switch kind {
	case lines.Pair:
		p.start(line)
	case lines.Empty:
		p.endBlock(line.At)
		p.endItem(api.Blank, line.At+len(line.Text)+len(lineEnd))
	}
	return nil
}

// endField puts the field that is under way, if there is one, behind those of the block.
func (p *parser) endField() error {
	if !p.underWay() {
		return nil
	}
	f, err := fold.Unfold(p.said...)
	if err == nil && p.isFull() {
		err = api.ErrFull
	}
	if err != nil {
		return &api.Fault{At: p.begin, Err: err}
	}
	p.fields = append(p.fields, f)
	p.said = nil
	return nil
}

// isFull tells whether the block can't have one more field.
func (p *parser) isFull() bool {
	if len(p.fields) == 0 {
		return p.stanzas == api.MaxList
	}
	return len(p.fields) == api.MaxFields
}

// endBlock makes an item of the block that ends at a place, if there is one.
func (p *parser) endBlock(end int) {
	switch {
	case p.at == end:
		return
	case len(p.fields) == 0:
		p.endItem(api.Remark, end)
	default:
		p.endItem(api.Record, end)
		p.stanzas++
	}
}

// endItem puts an item behind the others that goes from where they end up to a place.
func (p *parser) endItem(kind, end int) {
	p.items = append(p.items, api.Item{Kind: kind, Raw: p.text[p.at:end], Fields: p.fields})
	// The next block begins with a list of its own, so that no two items share one.
	p.at, p.fields = end, nil
}
