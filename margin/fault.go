package margin

import (
	"errors"

	"margin/api"
	"margin/ranges"
	"margin/tree"
)

// fault makes what a caller sees of an error that an inner part answered; of nil it makes nil.
func fault(err error) error {
	var missing ranges.Missing
	if errors.As(err, &missing) {
		return api.Fault{About: missing.Range, Why: api.ErrRange}
	}
	var refusal tree.Refusal
	var why api.Problem
	if !errors.As(err, &refusal) || !errors.As(err, &why) {
		return err
	}
	return api.Fault{About: refusal.Node, Why: why}
}
