// Package rules has tests alone: of what holds in all layers, so that no layer's own tests need to say it again.
package rules
