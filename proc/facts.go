package proc

import "coracle/api"

const maxFiles = 1 << 20 // that FSSTAT tells of

// canAll is what FSINFO tells that can be done: links of both sorts, moments that are set, and what PATHCONF tells of one file holds for all.
const canAll = 1 | 2 | 8 | 16

// facts: what is told of the whole file system.
func (k *call) facts() api.Value {
	var n []int
	switch k.proc {
	case fsStat:
		left := maxFiles - len(k.IDs())
		n = []int{k.env.Total, k.env.Free, k.env.Free, maxFiles, left, left, 0}
	case fsInfo:
		n = []int{api.MaxData, api.MaxData, 1, api.MaxData, api.MaxData, 1, api.MaxData, api.MaxFile, 1, 0, canAll}
	case pathConf:
		n = []int{api.MaxLinks, api.MaxName, 1, 1, 0, 1}
	}
	return results(0, append(k.known(), n...))
}
