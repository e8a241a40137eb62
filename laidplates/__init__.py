"""Laidplates: a journal, plates laid one at a time, and what comes back from them."""
