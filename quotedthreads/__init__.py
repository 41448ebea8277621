"""Quotedthreads: whose a quoted line is, for all threads."""
