"""The best of several codes: what it loses against another one on any column."""
