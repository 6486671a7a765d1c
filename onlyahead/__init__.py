"""Onlyahead: machines built of cells that look only ahead."""
